/- What a row gives its law: the table of powers; and the row's last step. -/
import Derived.Test.YtdpoemhpmdahjaaDoorRows
import Derived.Test.YtdpoemhpmdahjaaDoorPrn
import Derived.ProofKit
import Derived.LaidMore
import Derived.OpenShut
import Derived.Stop.Joined
import Derived.ChangeSame
import Derived.Lib.LaidTab
namespace Go.Proofs.YtdpoemhpmdahjaaDoor
open Go.ChangeShapes Go.WideShapes Go.ChangeAt Go.RowKit
set_option maxRecDepth 100000

theorem own_none : ownKnob Tryd.prog.godebug = none := by kernel_rfl
def laid3 : List (String × DataW Unit) := [("math/bits.deBruijn32tab", Rows.laid_math_bits_deBruijn32tab), ("math/bits.deBruijn64tab", Rows.laid_math_bits_deBruijn64tab), ("internal/strconv.uint64pow10", Rows.laid_internal_strconv_uint64pow10)]
theorem powVar_named : Tryd.prog.globalNamed "internal/strconv.uint64pow10" = some 1:= by kernel_rfl
theorem powVar_type : (Tryd.prog.globals[1]?).map (·.type) = some 169 := by kernel_rfl
theorem pow_row : (Rows.laid_internal_strconv_uint64pow10 : DataW Unit) = Lib.tabData .u64 Lib.pow10Tab := rfl

theorem tab_of_laid {W : World} (h : laidMetH Tryd.prog laid3 W) : Tab W := by
  rw [MakeChecks.laidMetH_plain _ _ _ (by kernel_rfl)] at h
  obtain ⟨_, ⟨_, _, _, _, _, _, _, _, _, _, ⟨_, _, _, _, _, _, _, _, _, _, ⟨g, t, cs, fuel, p, q, hg, ht, hv, hd, _, _⟩, _⟩, _⟩, _⟩ := h
  obtain rfl := Option.some.inj (powVar_named.symm.trans hg)
  obtain rfl := Option.some.inj (powVar_type.symm.trans ht)
  rw [pow_row] at hd
  have hc := Lib.cells_of_tab Tryd.underlying169 Tryd.underlying146 (by kernel_rfl) (by kernel_rfl) hd
  show W.var? _ _ = _
  rw [hv, ← hc]

/-- the heap that the start leaves meets the condition -/
theorem door_met (os : Os) (args : Array Value) : laidMetH Tryd.prog laid3 ((World.doorLaid Tryd.prog 24 os).forCall (fun _ _ => 0) ⟨#[], args, []⟩).memory :=
  laidMetH_of_parts3 (fuel := 8) (laidMet_of_run' 8 (by kernel_rfl) (by kernel_rfl)) (by kernel_rfl) (by kernel_rfl)

/-- a law's end: it returned true, what it got reads as it did, and it left all that was there alone -/
theorem law_end {H : Type} {enc : TypeId × Value → H} {P : Program} {f : Func} {s : ChangeSpec} {fresh handsOn again : Bool} {W W' : World} {args : Array Value} {ds : List (DataW H)} {before : List MemPlace} {b : TypeId}
    (hW : DataW.Whole enc P f.params.toList s.vars false W args.toList ds [] before) (hf : f.resultTypes = #[b]) (hb : P.underlying b = some .bool)
    (hr : (s.fn H ds).results = [.lit (.bool true)]) (ha : (s.fn H ds).args = ds) (hv : s.vars = []) (hvv : (s.fn H ds).vars = [])
    (hkeep : ∀ sp : Nat → Bool, (∀ p ∈ before, sp p.block = true) → DataW.TrodAll enc P W' 0 sp true f.params.toList args.toList ds before)
    (hB : Below W.heap.size W W') : s.post enc P f false fresh handsOn again W args (.bool true) W' := by
  have inside : ∀ p ∈ before, p.block < W.heap.size := fun p hp => hW.lt p hp
  have out : ∀ (x : Nat) (sp : Nat → Bool) (hd : Bool), DataW.TrodAll enc P W' x sp hd f.resultTypes.toList ((Value.bool true).resultList f.resultTypes.size) (s.fn H (ds ++ [])).results [] := by
    intro x sp hd
    rw [List.append_nil, hr, hf]
    exact trodAll_mk1 (shut_bool hb _)
  have kept : ∀ sp : Nat → Bool, (∀ p ∈ before, sp p.block = true) → DataW.TrodAll enc P W' 0 sp true f.params.toList args.toList (s.fn H (ds ++ [])).args before := by
    intro sp h
    rw [List.append_nil, ha]
    exact hkeep sp h
  have glob : ∀ sp : Nat → Bool, DataW.TrodVars enc P W' sp s.vars (s.fn H (ds ++ [])).vars [] := by
    intro sp
    rw [List.append_nil, hv, hvv]
    rfl
  refine ⟨ds, [], before, [], before, [], hW, out _ _ _, kept _ (fun p hp => by simpa using inside p hp), glob _, World.keptBut_mono (fun p hp => ⟨hp, Or.inr (Or.inl hp)⟩) (hB.frame (· ∈ before)), fun _ => ⟨?_, ?_⟩⟩
  · exact ok_one (t := b) hf rfl (okWide_bool_mk hb _)
  · obtain ⟨_, _, _, _, _, hz, _⟩ := hW
    refine ⟨_, _, before, ⟨before, [], trodAll_append (kept _ (fun _ _ => rfl)) (out _ _ _), glob _, (List.append_nil _).symm, fun c o hc => ?_, fun h => by cases h⟩, fun p hp _ => hp⟩
    rw [hB.frozen (inside _ hc)]
    exact hz c o hc
end Go.Proofs.YtdpoemhpmdahjaaDoor
