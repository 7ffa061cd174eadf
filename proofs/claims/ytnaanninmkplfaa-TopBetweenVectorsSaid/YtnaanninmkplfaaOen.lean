/- What ends a law on orbits: what it got reads as it did. -/
import Derived.Test.YtnaanninmkplfaaOop
import Derived.Test.YtnaanninmkplfaaRows
import Derived.ProofKit
import Derived.OpenShut
import Derived.WideKeyArgs
import Derived.ChangeSame
import Derived.Stop.Joined
import Derived.SizedLaws
import Derived.Lib.SmallJoins
import Derived.Deep.Slices
import Derived.Deep.Fields
namespace Go.Proofs.Ytnaanninmkplfaa
open Go.ChangeShapes Go.WideShapes Go.ChangeAt Go.RowKit
set_option maxRecDepth 100000

section
open Go.Joins Go.Deep
variable {H : Type} {enc : TypeId × Value → H} {w : World} {base : Nat} {spare : Nat → Bool} {held : Bool}
theorem wider_open {r : Reach} {b0 : Nat} {v : Value} {d : DataW H} {p : List MemPlace} (hv : Value.okWide Try.prog w r b0 54 v) (h : DataW.Trod enc Try.prog w base spare held 54 v d p) :
    ∃ x y : Int, v = .agg #[.int .i64 x, .int .i64 y] ∧ I64 x ∧ I64 y := by
  obtain ⟨v0, v1, y0, y1, m, rfl, _, _, h0, h1⟩ := open_agg2 Try.underlying54 (by kernel_rfl) (by kernel_rfl) hv h
  obtain ⟨x, e0, _, w0⟩ := DataW.trod_int Try.underlying3 h0
  obtain ⟨y, e1, _, w1⟩ := DataW.trod_int Try.underlying3 h1
  simp only [List.cons.injEq, and_true] at e0 e1
  subst e0 e1
  exact ⟨x, y, rfl, i64_of w0, i64_of w1⟩
end

theorem own_none : ownKnob Try.prog.godebug = none := by kernel_rfl
theorem laid_out : laidOutB Try.prog = true := by kernel_rfl

theorem keep_args {H : Type} {enc : TypeId × Value → H} {P : Program} {W W' : World} {sp : Nat → Bool} (hl : laidOutB P = true) : ∀ {ts : List TypeId} {vs : List Value} {ds : List (DataW H)} {ps : List MemPlace},
    (∀ t ∈ ts, P.readableRec t = true ∧ t < P.types.size) → DataW.TrodAll enc P W 0 (fun _ => true) true ts vs ds ps → (∀ p ∈ ps, W.sameAt W' p) → (∀ p ∈ ps, sp p.block = true) → DataW.TrodAll enc P W' 0 sp true ts vs ds ps
  | [], vs, ds, ps, _, h, _, _ => by
    obtain ⟨rfl, rfl, rfl⟩ := trodAll_nil h
    exact trodAll_mk0
  | t :: ts, vs, ds, ps, hr, h, hsame, hs => by
    obtain ⟨v, vs', d, ds', p, p', rfl, rfl, rfl, h0, h1⟩ := trodAll_cons h
    obtain ⟨a, b⟩ := hr t (by simp)
    exact trodAll_cons_mk (WideElems.Trod_stays hl a b h0 (fun q hq => hsame q (by simp [hq])) (fun q hq => hs q (by simp [hq])))
      (keep_args hl (fun u hu => hr u (by simp [hu])) h1 (fun q hq => hsame q (by simp [hq])) (fun q hq => hs q (by simp [hq])))

/-- a law's end: it returned true, what it got reads as it did, and it left all that was there alone -/
theorem law_end {H : Type} {enc : TypeId × Value → H} {P : Program} {f : Func} {s : ChangeSpec} {fresh handsOn again : Bool} {W W' : World} {args : Array Value} {ds : List (DataW H)} {before : List MemPlace} {b : TypeId}
    (hW : DataW.Whole enc P f.params.toList s.vars false W args.toList ds [] before) (hA : DataW.TrodAll enc P W 0 (fun _ => true) true f.params.toList args.toList ds before) (hl : laidOutB P = true) (hrd : ∀ t ∈ f.params.toList, P.readableRec t = true ∧ t < P.types.size)
    (hf : f.resultTypes = #[b]) (hb : P.underlying b = some .bool)
    (hr : (s.fn H ds).results = [.lit (.bool true)]) (ha : (s.fn H ds).args = ds) (hv : s.vars = []) (hvv : (s.fn H ds).vars = [])
    (hB : Below W.heap.size W W') : s.post enc P f false fresh handsOn again W args (.bool true) W' := by
  have inside : ∀ p ∈ before, p.block < W.heap.size := fun p hp => hW.lt p hp
  have hkeep : ∀ sp : Nat → Bool, (∀ p ∈ before, sp p.block = true) → DataW.TrodAll enc P W' 0 sp true f.params.toList args.toList ds before := fun sp hsp =>
    keep_args hl hrd hA (fun p hp => hB.same (inside p hp)) hsp
  have out : ∀ (x : Nat) (sp : Nat → Bool) (hd : Bool), DataW.TrodAll enc P W' x sp hd f.resultTypes.toList ((Value.bool true).resultList f.resultTypes.size) (s.fn H (ds ++ [])).results [] := by
    intro x sp hd
    rw [List.append_nil, hr, hf]
    exact trodAll_mk1 (shut_bool hb _)
  have kept : ∀ sp : Nat → Bool, (∀ p ∈ before, sp p.block = true) → DataW.TrodAll enc P W' 0 sp true f.params.toList args.toList (s.fn H (ds ++ [])).args before := by
    intro sp h
    rw [List.append_nil, ha]
    exact hkeep sp h
  have glob : ∀ sp : Nat → Bool, DataW.TrodVars enc P W' sp s.vars (s.fn H (ds ++ [])).vars [] := by
    intro sp
    rw [List.append_nil, hv, hvv]
    rfl
  refine ⟨ds, [], before, [], before, [], hW, out _ _ _, kept _ (fun p hp => by simpa using inside p hp), glob _, World.keptBut_mono (fun p hp => ⟨hp, Or.inr (Or.inl hp)⟩) (hB.frame (· ∈ before)), fun _ => ⟨?_, ?_⟩⟩
  · exact ok_one (t := b) hf rfl (okWide_bool_mk hb _)
  · obtain ⟨_, _, _, _, _, hz, _⟩ := hW
    refine ⟨_, _, before, ⟨before, [], trodAll_append (kept _ (fun _ _ => rfl)) (out _ _ _), glob _, (List.append_nil _).symm, fun c o hc => ?_, fun h => by cases h⟩, fun p hp _ => hp⟩
    rw [hB.frozen (inside _ hc)]
    exact hz c o hc
end Go.Proofs.Ytnaanninmkplfaa
