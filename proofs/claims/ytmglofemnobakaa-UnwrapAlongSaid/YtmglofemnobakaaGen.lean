/- General words, of no chapter: numbers that fit an int, memory, ranges; what ends a law (what it got reads as it did); base.Within. -/
import Derived.Test.YtmglofemnobakaaRows
import Derived.Test.YtmglofemnobakaaProg
import Derived.ProofKit
import Derived.OpenShut
import Derived.WideKeyArgs
import Derived.ChangeSame
import Derived.Stop.Joined
import Derived.SizedLaws
import Derived.Lib.SmallJoins
import Derived.Deep.Slices
import Derived.Deep.Fields
import Derived.Carry
import Derived.Lib.Hide
import Derived.WalkKit
import Derived.WalkSpells
import Derived.WalkLawsBesides
import Derived.BigQuiet
import Derived.Deep.QuietTactic
import Derived.Deep.RegionHeld3
import Derived.Deep.LoopGhost
namespace Go.Proofs.Ytmglofemnobakaa
open Go.Joins Go.ChangeShapes Go.WideShapes Go.ChangeAt Go.RowKit Go.Deep
set_option maxHeartbeats 400000
set_option maxRecDepth 100000

/-- a number that fits an int -/
def I64 (x : Int) : Prop := -9223372036854775808 ≤ x ∧ x ≤ 9223372036854775807
theorem i64_of {x : Int} (h : (Lit.int .i64 x).wf = true) : I64 x := bounds_i64 h
theorem below_two {a b c : World} (h : Below a.heap.size a b) (g : Below b.heap.size b c) : Below a.heap.size a c := h.trans (g.mono h.size)

/-! ### words for memory: a block that is known whole; a slice that reads as a list -/
def At (w : World) (g : Nat) (t : TypeId) (cs : Array Value) : Prop := w.heap[g]? = some (.cells cs t (0, 0))
theorem At.lt {w : World} {g : Nat} {t : TypeId} {cs : Array Value} (h : At w g t cs) : g < w.heap.size := by
  unfold At at h
  exact (Array.getElem?_eq_some_iff.1 h).1
theorem At.cell {w : World} {g : Nat} {t : TypeId} {cs : Array Value} (h : At w g t cs) (i : Nat) : w.cell? ⟨g, i, none⟩ = cs[i]? := cell_of_row w g i cs t (0, 0) h
theorem At.free {w : World} {g : Nat} {t : TypeId} {cs : Array Value} (h : At w g t cs) (i : Nat) : w.frozen? ⟨g, i, none⟩ = false := by
  unfold At at h
  simp [World.frozen?, h]
theorem At.below {w w' : World} {g B : Nat} {t : TypeId} {cs : Array Value} (h : At w g t cs) (hb : Below B w w') (hg : g < B) : At w' g t cs := (hb.block g hg).trans h
theorem At.keep {w w' : World} {g : Nat} {t : TypeId} {cs : Array Value} (h : At w g t cs) (hb : Below w.heap.size w w') : At w' g t cs := h.below hb h.lt
theorem At.alloc {w : World} {g : Nat} {t : TypeId} {cs : Array Value} (h : At w g t cs) (o : Obj) : At (w.alloc o) g t cs := (Below.heap_alloc w o g h.lt).trans h
theorem At.new (w : World) (t : TypeId) (cs : Array Value) : At (w.alloc (.cells cs t)) w.heap.size t cs := heap_alloc_new w _
theorem at_new {w : World} {g : Nat} {t : TypeId} {cs : Array Value} (hg : g = w.heap.size) : At (w.alloc (.cells cs t)) g t cs := by
  subst hg; exact At.new w t cs
theorem At.far {w : World} {g : Nat} {t : TypeId} {cs : Array Value} (h : At w g t cs) {p : Addr} (hp : g ≠ p.block) (u : Value) : At (w.setCell p u) g t cs := (Below.heap_setCell w p u g hp).trans h
theorem At.put {w : World} {g : Nat} {t : TypeId} {cs : Array Value} (h : At w g t cs) (i : Nat) (u : Value) : At (w.setCell ⟨g, i, none⟩ u) g t (cs.setIfInBounds i u) := by
  unfold At at h ⊢
  simp [World.setCell, Array.getElem?_modify, h]

theorem below_set {B g i : Nat} {a w : World} {u : Value} (h : Below B a w) (hg : B ≤ g) : Below B a (w.setCell ⟨g, i, none⟩ u) := h.setCell hg u
theorem below_drewNs {B n : Nat} {a w : World} (h : Below B a w) : Below B a (w.drewN n) := h.trans ⟨rfl, rfl, rfl, Nat.le_refl _, fun _ _ => rfl⟩
theorem below_new {B : Nat} {a w : World} {o : Obj} (h : Below B a w) (hB : B ≤ w.heap.size) : Below B a (w.alloc o) := h.alloc hB o

def Sl (w : World) (A : Option Addr) (n : Nat) (f : Nat → Value) : Prop := 0 < n → ∃ b off, A = some ⟨b, off, none⟩ ∧ b < w.heap.size ∧ ∀ i, i < n → w.cell? ⟨b, off + i, none⟩ = some (f i)
theorem Sl.below {w w' : World} {A : Option Addr} {n : Nat} {f : Nat → Value} (h : Sl w A n f) (hb : Below w.heap.size w w') : Sl w' A n f := by
  intro hn
  obtain ⟨b, off, e, hlt, hc⟩ := h hn
  exact ⟨b, off, e, Nat.lt_of_lt_of_le hlt hb.size, fun i hi => (hb.cell (p := ⟨b, off + i, none⟩) hlt).trans (hc i hi)⟩
theorem Sl.alloc {w : World} {A : Option Addr} {n : Nat} {f : Nat → Value} (h : Sl w A n f) (o : Obj) : Sl (w.alloc o) A n f := h.below ((Below.refl _ _).alloc (Nat.le_refl _) o)
theorem sl_new {w : World} {g n : Nat} {t : TypeId} {cs : Array Value} {f : Nat → Value} (hg : g = w.heap.size) (hc : ∀ i, i < n → cs[i]? = some (f i)) : Sl (w.alloc (.cells cs t)) (some ⟨g, 0, none⟩) n f :=
  fun _ => ⟨g, 0, rfl, by subst hg; simp, fun i hi => by rw [show (0 : Nat) + i = i from Nat.zero_add i, (at_new hg).cell i]; exact hc i hi⟩

theorem Sl.drew {w : World} {A : Option Addr} {n : Nat} {f : Nat → Value} (h : Sl w A n f) : Sl w.drew A n f := h
theorem sl_newd {w : World} {g n : Nat} {t : TypeId} {cs : Array Value} {f : Nat → Value} (hg : g = w.heap.size) (hc : ∀ i, i < n → cs[i]? = some (f i)) : Sl (w.alloc (.cells cs t)).drew (some ⟨g, 0, none⟩) n f := (sl_new hg hc).drew

/-! ### ranges -/
def inB (n lo hi : Int) : Bool := decide (lo ≤ n) && decide (n ≤ hi)
theorem inB_t {n lo hi : Int} (h : lo ≤ n ∧ n ≤ hi) : inB n lo hi = true := by simp [inB, h.1, h.2]
theorem inB_f {n lo hi : Int} (h : ¬ (lo ≤ n ∧ n ≤ hi)) : inB n lo hi = false := by
  simp only [inB, Bool.and_eq_false_iff, decide_eq_false_iff_not]; omega
theorem inB_iff {n lo hi : Int} : inB n lo hi = true ↔ lo ≤ n ∧ n ≤ hi := by simp [inB]

theorem baseWithin_any (n lo hi : Int) (w : World) : Calls Try.prog 13 #[.int .i64 n, .int .i64 lo, .int .i64 hi] w fun e w' => e = .returned (.bool (inB n lo hi)) ∧ w = w' := by
  have key : ∀ (p q : Bool), decide (lo ≤ n) = p → decide (n ≤ hi) = q → Calls Try.prog 13 #[.int .i64 n, .int .i64 lo, .int .i64 hi] w fun e w' => e = .returned (.bool (p && q)) ∧ w = w' := by
    intro p q h1 h2
    cases p <;> cases q
    all_goals
      go_enter Try.func13, Try.ntmps13
      go_wp2
      go_ret
      exact ⟨rfl, rfl⟩
  exact key _ _ rfl rfl

theorem own_none : ownKnob Try.prog.godebug = none := by kernel_rfl
theorem laid_out : laidOutB Try.prog = true := by kernel_rfl

theorem keep_args {H : Type} {enc : TypeId × Value → H} {P : Program} {W W' : World} {sp : Nat → Bool} (hl : laidOutB P = true) : ∀ {ts : List TypeId} {vs : List Value} {ds : List (DataW H)} {ps : List MemPlace},
    (∀ t ∈ ts, P.readableRec t = true ∧ t < P.types.size) → DataW.TrodAll enc P W 0 (fun _ => true) true ts vs ds ps → (∀ p ∈ ps, W.sameAt W' p) → (∀ p ∈ ps, sp p.block = true) → DataW.TrodAll enc P W' 0 sp true ts vs ds ps
  | [], vs, ds, ps, _, h, _, _ => by
    obtain ⟨rfl, rfl, rfl⟩ := trodAll_nil h
    exact trodAll_mk0
  | t :: ts, vs, ds, ps, hr, h, hsame, hs => by
    obtain ⟨v, vs', d, ds', p, p', rfl, rfl, rfl, h0, h1⟩ := trodAll_cons h
    obtain ⟨a, b⟩ := hr t (by simp)
    exact trodAll_cons_mk (WideElems.Trod_stays hl a b h0 (fun q hq => hsame q (by simp [hq])) (fun q hq => hs q (by simp [hq])))
      (keep_args hl (fun u hu => hr u (by simp [hu])) h1 (fun q hq => hsame q (by simp [hq])) (fun q hq => hs q (by simp [hq])))

/-- a law's end: it returned true, what it got reads as it did, and it left all that was there alone -/
theorem law_end {H : Type} {enc : TypeId × Value → H} {P : Program} {f : Func} {s : ChangeSpec} {fresh handsOn again : Bool} {W W' : World} {args : Array Value} {ds : List (DataW H)} {before : List MemPlace} {b : TypeId}
    (hW : DataW.Whole enc P f.params.toList s.vars false W args.toList ds [] before) (hA : DataW.TrodAll enc P W 0 (fun _ => true) true f.params.toList args.toList ds before) (hl : laidOutB P = true) (hrd : ∀ t ∈ f.params.toList, P.readableRec t = true ∧ t < P.types.size)
    (hf : f.resultTypes = #[b]) (hb : P.underlying b = some .bool)
    (hr : (s.fn H ds).results = [.lit (.bool true)]) (ha : (s.fn H ds).args = ds) (hv : s.vars = []) (hvv : (s.fn H ds).vars = [])
    (hB : Below W.heap.size W W') : s.post enc P f false fresh handsOn again W args (.bool true) W' := by
  have inside : ∀ p ∈ before, p.block < W.heap.size := fun p hp => hW.lt p hp
  have hkeep : ∀ sp : Nat → Bool, (∀ p ∈ before, sp p.block = true) → DataW.TrodAll enc P W' 0 sp true f.params.toList args.toList ds before := fun sp hsp =>
    keep_args hl hrd hA (fun p hp => hB.same (inside p hp)) hsp
  have out : ∀ (x : Nat) (sp : Nat → Bool) (hd : Bool), DataW.TrodAll enc P W' x sp hd f.resultTypes.toList ((Value.bool true).resultList f.resultTypes.size) (s.fn H (ds ++ [])).results [] := by
    intro x sp hd
    rw [List.append_nil, hr, hf]
    exact trodAll_mk1 (shut_bool hb _)
  have kept : ∀ sp : Nat → Bool, (∀ p ∈ before, sp p.block = true) → DataW.TrodAll enc P W' 0 sp true f.params.toList args.toList (s.fn H (ds ++ [])).args before := by
    intro sp h
    rw [List.append_nil, ha]
    exact hkeep sp h
  have glob : ∀ sp : Nat → Bool, DataW.TrodVars enc P W' sp s.vars (s.fn H (ds ++ [])).vars [] := by
    intro sp
    rw [List.append_nil, hv, hvv]
    rfl
  refine ⟨ds, [], before, [], before, [], hW, out _ _ _, kept _ (fun p hp => by simpa using inside p hp), glob _, World.keptBut_mono (fun p hp => ⟨hp, Or.inr (Or.inl hp)⟩) (hB.frame (· ∈ before)), fun _ => ⟨?_, ?_⟩⟩
  · exact ok_one (t := b) hf rfl (okWide_bool_mk hb _)
  · obtain ⟨_, _, _, _, _, hz, _⟩ := hW
    refine ⟨_, _, before, ⟨before, [], trodAll_append (kept _ (fun _ _ => rfl)) (out _ _ _), glob _, (List.append_nil _).symm, fun c o hc => ?_, fun h => by cases h⟩, fun p hp _ => hp⟩
    rw [hB.frozen (inside _ hc)]
    exact hz c o hc
end Go.Proofs.Ytmglofemnobakaa
