/- A law of our own: a range over a method value whose rounds come one by one, numbered; at the wide fence. -/
import Derived.Test.YtnaanninmkplfaaOnq
import Derived.RangeFuncNested
import Derived.RangeFuncBound
import Derived.RangeFuncCalls
import Derived.RangeFuncLeaves
import Derived.Shelf.Abstract
import Derived.Shelf.RegionOpen
import Derived.OwnWalkIn
import Derived.TacticsInMore
import Derived.LoopNIn
import Derived.LoopIn
namespace Go.Proofs.Ytnaanninmkplfaa
open Go.RowKit Go.Shelf
set_option maxHeartbeats 400000
set_option maxRecDepth 100000

/-- what a round leaves as it lay: the blocks below n0, and the iterator's own block m -/
def Kept (n0 m : Nat) (A B : World) : Prop := A.heap.size ≤ B.heap.size ∧ ∀ k, k < A.heap.size → (k < n0 ∨ k = m) → B.heap[k]? = A.heap[k]?
theorem Kept.trans {n0 m : Nat} {A B C : World} (h : Kept n0 m A B) (g : Kept n0 m B C) : Kept n0 m A C :=
  ⟨Nat.le_trans h.1 g.1, fun k hk hh => (g.2 k (Nat.lt_of_lt_of_le hk h.1) hh).trans (h.2 k hk hh)⟩
theorem kept_put {n0 m l : Nat} {A : World} {o : Obj} (h : n0 ≤ l) (h2 : l ≠ m) : Kept n0 m A (A.putObj l o) :=
  ⟨by simp, fun k _ hh => World.putObj_heap_other (by omega)⟩
theorem kept_grown {n0 m : Nat} {A B : World} {row : Option Nat} (h : A.grownBy B row) (hr : ∀ r, row = some r → n0 ≤ r ∧ r ≠ m) : Kept n0 m A B :=
  ⟨h.size, fun k hk hh => h.block k hk (fun e => by have := hr k e.symm; omega)⟩
theorem kept_below {n0 m : Nat} {A B : World} (h : Below A.heap.size A B) : Kept n0 m A B := ⟨h.size, fun k hk _ => h.block k hk⟩
theorem kept_set {n0 m g i : Nat} {A B : World} {u : Value} (h : Kept n0 m A B) (h1 : n0 ≤ g) (h2 : g ≠ m) : Kept n0 m A (B.setCell ⟨g, i, none⟩ u) :=
  ⟨by simpa [World.setCell] using h.1, fun k hk hh => (Below.heap_setCell B ⟨g, i, none⟩ u k (by show k ≠ g; omega)).trans (h.2 k hk hh)⟩

/-- how a round's body may be left -/
def rPost (n0 m : Nat) (I Ix : Nat → World → Prop) (k : Nat) (W : World) : Exit → Act → World → Prop
  | .normal, _, W' => KeepsOthers W W' ∧ Kept n0 m W W' ∧ I k W'
  | .ret, _, W' => KeepsOthers W W' ∧ Ix k W'
  | _, _, _ => False

/-- what the iterator's contract says: N rounds, the k-th at 'enc k', one after the other -/
def Rounds (P : Program) (gf : Nat) (pv : Value) (enc : Nat → Value) (N n0 : Nat) (w : World) : Prop :=
  ∀ (l : Nat) (J Jx : Nat → World → Prop) (W : World), Below n0 w W → W.heap.size = w.heap.size + 2 → (∀ k A B, J k A → Below A.heap.size A B → J k B) → (∀ k A B, Jx k A → Below A.heap.size A B → Jx k B) →
    (∀ k A, k < N → W.heap.size < A.heap.size → J k A → YieldAt Fence.wide 7 P l #[enc k] A fun e B => (e = .returned (.bool true) ∧ J (k + 1) B ∧ Kept n0 (w.heap.size + 2) A B) ∨ (e = .returned (.bool false) ∧ Jx (k + 1) B)) →
    J 0 W → CallsIn Fence.wide 8 P gf #[pv, .func (.yield l) #[] #[]] W fun e B => (∃ v, e = .returned v) ∧ (J N B ∨ ∃ k, k ≤ N ∧ Jx k B)

theorem own_below {B : Nat} {I : Nat → World → Prop} (h : OwnFrom B I) {k : Nat} {A C : World} (hi : I k A) (hb : Below A.heap.size A C) : I k C :=
  h k A C none hi ⟨hb.os, hb.tape, hb.output, hb.size, fun j hj _ => hb.block j hj⟩ (fun r e => by cases e)

theorem rounds_law {P : Program} {g : Operand} {p : Tmp} {assign body : Code} {Q : Exit → Act → World → Prop} {a : Act} {w : World} {gf : Nat} {pv : Value} (hg : a.eval g = .func (.func gf) #[pv] #[])
    (eg : ∀ args w, (callFunc gf args).run P w = .ok (.enter gf args) w) {enc : Nat → Value} {N n0 : Nat} (hn0 : n0 ≤ w.heap.size) (hseq : Rounds P gf pv enc N n0 w)
    (I Ix : Nat → World → Prop) (hI : OwnFrom w.heap.size I) (hIx : OwnFrom w.heap.size Ix) (h0 : I 0 w) (a₁ : Nat → Act)
    (hassign : ∀ (l k : Nat) (W : World) (K : Act → World → Prop), K (a₁ k) W → assign.wpIn (Fence.wide.inRound l) 7 P (Exit.then K (fun _ _ _ => False)) { tmps := a.tmps.setIfInBounds p (enc k), defers := [] } W)
    (hbody : ∀ (l k : Nat) (W : World), k < N → w.heap.size + 2 < W.heap.size → I k W → body.wpIn (Fence.wide.inRound l) 7 P (rPost n0 (w.heap.size + 2) I Ix (k + 1) W) (a₁ k) W)
    (hdone : ∀ (D : Nat) (W : World), w.heap.size ≤ D → I N W → W.heap[D]? = some (.deferred (some [])) → Q .normal { a with defers := { target := .collected D, args := #[] } :: a.defers } W)
    (hstop : ∀ (D k : Nat) (W : World), w.heap.size ≤ D → Ix k W → W.heap[D]? = some (.deferred (some [])) → Code.ret.wpIn Fence.wide 9 P Q { a with defers := { target := .collected D, args := #[] } :: a.defers } W) :
    (Code.rangeFunc g #[p] assign body).wpIn Fence.wide 9 P Q a w := by
  refine wpIn_rangeFunc fun fn hfn => ?_
  have hro : Fence.wide.round = none := rfl
  rw [hro]
  generalize hR : (fun st pe => ({ state := st, pending := pe, fn := fn, tmps := a.tmps, params := #[p], assign := assign, body := body, defers := w.heap.size } : Loop)) = R
  have eR : ∀ st pe, R st pe = { state := st, pending := pe, fn := fn, tmps := a.tmps, params := #[p], assign := assign, body := body, defers := w.heap.size } := fun st pe => by rw [← hR]
  have b1 : Below w.heap.size w (w.alloc (.deferred (some []))) := (Below.refl _ w).alloc (Nat.le_refl _) _
  have b2 : Below w.heap.size w ((w.alloc (.deferred (some []))).alloc (.loop (R .ready none))) := b1.alloc b1.size _
  have hL : ((w.alloc (.deferred (some []))).alloc (.loop (R .ready none))).heap[w.heap.size + 1]? = some (.loop (R .ready none)) := by
    have := World.alloc_heap_new (w.alloc (.deferred (some []))) (.loop (R .ready none))
    rwa [World.size_alloc] at this
  have hD : ((w.alloc (.deferred (some []))).alloc (.loop (R .ready none))).heap[w.heap.size]? = some (.deferred (some [])) :=
    (Below.heap_alloc _ _ _ (by simp)).trans (World.alloc_heap_new w _)
  have hi : I 0 ((w.alloc (.deferred (some []))).alloc (.loop (R .ready none))) := own_below hI h0 b2
  have hsz : ((w.alloc (.deferred (some []))).alloc (.loop (R .ready none))).heap.size = w.heap.size + 2 := by simp
  generalize hW : (w.alloc (.deferred (some []))).alloc (.loop (R .ready none)) = W1 at b2 hL hD hi hsz
  have back : ∀ st pe (A : World), A.heap[w.heap.size + 1]? = some (.loop (R st pe)) → w.heap.size + 1 < A.heap.size := fun _ _ A h => (Array.getElem?_eq_some_iff.1 h).1
  refine ⟨w.heap.size + 1, [{ target := .collected w.heap.size, args := #[] }], W1, { target := .fn (.func gf) #[], args := #[pv, .func (.yield (w.heap.size + 1)) #[] #[]] }, W1, gf, #[pv, .func (.yield (w.heap.size + 1)) #[] #[]], W1, ?_, ?_, ?_, ?_, fun _ => by omega, ?_⟩
  · rw [← hW, eR]
    exact run_enterLoop_outer _ _ _ _ _
  · simp only [resolve, hg]
    simp [go_sem]
  · intro _ _
    trivial
  · simp [invoke, go_sem, eg]
  refine (hseq (w.heap.size + 1) (fun k A => I k A ∧ A.heap[w.heap.size + 1]? = some (.loop (R .ready none)) ∧ A.heap[w.heap.size]? = some (.deferred (some [])))
    (fun k A => Ix k A ∧ A.heap[w.heap.size + 1]? = some (.loop (R .done (some .ret))) ∧ A.heap[w.heap.size]? = some (.deferred (some []))) W1 (b2.mono hn0) hsz
    (fun k A B h hb => ⟨own_below hI h.1 hb, (hb.block _ (back _ _ A h.2.1)).trans h.2.1, (hb.block _ (by have := back _ _ A h.2.1; omega)).trans h.2.2⟩)
    (fun k A B h hb => ⟨own_below hIx h.1 hb, (hb.block _ (back _ _ A h.2.1)).trans h.2.1, (hb.block _ (by have := back _ _ A h.2.1; omega)).trans h.2.2⟩) ?_ ⟨hi, hL, hD⟩).mono ?_
  · rintro k A hk hszA ⟨hia, hla, hda⟩
    have hla' := hla
    rw [eR] at hla'
    have hy : (Instr.yield (w.heap.size + 1) #[enc k]).run P A = .ok (.round (w.heap.size + 1) fn (a.tmps.setIfInBounds p (enc k)) assign body) A := by
      have := run_yield (P := P) (args := #[enc k]) hla' rfl
      simpa using this
    refine ⟨fn, a.tmps.setIfInBounds p (enc k), assign, body, hy, roundIn_of_wpIn hfn ?_⟩
    refine hassign _ k A _ ?_
    refine ⟨_, run_beginRound hla' rfl, ?_⟩
    have hbusy : ({ state := .busy, pending := none, fn := fn, tmps := a.tmps, params := #[p], assign := assign, body := body, defers := w.heap.size } : Loop) = R .busy none := (eR _ _).symm
    show body.wpIn _ _ _ _ (a₁ k) (A.putObj (w.heap.size + 1) (.loop ({ state := .busy, pending := none, fn := fn, tmps := a.tmps, params := #[p], assign := assign, body := body, defers := w.heap.size } : Loop)))
    rw [hbusy]
    have hlt := back _ _ A hla
    have hb2 : (A.putObj (w.heap.size + 1) (.loop (R .busy none))).heap[w.heap.size + 1]? = some (.loop (R .busy none)) := World.putObj_heap_same hlt
    have hd2 : (A.putObj (w.heap.size + 1) (.loop (R .busy none))).heap[w.heap.size]? = some (.deferred (some [])) := (World.putObj_heap_other (by omega)).trans hda
    have lowPut : ∀ (X : World) (o : Obj), Kept n0 (w.heap.size + 2) X (X.putObj (w.heap.size + 1) o) := fun X o => kept_put (by omega) (by omega)
    refine wpIn_mono (hbody _ k _ hk (by rw [hsz] at hszA; simpa using hszA) (hI.putObj _ hia (by omega) hla rfl)) ?_
    have fin : ∀ (jump : Option Code) (X : World), KeepsOthers (A.putObj (w.heap.size + 1) (.loop (R .busy none))) X →
        (Instr.endRound (w.heap.size + 1) jump).run P X = .ok (.bool jump.isNone) (X.putObj (w.heap.size + 1) (.loop (R (if jump.isNone then .ready else .done) jump))) ∧ X.heap[w.heap.size + 1]? = some (.loop (R .busy none)) ∧
        (X.putObj (w.heap.size + 1) (.loop (R (if jump.isNone then .ready else .done) jump))).heap[w.heap.size + 1]? = some (.loop (R (if jump.isNone then .ready else .done) jump)) ∧
        (X.putObj (w.heap.size + 1) (.loop (R (if jump.isNone then .ready else .done) jump))).heap[w.heap.size]? = some (.deferred (some [])) := fun jump X hx => by
      have hxl := hx.same _ _ hb2 rfl
      have hx2 := hxl
      rw [eR] at hx2
      have hr := run_endRound (P := P) jump hx2
      refine ⟨?_, hxl, World.putObj_heap_same (back _ _ X hxl), (World.putObj_heap_other (by omega)).trans (hx.same _ _ hd2 rfl)⟩
      rw [eR]
      exact hr
    rintro e a3 X hp
    cases e with
    | normal =>
      obtain ⟨hx, hbx, hix⟩ := hp
      obtain ⟨hr, hl3, hl4, hd4⟩ := fin none X hx
      exact ⟨_, _, hr, .inl ⟨rfl, ⟨hI.putObj _ hix (by omega) hl3 rfl, hl4, hd4⟩, ((lowPut A _).trans hbx).trans (lowPut X _)⟩⟩
    | ret =>
      obtain ⟨hx, hix⟩ := hp
      obtain ⟨hr, hl3, hl4, hd4⟩ := fin (some .ret) X hx
      exact ⟨_, _, hr, .inr ⟨rfl, hIx.putObj _ hix (by omega) hl3 rfl, hl4, hd4⟩⟩
    | exit id => exact hp.elim
    | goto t => exact hp.elim
    | panic ch => exact hp.elim
    | outgrown => exact hp.elim
  · rintro e X ⟨⟨v, rfl⟩, (⟨hix, hlx, hdx⟩ | ⟨k, hk, hix, hlx, hdx⟩)⟩
    · have h2 := hlx
      rw [eR] at h2
      exact ⟨none, _, run_endLoop (P := P) h2 (by simp), hdone _ _ (Nat.le_refl _) (hI.putObj _ hix (by omega) hlx rfl) ((World.putObj_heap_other (by omega)).trans hdx)⟩
    · have h2 := hlx
      rw [eR] at h2
      exact ⟨some .ret, _, run_endLoop (P := P) h2 (by simp), hstop _ k _ (Nat.le_refl _) (hIx.putObj _ hix (by omega) hlx rfl) ((World.putObj_heap_other (by omega)).trans hdx)⟩
end Go.Proofs.Ytnaanninmkplfaa
