/- Calls reckoned: a region whose order is drawn comes out as it was reckoned, whatever the order. -/
import Derived.Test.YtmglofemnobakaaEvg
namespace Go.Proofs.Ytmglofemnobakaa
open Go.RowKit

theorem shape_set {a : RA} (h : Shape a.tmps a.sz) (d : Nat) (r : RV) : Shape (a.set d r).tmps (a.set d r).sz := by
  by_cases hd : d < a.sz
  · rw [ra_set_lt hd]
    exact ⟨rtSet_rows _ _ _ _ h.1, by show a.sz ≤ (rtSet a.tmps (d / 8) (d % 8) r).length * 8; rw [rtSet_len]; exact h.2⟩
  · rw [ra_set_ge hd]; exact h
theorem shape_put {a : RA} (h : Shape a.tmps a.sz) (d : Option Tmp) (r : RV) : Shape (a.put d r).tmps (a.put d r).sz := by
  cases d with
  | none => exact h
  | some d => exact shape_set h d r
theorem get_set {a : RA} (h : Shape a.tmps a.sz) (d t : Nat) (r : RV) : (a.set d r).get t = if t = d ∧ d < a.sz then r else a.get t := by
  by_cases hd : d < a.sz
  · have h2 := h.2
    rw [ra_set_lt hd]
    show rtGet (rtSet a.tmps (d / 8) (d % 8) r) (t / 8) (t % 8) = _
    rw [rt_get_set _ _ _ _ _ _ (by omega) (by omega) h.1]
    by_cases ht : t = d
    · subst ht; simp [hd]
    · rw [if_neg (by omega), if_neg (fun e => ht e.1)]
      rfl
  · rw [ra_set_ge hd, if_neg (fun e => hd e.2)]
theorem get_put_ne {a : RA} (h : Shape a.tmps a.sz) (d : Option Tmp) (t : Nat) (r : RV) (hne : d ≠ some t) : (a.put d r).get t = a.get t := by
  cases d with
  | none => rfl
  | some d =>
    show (a.set d r).get t = _
    rw [get_set h, if_neg (fun e => hne (by rw [e.1]))]
/-- the operations that come before the i-th -/
def an (ops : Array Oper) (i : Nat) : List Nat := ((ancs ops.toList)[i]?).getD []

/-- the steps of the reckoning: T p is what is known ahead of the p-th of the order l -/
structure Reg (P : Program) (R : Rec) (ops : Array Oper) (l : List Nat) (T : Nat → RS) : Prop where
  step : ∀ (p : Nat) i, l[p]? = some i → ∃ o r, ops[i]? = some o ∧ (T (p + 1)).a = (T p).a.put o.dst r ∧ Wants P R ops.toList (an ops i) i o (T p) (T (p + 1)) r
  pred : ∀ (i : Nat) o, ops[i]? = some o → ∀ j ∈ preds o, j < i
  pair : ∀ (i : Nat) o (j : Nat) p, ops[i]? = some o → ops[j]? = some p → PairOk ops.toList i o j p
  order : ∀ (p : Nat) i, l[p]? = some i → (∀ q, q < p → l[q]? ≠ some i) ∧ ∀ k ∈ an ops i, ∃ q, q < p ∧ l[q]? = some k
  all : ∀ i, i < ops.size → ∃ p : Nat, l[p]? = some i
  ow0 : (T 0).ow = []
  done0 : (T 0).done = []
  sound0 : (T 0).h.Sound
  shape0 : Shape (T 0).a.tmps (T 0).a.sz

section
variable {P : Program} {R : Rec} {ops : Array Oper} {l : List Nat} {T : Nat → RS}

theorem Reg.pos (H : Reg P R ops l T) {p q i : Nat} (h1 : l[p]? = some i) (h2 : l[q]? = some i) : p = q := by
  rcases Nat.lt_trichotomy p q with h | h | h
  · exact absurd h1 ((H.order q i h2).1 p h)
  · exact h
  · exact absurd h2 ((H.order p i h1).1 q h)

structure SF (ops : Array Oper) (i : Nat) (s s' : RS) : Prop where
  n : s.h.n ≤ s'.h.n
  ow1 : ∀ k w, (k, w) ∈ s.ow → (k, w) ∈ s'.ow
  ow2 : ∀ k w, (k, w) ∈ s'.ow → (k, w) ∈ s.ow ∨ (w = i ∧ k < s'.h.n)
  same : ∀ k, k < s.h.n → (k, i) ∉ s'.ow → s'.h.at? k = s.h.at? k
  bef : ∀ k, k < s.h.n → (k, i) ∈ s'.ow → (k, i) ∉ s.ow → ∀ j ∈ s.done, j ∈ an ops i
  don : ∀ k, (k, i) ∈ s'.ow → (k, i) ∉ s.ow → i ∈ s'.done
  done : ∀ j, j ∈ s.done → j ∈ s'.done
  newo : ∀ k, s.h.n ≤ k → k < s'.h.n → (k, i) ∈ s'.ow
  sound : s'.h.Sound
  base : s'.h.base = s.h.base
  ch : ∀ k, k ∈ s.h.ch → k ∈ s'.h.ch
  chn : ∀ k, (k, i) ∈ s'.ow → (k, i) ∉ s.ow → k < s.h.n → k < s.h.base → k ∈ s'.h.ch
  chb : ∀ k, k ∈ s'.h.ch → k ∈ s.h.ch ∨ k < s.h.base
theorem sf_same {i : Nat} {s s' : RS} (hs : s.h.Sound) (h1 : s'.h = s.h) (h2 : s'.ow = s.ow) (h3 : ∀ j, j ∈ s.done → j ∈ s'.done) : SF ops i s s' := by
  refine ⟨by rw [h1]; exact Nat.le_refl _, fun k w h => by rw [h2]; exact h, fun k w h => by rw [h2] at h; exact .inl h, fun k _ _ => by rw [h1], fun k _ a b => ?_, fun k a b => ?_, h3, fun k a b => ?_, by rw [h1]; exact hs, by rw [h1], fun k h => by rw [h1]; exact h, fun k a b => ?_, fun k h => by rw [h1] at h; exact .inl h⟩
  · rw [h2] at a; exact absurd a b
  · rw [h2] at a; exact absurd a b
  · rw [h1] at b; omega
  · rw [h2] at a; exact absurd a b
theorem wants_sf {i : Nat} {o : Oper} {s s' : RS} {r : RV} (hs : s.h.Sound) (h : Wants P R ops.toList (an ops i) i o s s' r) : SF ops i s s' := by
  rcases h with ⟨_, _, h1, h2, h3⟩ | ⟨_, _, h1, h2, h3⟩ | ⟨_, h', _, hd, h⟩
  · exact sf_same hs h1 h2 (fun j hj => by rw [h3]; exact hj)
  · exact sf_same hs h1 h2 (fun j hj => by rw [h3]; exact hj)
  · rcases h with ⟨_, _, h1, h2⟩ | ⟨hb, ⟨m1, m2, m3⟩, rfl⟩
    · exact sf_same hs h1 h2 (fun j hj => by rw [hd]; exact List.mem_cons_of_mem _ hj)
    · have how : ∀ k w, (k, w) ∈ (mergeD s i o.dst r h').ow ↔ ((k, w) ∈ s.ow ∨ (w = i ∧ k ∈ h'.ch)) ∨ (w = i ∧ s.h.n ≤ k ∧ k < s.h.n + (h'.n - s.h.n)) := fun k w => by
        show (k, w) ∈ owners i s.h.n (h'.n - s.h.n) (ownAll i h'.ch s.ow) ↔ _
        rw [mem_owners, mem_ownAll]
      refine ⟨m2, fun k w h => (how k w).2 (.inl (.inl h)), fun k w h => ?_, fun k hk hn => ?_, fun k hk a b j hj => ?_, fun k a b => ?_, fun j hj => List.mem_cons_of_mem _ hj, fun k h1 h2 => ?_, merge_sound m1 hs m2, rfl, fun k hk => mem_markAll.2 (.inl hk), fun k a b hk hkb => ?_, fun k hk => (mem_markAll.1 hk).imp id And.right⟩
      · rcases (how k w).1 h with (h | ⟨h1, h2⟩) | ⟨h1, h2, h3⟩
        · exact .inl h
        · exact .inr ⟨h1, Nat.lt_of_lt_of_le (m3 k h2) m2⟩
        · exact .inr ⟨h1, by show k < h'.n; omega⟩
      · rw [merge_at_old m1 hs m2 m3 hk, if_neg (fun e => hn ((how k i).2 (.inl (.inr ⟨rfl, e⟩))))]
      · refine hb (fun e => ?_) j hj
        rcases (how k i).1 a with (h | ⟨_, h2⟩) | ⟨_, h2, _⟩
        · exact b h
        · rw [e] at h2; cases h2
        · omega
      · exact List.mem_cons_self ..
      · exact (how k i).2 (.inr ⟨rfl, h1, by have : k < h'.n := h2; omega⟩)
      · rcases (how k i).1 a with (h | ⟨_, h2⟩) | ⟨_, h2, _⟩
        · exact absurd h b
        · exact mem_markAll.2 (.inr ⟨h2, hkb⟩)
        · omega
theorem Reg.sound (H : Reg P R ops l T) : ∀ p, p ≤ l.length → (T p).h.Sound
  | 0, _ => H.sound0
  | p + 1, hp => by
    obtain ⟨o, r, _, _, hw⟩ := H.step p l[p] (List.getElem?_eq_getElem (by omega))
    exact (wants_sf (H.sound p (by omega)) hw).sound
theorem Reg.sf (H : Reg P R ops l T) {p i : Nat} (hi : l[p]? = some i) : SF ops i (T p) (T (p + 1)) := by
  obtain ⟨o, r, _, _, hw⟩ := H.step p i hi
  have := (List.getElem?_eq_some_iff.1 hi).1
  exact wants_sf (H.sound p (by omega)) hw
/-- what holds from each step to the next holds from any to any later one -/
theorem Reg.upto (H : Reg P R ops l T) {D : RS → RS → Prop} (hrefl : ∀ s, D s s) (htrans : ∀ a b c, D a b → D b c → D a c) (hstep : ∀ (p : Nat) i, l[p]? = some i → D (T p) (T (p + 1))) {p : Nat} : ∀ d, p + d ≤ l.length → D (T p) (T (p + d))
  | 0, _ => hrefl _
  | d + 1, h => by
    have h1 := H.upto hrefl htrans hstep d (by omega : p + d ≤ l.length)
    exact htrans _ _ _ h1 (hstep (p + d) l[p + d] (List.getElem?_eq_getElem (by omega)))
theorem Reg.n_le (H : Reg P R ops l T) {p q : Nat} (h : p ≤ q) (hq : q ≤ l.length) : (T p).h.n ≤ (T q).h.n := by
  obtain ⟨d, rfl⟩ := Nat.le.dest h
  exact H.upto (D := fun s s' => s.h.n ≤ s'.h.n) (fun _ => Nat.le_refl _) (fun _ _ _ a b => Nat.le_trans a b) (fun p i hi => (H.sf hi).n) d hq
theorem Reg.ow_le (H : Reg P R ops l T) {p q : Nat} (h : p ≤ q) (hq : q ≤ l.length) : ∀ k w, (k, w) ∈ (T p).ow → (k, w) ∈ (T q).ow := by
  obtain ⟨d, rfl⟩ := Nat.le.dest h
  exact H.upto (D := fun s s' => ∀ k w, (k, w) ∈ s.ow → (k, w) ∈ s'.ow) (fun _ _ _ h => h) (fun _ _ _ a b k w h => b k w (a k w h)) (fun p i hi => (H.sf hi).ow1) d hq
theorem Reg.done_le (H : Reg P R ops l T) {p q : Nat} (h : p ≤ q) (hq : q ≤ l.length) : ∀ j, j ∈ (T p).done → j ∈ (T q).done := by
  obtain ⟨d, rfl⟩ := Nat.le.dest h
  exact H.upto (D := fun s s' => ∀ j, j ∈ s.done → j ∈ s'.done) (fun _ _ h => h) (fun _ _ _ a b k h => b k (a k h)) (fun p i hi => (H.sf hi).done) d hq
theorem Reg.ch_le (H : Reg P R ops l T) {p q : Nat} (h : p ≤ q) (hq : q ≤ l.length) : (∀ k, k ∈ (T p).h.ch → k ∈ (T q).h.ch) ∧ (T q).h.base = (T p).h.base ∧ ∀ k, k ∈ (T q).h.ch → k ∈ (T p).h.ch ∨ k < (T p).h.base := by
  obtain ⟨d, rfl⟩ := Nat.le.dest h
  refine H.upto (D := fun s s' => (∀ k, k ∈ s.h.ch → k ∈ s'.h.ch) ∧ s'.h.base = s.h.base ∧ ∀ k, k ∈ s'.h.ch → k ∈ s.h.ch ∨ k < s.h.base) (fun _ => ⟨fun _ h => h, rfl, fun _ h => .inl h⟩) (fun _ _ _ a b => ⟨fun k h => b.1 k (a.1 k h), b.2.1.trans a.2.1, fun k h => ?_⟩) (fun p i hi => ⟨(H.sf hi).ch, (H.sf hi).base, (H.sf hi).chb⟩) d hq
  rcases b.2.2 k h with h | h
  · exact a.2.2 k h
  · exact .inr (by rw [← a.2.1]; exact h)
theorem Reg.ow_pos (H : Reg P R ops l T) : ∀ (p : Nat), p ≤ l.length → ∀ k w, (k, w) ∈ (T p).ow → k < (T p).h.n ∧ ∃ q, q < p ∧ l[q]? = some w
  | 0, _, k, w, h => by rw [H.ow0] at h; cases h
  | p + 1, hp, k, w, h => by
    have hi : l[p]? = some l[p] := List.getElem?_eq_getElem (by omega)
    have sf := H.sf hi
    rcases sf.ow2 k w h with h | ⟨rfl, h2⟩
    · obtain ⟨h1, q, hq, hl⟩ := H.ow_pos p (by omega) k w h
      exact ⟨Nat.lt_of_lt_of_le h1 sf.n, q, by omega, hl⟩
    · exact ⟨h2, p, by omega, hi⟩
theorem Reg.not_yet (H : Reg P R ops l T) {p i : Nat} (hi : l[p]? = some i) (k : Nat) : (k, i) ∉ (T p).ow := fun h => by
  obtain ⟨_, q, hq, hl⟩ := H.ow_pos p (by have := (List.getElem?_eq_some_iff.1 hi).1; omega) k i h
  have := H.pos hi hl
  omega
/-- operation i touches block k -/
def Tch (l : List Nat) (T : Nat → RS) (i k : Nat) : Prop := (k, i) ∈ (T l.length).ow
theorem Reg.tch (H : Reg P R ops l T) {p i : Nat} (hi : l[p]? = some i) (k : Nat) : Tch l T i k ↔ (k, i) ∈ (T (p + 1)).ow := by
  have hlt := (List.getElem?_eq_some_iff.1 hi).1
  constructor
  · intro h
    suffices hh : ∀ d, p + 1 + d ≤ l.length → (k, i) ∈ (T (p + 1 + d)).ow → (k, i) ∈ (T (p + 1)).ow by
      have := hh (l.length - (p + 1)) (by omega)
      rw [show p + 1 + (l.length - (p + 1)) = l.length by omega] at this
      exact this h
    intro d
    induction d with
    | zero => exact fun _ h => h
    | succ d ih =>
      intro hd h
      have hj : l[p + 1 + d]? = some l[p + 1 + d] := List.getElem?_eq_getElem (by omega)
      rcases (H.sf hj).ow2 k i h with h | ⟨rfl, _⟩
      · exact ih (by omega) h
      · have := H.pos hi hj
        omega
  · exact H.ow_le (by omega) (Nat.le_refl _) k i
/-- from time p to q block k is as it was, if none of the operations between touches it -/
theorem Reg.at_const (H : Reg P R ops l T) {k p : Nat} (hk : k < (T p).h.n) : ∀ d, p + d ≤ l.length → (∀ q i, p ≤ q → q < p + d → l[q]? = some i → ¬ Tch l T i k) → (T (p + d)).h.at? k = (T p).h.at? k
  | 0, _, _ => rfl
  | d + 1, hd, hn => by
    have hj : l[p + d]? = some l[p + d] := List.getElem?_eq_getElem (by omega)
    have h1 := H.at_const hk d (by omega) (fun q i a b => hn q i a (by omega))
    rw [← h1]
    refine (H.sf hj).same k (Nat.lt_of_lt_of_le hk (H.n_le (by omega) (by omega))) (fun e => ?_)
    exact hn (p + d) _ (by omega) (by omega) hj ((H.tch hj k).2 e)
theorem Reg.shape (H : Reg P R ops l T) : ∀ p, p ≤ l.length → Shape (T p).a.tmps (T p).a.sz
  | 0, _ => H.shape0
  | p + 1, hp => by
    obtain ⟨o, r, _, ha, _⟩ := H.step p l[p] (List.getElem?_eq_getElem (by omega))
    rw [ha]
    exact shape_put (H.shape p (by omega)) _ _
theorem Reg.frame (H : Reg P R ops l T) : ∀ p, p ≤ l.length → (T p).a.sz = (T 0).a.sz ∧ (T p).a.dfs = (T 0).a.dfs
  | 0, _ => ⟨rfl, rfl⟩
  | p + 1, hp => by
    obtain ⟨o, r, _, ha, _⟩ := H.step p l[p] (List.getElem?_eq_getElem (by omega))
    rw [ha, ra_sz_put, ra_dfs_put]
    exact H.frame p (by omega)
/-- a slot is as it was, if none of the operations between writes it -/
theorem Reg.slot_const (H : Reg P R ops l T) {t p : Nat} : ∀ d, p + d ≤ l.length → (∀ q i o, p ≤ q → q < p + d → l[q]? = some i → ops[i]? = some o → o.dst ≠ some t) → (T (p + d)).a.get t = (T p).a.get t
  | 0, _, _ => rfl
  | d + 1, hd, hn => by
    have hj : l[p + d]? = some l[p + d] := List.getElem?_eq_getElem (by omega)
    obtain ⟨o, r, ho, ha, _⟩ := H.step (p + d) _ hj
    have h1 := H.slot_const d (by omega) (fun q i o a b => hn q i o a (by omega))
    rw [← h1]
    show (T (p + d + 1)).a.get t = _
    rw [ha]
    have hne := hn (p + d) _ o (by omega) (by omega) hj ho
    exact get_put_ne (H.shape (p + d) (by omega)) _ _ _ hne
end
end Go.Proofs.Ytmglofemnobakaa
