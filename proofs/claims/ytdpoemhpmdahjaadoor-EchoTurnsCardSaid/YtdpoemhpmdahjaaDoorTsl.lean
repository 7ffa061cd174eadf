/- Between which directions a number lies: plain facts; the law on turns. -/
import Derived.Test.YtdpoemhpmdahjaaDoorTur
namespace Go.Proofs.YtdpoemhpmdahjaaDoor
open Go.RowKit
set_option maxHeartbeats 400000
set_option maxRecDepth 100000

theorem nar_bounds (f : Mk → Bool) {k : Nat} : ∀ {a b : Mk}, tree k a b = true → a.1 ≤ (nar k f a b).1.1 ∧ (nar k f a b).2.1 ≤ b.1 ∧ (nar k f a b).2.1 = (nar k f a b).1.1 + 1 := by
  induction k with
  | zero =>
    intro a b ht
    obtain ⟨_, _, hd, _⟩ := tree_zero ht
    exact ⟨Int.le_refl _, Int.le_refl _, hd⟩
  | succ k ih =>
    intro a b ht
    obtain ⟨_, _, hd, _, h1, h2⟩ := tree_facts ht
    have hp := two_le k
    have hm : (midM a b).1 = (a.1 + b.1) / 2 := rfl
    rw [nar]
    by_cases hf : f (midM a b) = true
    · rw [if_pos hf]
      obtain ⟨i1, i2, i3⟩ := ih h2
      exact ⟨by omega, i2, i3⟩
    · rw [if_neg hf]
      obtain ⟨i1, i2, i3⟩ := ih h1
      exact ⟨i1, by omega, i3⟩

theorem nar_mark (f : Mk → Bool) {k : Nat} : ∀ {a b : Mk}, tree k a b = true → nar k (fun c => decide (c.1 ≤ (nar k f a b).1.1)) a b = nar k f a b := by
  induction k with
  | zero => intro a b _; rfl
  | succ k ih =>
    intro a b ht
    obtain ⟨_, _, hd, _, h1, h2⟩ := tree_facts ht
    by_cases hf : f (midM a b) = true
    · have e : nar (k + 1) f a b = nar k f (midM a b) b := by rw [nar, if_pos hf]
      have hb := (nar_bounds f h2).1
      rw [e, nar, if_pos (by simpa using hb)]
      exact ih h2
    · have e : nar (k + 1) f a b = nar k f a (midM a b) := by rw [nar, if_neg hf]
      obtain ⟨_, b2, b3⟩ := nar_bounds f h1
      rw [e, nar, if_neg (by simp; omega)]
      exact ih h1

theorem nar_ends (f : Mk → Bool) {k : Nat} : ∀ {a b : Mk}, ((nar k f a b).1 = a ∨ f (nar k f a b).1 = true) ∧ ((nar k f a b).2 = b ∨ f (nar k f a b).2 = false) := by
  induction k with
  | zero => intro a b; exact ⟨Or.inl rfl, Or.inl rfl⟩
  | succ k ih =>
    intro a b
    rw [nar]
    by_cases hf : f (midM a b) = true
    · rw [if_pos hf]
      obtain ⟨i1, i2⟩ := ih (a := midM a b) (b := b)
      refine ⟨?_, i2⟩
      rcases i1 with e | e
      · right; rw [e]; exact hf
      · exact Or.inr e
    · rw [if_neg hf]
      obtain ⟨i1, i2⟩ := ih (a := a) (b := midM a b)
      refine ⟨i1, ?_⟩
      rcases i2 with e | e
      · right; rw [e]; simpa using hf
      · exact Or.inr e

/-- the mark of a number lies not beyond x + y i -/
def Rch (x y j : Int) : Prop := (dirI j).2.2 * x ≤ (dirI j).2.1 * y

theorem rch_down {x y j : Int} (hx : 0 ≤ x) (hy : 0 ≤ y) (h0 : 0 ≤ j) (h1 : j < 1024) (h : Rch x y (j + 1)) : Rch x y j := by
  have ht := dirI_turn h0 h1
  obtain ⟨_, _, a1, _, a2, _⟩ := okMk_facts (dirI_ok (m := j))
  obtain ⟨_, _, a3, _, a4, _⟩ := okMk_facts (dirI_ok (m := j + 1))
  unfold Rch at h ⊢
  obtain ⟨a, ha⟩ : ∃ a, a = (dirI j).2.2 := ⟨_, rfl⟩
  obtain ⟨b, hb⟩ : ∃ b, b = (dirI j).2.1 := ⟨_, rfl⟩
  obtain ⟨c, hc⟩ : ∃ c, c = (dirI (j + 1)).2.2 := ⟨_, rfl⟩
  obtain ⟨d, hd⟩ : ∃ d, d = (dirI (j + 1)).2.1 := ⟨_, rfl⟩
  rw [← ha] at ht a2 ⊢
  rw [← hb] at ht a1 ⊢
  rw [← hc] at ht a4 h
  rw [← hd] at ht a3 h
  clear ha hb hc hd
  by_cases hd : d = 0
  · subst hd
    have c0 : c ≠ 0 := fun e => by subst e; simp at ht
    have h2 : c * x ≤ 0 := by simpa using h
    have h3 : x = 0 := by
      by_cases hx0 : x = 0
      · exact hx0
      · have := Int.mul_pos (by omega : 0 < c) (by omega : 0 < x)
        omega
    subst h3
    have := Int.mul_nonneg a1 hy
    simpa using this
  · have e1 := Int.mul_le_mul_of_nonneg_right (Int.le_of_lt ht) hx
    have e2 := Int.mul_le_mul_of_nonneg_left h a1
    have e3 : d * (a * x) ≤ d * (b * y) := by
      have f1 : d * (a * x) = a * d * x := by rw [Int.mul_comm a d, Int.mul_assoc]
      have f2 : d * (b * y) = b * (d * y) := by rw [Int.mul_left_comm]
      rw [f1, f2]
      rw [Int.mul_assoc b c x] at e1
      omega
    exact Int.le_of_mul_le_mul_left e3 (by omega)

theorem rch_le {x y j : Int} (hx : 0 ≤ x) (hy : 0 ≤ y) (h0 : 0 ≤ j) : ∀ (i : Nat), j + i ≤ 1024 → Rch x y (j + i) → Rch x y j := by
  intro i
  induction i with
  | zero => intro _ h; simpa using h
  | succ i ih =>
    intro h1 h
    refine ih (by omega) (rch_down hx hy (by omega) (by omega) ?_)
    rw [show j + (i : Int) + 1 = j + ((i + 1 : Nat) : Int) from by omega]
    exact h

theorem halves_mark {x y : Int} (hy : 0 ≤ y) (hyx : y ≤ x) : 0 ≤ halvesI x y ∧ halvesI x y ≤ 1024 ∧ Rch x y (halvesI x y) ∧ (halvesI x y < 1024 → ¬ Rch x y (halvesI x y + 1)) := by
  by_cases h : x = y
  · have e : halvesI x y = 1024 := by unfold halvesI; rw [if_pos h]
    rw [e]
    refine ⟨by decide, by decide, ?_, fun h => absurd h (by decide)⟩
    have e2 : dirI 1024 = m1 := by unfold dirI; rw [if_pos rfl, last_top]
    unfold Rch
    rw [e2, h]
    exact Int.le_refl _
  · have e : halvesI x y = (narAll (fun c => decide (c.2.2 * x ≤ c.2.1 * y))).1.1 := by unfold halvesI; rw [if_neg h]
    obtain ⟨b1, b2, b3⟩ := nar_bounds (fun c => decide (c.2.2 * x ≤ c.2.1 * y)) tree_all
    have hm := nar_mark (fun c => decide (c.2.2 * x ≤ c.2.1 * y)) tree_all
    obtain ⟨e1, e2⟩ := nar_ends (fun c => decide (c.2.2 * x ≤ c.2.1 * y)) (k := 10) (a := m0) (b := m1)
    have c0 : m0.1 = 0 := rfl
    have c1 : m1.1 = 1024 := rfl
    rw [c0] at b1
    rw [c1] at b2
    rw [e]
    unfold narAll at *
    have hd1 : dirI (nar 10 (fun c => decide (c.2.2 * x ≤ c.2.1 * y)) m0 m1).1.1 = (nar 10 (fun c => decide (c.2.2 * x ≤ c.2.1 * y)) m0 m1).1 := by
      unfold dirI
      rw [if_neg (by omega)]
      unfold narAll
      rw [hm]
    have hd2 : dirI ((nar 10 (fun c => decide (c.2.2 * x ≤ c.2.1 * y)) m0 m1).1.1 + 1) = (nar 10 (fun c => decide (c.2.2 * x ≤ c.2.1 * y)) m0 m1).2 := by
      rw [dirI_next b1 (by omega)]
      unfold narAll
      rw [hm]
    refine ⟨b1, by omega, ?_, fun _ => ?_⟩
    · unfold Rch
      rw [hd1]
      rcases e1 with e1 | e1
      · rw [e1]
        show 0 * x ≤ 16777216 * y
        omega
      · simpa using e1
    · unfold Rch
      rw [hd2]
      rcases e2 with e2 | e2
      · rw [e2]
        show ¬ 11863283 * x ≤ 11863283 * y
        omega
      · simpa using e2

theorem phI_first {x y : Int} (hx : 0 < x) (hy : 0 ≤ y) (hyx : y ≤ x) : phI x y = (halvesI x y + 1) / 2 := by
  have r := halves_mark hy hyx
  unfold phI ph4 ph3 ph2 ph1
  rw [if_neg (show ¬ y < 0 by omega), if_neg (show ¬ x < 0 by omega), if_neg (show ¬ x < y by omega), if_neg (by omega)]

theorem ahead {x y : Int} (hx : 0 < x) (hy : 0 ≤ y) (hyx : y ≤ x) (hn : 0 < phI x y) : Rch x y (2 * phI x y - 1) := by
  obtain ⟨h0, h1, h2, _⟩ := halves_mark hy hyx
  have e := phI_first hx hy hyx
  obtain ⟨i, hi⟩ : ∃ i : Nat, halvesI x y = 2 * phI x y - 1 + i := ⟨(halvesI x y - (2 * phI x y - 1)).toNat, by omega⟩
  exact rch_le (by omega) hy (by omega) i (by omega) (by rw [← hi]; exact h2)

theorem behind {x y : Int} (hx : 0 < x) (hy : 0 ≤ y) (hyx : y ≤ x) (hn : phI x y < 512) : ¬ Rch x y (2 * phI x y + 1) := by
  obtain ⟨h0, h1, _, h2⟩ := halves_mark hy hyx
  have e := phI_first hx hy hyx
  intro h
  obtain ⟨i, hi⟩ : ∃ i : Nat, 2 * phI x y + 1 = halvesI x y + 1 + i := ⟨(2 * phI x y + 1 - (halvesI x y + 1)).toNat, by omega⟩
  exact h2 (by omega) (rch_le (by omega) hy (by omega) i (by omega) (by rw [← hi]; exact h))
end Go.Proofs.YtdpoemhpmdahjaaDoor
