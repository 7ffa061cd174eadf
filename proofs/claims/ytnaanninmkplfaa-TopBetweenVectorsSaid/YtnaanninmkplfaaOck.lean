/- Contracts of package orbit: an orbit's check. -/
import Derived.Test.YtnaanninmkplfaaObe
import Derived.Test.YtnaanninmkplfaaOna
namespace Go.Proofs.Ytnaanninmkplfaa
open Go.RowKit
set_option maxHeartbeats 400000
set_option maxRecDepth 100000

def l4 (a b c d : Int) (i : Nat) : Int := if i = 0 then a else if i = 1 then b else if i = 2 then c else d
theorem get_l4 (a b c d : Int) : ∀ i, i < 4 → #[Value.int .i64 a, .int .i64 b, .int .i64 c, .int .i64 d][i]? = some (.int .i64 (l4 a b c d i)) := by
  intro i hi
  match i, hi with
  | 0, _ => rfl
  | 1, _ => rfl
  | 2, _ => rfl
  | 3, _ => rfl

/-- the error ahead of the states -/
def e0 (nm : Bool) (b : Int) (n : Nat) : Int := fe (l4 (eif (!nm) 4) (eif (!inB b 0 100000) 2) (eif (decide ((n : Int) < 2)) 10) (eif (decide ((40 : Int) < (n : Int))) 8)) 4
theorem eif_t (x : Int) : eif true x = x := rfl
theorem eif_f (x : Int) : eif false x = 0 := rfl
theorem fe_four (a b c d : Int) : fe (l4 a b c d) 4 = if a = 0 then (if b = 0 then (if c = 0 then d else c) else b) else a := by
  simp only [fe, l4]
  by_cases h1 : a = 0 <;> by_cases h2 : b = 0 <;> by_cases h3 : c = 0 <;> simp [h1, h2, h3]
theorem fe_two (a b : Int) : fe (l2 a b) 2 = if a = 0 then b else a := by
  simp only [fe, l2]
  by_cases h1 : a = 0 <;> simp [h1]
theorem fe_three (a b c : Int) : fe (l3 a b c) 3 = if a = 0 then (if b = 0 then c else b) else a := by
  simp only [fe, l3]
  by_cases h1 : a = 0 <;> by_cases h2 : b = 0 <;> simp [h1, h2]
theorem inB_dec (n lo hi : Int) : inB n lo hi = decide (lo ≤ n ∧ n ≤ hi) := by
  by_cases h : lo ≤ n ∧ n ≤ hi
  · rw [inB_t h, decide_eq_true h]
  · rw [inB_f h, decide_eq_false h]

theorem oce_bad {nm : Bool} {b : Int} {n : Nat} (S : Nat → Nat → Int) (h : e0 nm b n ≠ 0) : oce nm b n S = (0, e0 nm b n) := by
  unfold e0 at h ⊢
  rw [fe_four] at h ⊢
  unfold oce
  cases nm
  · rfl
  · rw [inB_dec] at h ⊢
    by_cases h2 : 0 ≤ b ∧ b ≤ 100000
    · by_cases h3 : n < 2
      · have : (n : Int) < 2 := by omega
        simp [h2, h3, this, eif]
      · by_cases h4 : 40 < n
        · have : ¬ (n : Int) < 2 := by omega
          have : (40 : Int) < (n : Int) := by omega
          simp [*, eif]
        · exfalso
          apply h
          have : ¬ (n : Int) < 2 := by omega
          have : ¬ (40 : Int) < (n : Int) := by omega
          simp [*, eif]
    · simp [h2, eif]
theorem oce_good {nm : Bool} {b : Int} {n : Nat} (S : Nat → Nat → Int) (h : e0 nm b n = 0) : (2 ≤ n ∧ n ≤ 40) ∧ oce nm b n S = if fst S n < n then (fst S n, ste S (fst S n)) else (0, 0) := by
  unfold e0 at h
  rw [fe_four] at h
  unfold oce
  cases nm
  · simp [eif] at h
  · rw [inB_dec] at h
    by_cases h2 : 0 ≤ b ∧ b ≤ 100000
    · by_cases h3 : n < 2
      · have : (n : Int) < 2 := by omega
        simp [h2, this, eif] at h
      · by_cases h4 : 40 < n
        · have : ¬ (n : Int) < 2 := by omega
          have : (40 : Int) < (n : Int) := by omega
          simp [*, eif] at h
        · exact ⟨by omega, by simp [h2, h3, h4]⟩
    · simp [h2, eif] at h

theorem three (p q r : Prop) [Decidable p] [Decidable q] [Decidable r] :
    (if (if (!decide p) = true then (2 : Int) else 0) = 0 then (if (if q then (0 : Int) else 2) = 0 then (if (!decide r) = true then (2 : Int) else 0) else (if q then (0 : Int) else 2)) else (if (!decide p) = true then (2 : Int) else 0)) = if p ∧ q ∧ r then (0 : Int) else 2 := by
  by_cases h1 : p <;> by_cases h2 : q <;> by_cases h3 : r <;> simp [*]
theorem se_eq (t x y z e : Int) : se t x y z e = if (0 ≤ t ∧ t ≤ 1000000000) ∧ ((-100000000 ≤ x ∧ x ≤ 100000000) ∧ (-100000000 ≤ y ∧ y ≤ 100000000) ∧ (-100000000 ≤ z ∧ z ≤ 100000000)) ∧ (0 ≤ e ∧ e ≤ 100000) then 0 else 2 := by
  unfold se
  rw [fe_three, inB_dec, inB_dec]
  unfold pe eif
  exact three (0 ≤ t ∧ t ≤ 1000000000) ((-100000000 ≤ x ∧ x ≤ 100000000) ∧ (-100000000 ≤ y ∧ y ≤ 100000000) ∧ (-100000000 ≤ z ∧ z ≤ 100000000)) (0 ≤ e ∧ e ≤ 100000)

theorem se_st (S : Nat → Nat → Int) (k : Nat) : se (S k 0) (S k 1) (S k 2) (S k 3) (S k 4) = if StOk S k then 0 else 2 := by
  rw [se_eq]
  by_cases h : StOk S k
  · rw [if_pos h, if_pos ⟨h.1, ⟨h.2.1, h.2.2.1, h.2.2.2.1⟩, h.2.2.2.2⟩]
  · rw [if_neg h, if_neg fun g => h ⟨g.1, g.2.1.1, g.2.1.2.1, g.2.1.2.2, g.2.2⟩]
theorem ste_eq (S : Nat → Nat → Int) (k : Nat) : fe (l2 (se (S k 0) (S k 1) (S k 2) (S k 3) (S k 4)) (cb S k (S k 0))) 2 = ste S k := by
  rw [fe_two, se_st]
  unfold ste cb
  by_cases hok : StOk S k
  · rw [if_pos hok, if_pos hok, if_pos rfl]
    rcases Nat.eq_zero_or_pos k with h | h
    · subst h; simp
    · rw [if_neg (by omega), fe_two]
      by_cases h1 : S k 0 ≤ S (k - 1) 0
      · simp [h1, h, eif]
      · by_cases h2 : S 0 0 + 20000 < S k 0
        · simp [h1, h2, h, eif]
        · simp [h1, h2, eif]
  · rw [if_neg hok, if_neg hok]
    rfl

end Go.Proofs.Ytnaanninmkplfaa
