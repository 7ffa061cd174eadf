/- Unwrap: what is wrong with nets and turns; what turns cost. Plain mathematics. -/
import Derived.Test.YtmglofemnobakaaSyr
namespace Go.Proofs.Ytmglofemnobakaa
open Go.RowKit

/-- what is wrong with an edge -/
def ecode (N f t j w : Int) : Int := if 0 ≤ f ∧ f ≤ N + -1 ∧ 0 ≤ t ∧ t ≤ N + -1 then (if f = t then 3 else if -1000 ≤ j ∧ j ≤ 1000 ∧ 0 ≤ w ∧ w ≤ 1000 then 0 else 2) else 6
/-- the first wrong edge, and why -/
def feR (N : Int) (n : Nat) (S : Nat → Nat → Int) : Int × Int := fw (fun i => ecode N (S i 0) (S i 1) (S i 2) (S i 3)) n
/-- what is wrong with a net: the edge's number, and why -/
def cnR (N : Int) (n : Nat) (S : Nat → Nat → Int) : Int × Int := if 0 ≤ N ∧ N ≤ 200 then (if (n : Int) ≤ 600 then feR N n S else (0, 8)) else (0, 2)
def ec (N : Int) (S : Nat → Nat → Int) (i : Nat) : Int := ecode N (flat4 S ((i : Int) * 4)) (flat4 S ((i : Int) * 4 + 1)) (flat4 S ((i : Int) * 4 + 2)) (flat4 S ((i : Int) * 4 + 3))
theorem ec_eq (N : Int) (S : Nat → Nat → Int) (i : Nat) : ec N S i = ecode N (S i 0) (S i 1) (S i 2) (S i 3) := by unfold ec; rw [flat4_0, flat4_1, flat4_2, flat4_3]
/-- a row of numbers; a row of one and the same -/
def flat1 (t : Nat → Int) (j : Int) : Int := t j.toNat
def kst (N : Int) (_ : Int) : Int := N
theorem flat1_nat (t : Nat → Int) (k : Nat) : flat1 t (k : Int) = t k := rfl
/-- what is wrong with a turn -/
def tcode (x : Int) : Int := if -1000000 ≤ x ∧ x ≤ 1000000 then 0 else 2
def trR (m : Nat) (t : Nat → Int) : Int × Int := fw (fun i => tcode (t i)) m
section
variable {N : Int} {n m k : Nat} {S : Nat → Nat → Int} {t : Nat → Int} {c : Int}
theorem fe_none (hz : ∀ j, j < n → ec N S j = 0) : feR N n S = (0, 0) := fw_none fun j hj => by have := hz j hj; rwa [ec_eq] at this
theorem fe_hit' (hz : ∀ j, j < k → ec N S j = 0) (hc : ec N S k = c) (h0 : c ≠ 0) (hk : k < n) : feR N n S = ((k : Int), c) := by
  rw [ec_eq] at hc
  have := fw_hit (g := fun i => ecode N (S i 0) (S i 1) (S i 2) (S i 3)) (k := k) (n := n) (fun j hj => by have := hz j hj; rwa [ec_eq] at this) (by simp only [hc]; exact h0) hk
  unfold feR
  rw [this]
  simp only [hc]
theorem cn_range (h : ¬ (0 ≤ N ∧ N ≤ 200)) : cnR N n S = (0, 2) := by unfold cnR; rw [if_neg h]
theorem cn_large (h : 0 ≤ N ∧ N ≤ 200) (h2 : ¬ (n : Int) ≤ 600) : cnR N n S = (0, 8) := by unfold cnR; rw [if_pos h, if_neg h2]
theorem cn_edges (h : 0 ≤ N ∧ N ≤ 200) (h2 : (n : Int) ≤ 600) : cnR N n S = feR N n S := by unfold cnR; rw [if_pos h, if_pos h2]
theorem cn_none (h : 0 ≤ N ∧ N ≤ 200) (h2 : (n : Int) ≤ 600) (hz : ∀ j, j < n → ec N S j = 0) : cnR N n S = (0, 0) := by rw [cn_edges h h2, fe_none hz]
theorem cn_hit (h : 0 ≤ N ∧ N ≤ 200) (h2 : (n : Int) ≤ 600) (hz : ∀ j, j < k → ec N S j = 0) (hc : ec N S k = c) (h0 : c ≠ 0) (hk : k < n) : cnR N n S = ((k : Int), c) := by rw [cn_edges h h2, fe_hit' hz hc h0 hk]
theorem tr_none (hz : ∀ j : Nat, j < m → tcode (flat1 t j) = 0) : trR m t = (0, 0) := fw_none fun j hj => hz j hj
theorem tr_hit (hz : ∀ j : Nat, j < k → tcode (flat1 t j) = 0) (hc : tcode (flat1 t k) = c) (h0 : c ≠ 0) (hk : k < m) : trR m t = ((k : Int), c) := by
  have := fw_hit (g := fun i => tcode (t i)) (k := k) (n := m) (fun j hj => hz j hj) (by show tcode (t k) ≠ 0; rw [show tcode (t k) = c from hc]; exact h0) hk
  unfold trR
  rw [this]
  show ((k : Int), tcode (t k)) = _
  rw [show tcode (t k) = c from hc]
/-- a right net's edges -/
theorem cn_right (h : (cnR N n S).2 = 0) : (0 ≤ N ∧ N ≤ 200) ∧ (n : Int) ≤ 600 ∧ ∀ i, i < n → ec N S i = 0 := by
  unfold cnR at h
  split at h
  · rename_i h1
    split at h
    · rename_i h2
      exact ⟨h1, h2, fun i hi => by rw [ec_eq]; exact fw_z h i hi⟩
    · cases h
  · cases h
theorem tr_right (h : (trR m t).2 = 0) : ∀ i, i < m → -1000000 ≤ t i ∧ t i ≤ 1000000 := fun i hi => by
  have := fw_z h i hi
  unfold tcode at this
  split at this
  · assumption
  · cases this
theorem ec_right (h : ec N S k = 0) : (0 ≤ flat4 S ((k : Int) * 4) ∧ flat4 S ((k : Int) * 4) ≤ N + -1) ∧ (0 ≤ flat4 S ((k : Int) * 4 + 1) ∧ flat4 S ((k : Int) * 4 + 1) ≤ N + -1) ∧ (-1000 ≤ flat4 S ((k : Int) * 4 + 2) ∧ flat4 S ((k : Int) * 4 + 2) ≤ 1000) ∧ 0 ≤ flat4 S ((k : Int) * 4 + 3) ∧ flat4 S ((k : Int) * 4 + 3) ≤ 1000 := by
  unfold ec ecode at h
  split at h
  · rename_i h1
    split at h
    · cases h
    · split at h
      · rename_i h2
        exact ⟨⟨h1.1, h1.2.1⟩, ⟨h1.2.2.1, h1.2.2.2⟩, ⟨h2.1, h2.2.1⟩, h2.2.2.1, h2.2.2.2⟩
      · cases h
  · cases h

/-- an edge's excess; what the first k edges cost -/
def exc (S : Nat → Nat → Int) (t : Nat → Int) (k : Nat) : Int := flat1 t (flat4 S ((k : Int) * 4 + 1)) - flat1 t (flat4 S ((k : Int) * 4)) + flat4 S ((k : Int) * 4 + 2)
def cost (S : Nat → Nat → Int) (t : Nat → Int) : Nat → Int
  | 0 => 0
  | k + 1 => cost S t k + flat4 S ((k : Int) * 4 + 3) * (if 0 ≤ exc S t k then exc S t k else - exc S t k)
theorem mul_within {w x M : Int} (hw : 0 ≤ w) (hw2 : w ≤ 1000) (hx : -M ≤ x) (hx2 : x ≤ M) (hM : 0 ≤ M) : -(1000 * M) ≤ w * x ∧ w * x ≤ 1000 * M := by
  have h1 : w * x ≤ w * M := Int.mul_le_mul_of_nonneg_left hx2 hw
  have h2 : w * M ≤ 1000 * M := Int.mul_le_mul_of_nonneg_right hw2 hM
  have h3 : w * (-M) ≤ w * x := Int.mul_le_mul_of_nonneg_left hx hw
  have h4 : w * (-M) = - (w * M) := Int.mul_neg w M
  omega
theorem edge_k (hR : ∀ i, i < n → ec N S i = 0) (ht : ∀ i, i < m → -1000000 ≤ t i ∧ t i ≤ 1000000) (hm : (m : Int) = N) (hk : k < n) :
    ((0 ≤ flat4 S ((k : Int) * 4) ∧ flat4 S ((k : Int) * 4) ≤ N + -1) ∧ (0 ≤ flat4 S ((k : Int) * 4 + 1) ∧ flat4 S ((k : Int) * 4 + 1) ≤ N + -1) ∧ (-1000 ≤ flat4 S ((k : Int) * 4 + 2) ∧ flat4 S ((k : Int) * 4 + 2) ≤ 1000) ∧ 0 ≤ flat4 S ((k : Int) * 4 + 3) ∧ flat4 S ((k : Int) * 4 + 3) ≤ 1000) ∧
    (-1000000 ≤ flat1 t (flat4 S ((k : Int) * 4 + 1)) ∧ flat1 t (flat4 S ((k : Int) * 4 + 1)) ≤ 1000000) ∧ (-1000000 ≤ flat1 t (flat4 S ((k : Int) * 4)) ∧ flat1 t (flat4 S ((k : Int) * 4)) ≤ 1000000) ∧
    (-2001000000 ≤ flat4 S ((k : Int) * 4 + 3) * (flat1 t (flat4 S ((k : Int) * 4 + 1)) - flat1 t (flat4 S ((k : Int) * 4)) + flat4 S ((k : Int) * 4 + 2)) ∧ flat4 S ((k : Int) * 4 + 3) * (flat1 t (flat4 S ((k : Int) * 4 + 1)) - flat1 t (flat4 S ((k : Int) * 4)) + flat4 S ((k : Int) * 4 + 2)) ≤ 2001000000) ∧
    (-2001000000 ≤ flat4 S ((k : Int) * 4 + 3) * (0 - (flat1 t (flat4 S ((k : Int) * 4 + 1)) - flat1 t (flat4 S ((k : Int) * 4)) + flat4 S ((k : Int) * 4 + 2))) ∧ flat4 S ((k : Int) * 4 + 3) * (0 - (flat1 t (flat4 S ((k : Int) * 4 + 1)) - flat1 t (flat4 S ((k : Int) * 4)) + flat4 S ((k : Int) * 4 + 2))) ≤ 2001000000) := by
  have h1 := ec_right (hR k hk)
  have h2 : ∀ x : Int, 0 ≤ x → x ≤ N + -1 → -1000000 ≤ flat1 t x ∧ flat1 t x ≤ 1000000 := fun x a b => ht x.toNat (by omega)
  have h3 := h2 _ h1.1.1 h1.1.2
  have h4 := h2 _ h1.2.1.1 h1.2.1.2
  have h5 := mul_within (M := 2001000) h1.2.2.2.1 h1.2.2.2.2 (x := flat1 t (flat4 S ((k : Int) * 4 + 1)) - flat1 t (flat4 S ((k : Int) * 4)) + flat4 S ((k : Int) * 4 + 2)) (by omega) (by omega) (by omega)
  have h6 := mul_within (M := 2001000) h1.2.2.2.1 h1.2.2.2.2 (x := 0 - (flat1 t (flat4 S ((k : Int) * 4 + 1)) - flat1 t (flat4 S ((k : Int) * 4)) + flat4 S ((k : Int) * 4 + 2))) (by omega) (by omega) (by omega)
  exact ⟨h1, h4, h3, ⟨by omega, by omega⟩, by omega, by omega⟩
end
end Go.Proofs.Ytmglofemnobakaa
