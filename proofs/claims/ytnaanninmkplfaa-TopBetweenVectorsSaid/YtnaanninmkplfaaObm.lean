/- Plain mathematics of orbits: arcs, boxes, nominal places; no program. -/
import Derived.ProofKit
namespace Go.Proofs.Ytnaanninmkplfaa
set_option maxRecDepth 100000

/-- what rounding down is, by Go's quotient and remainder -/
def flo (a b : Int) : Int := if a.tmod b < 0 then a.tdiv b - 1 else a.tdiv b
theorem flo_eq {a b : Int} (hb : 0 < b) : flo a b = a / b := by
  unfold flo
  rcases Int.le_total 0 a with h | h
  · rw [Int.tdiv_eq_ediv_of_nonneg h, Int.tmod_eq_emod_of_nonneg h, if_neg (by have := Int.emod_nonneg a (Int.ne_of_gt hb); omega)]
  · obtain ⟨c, rfl⟩ : ∃ c, a = -c := ⟨-a, by omega⟩
    have hc : 0 ≤ c := by omega
    rw [Int.neg_tdiv, Int.neg_tmod, Int.tdiv_eq_ediv_of_nonneg hc, Int.tmod_eq_emod_of_nonneg hc]
    have h1 := Int.emod_nonneg c (Int.ne_of_gt hb)
    have h2 := Int.emod_lt_of_pos c hb
    have h3 := Int.mul_ediv_add_emod c b
    have h4 := Int.emod_nonneg (-c) (Int.ne_of_gt hb)
    have h5 := Int.emod_lt_of_pos (-c) hb
    have h6 := Int.mul_ediv_add_emod (-c) b
    have e1 : b * (c / b) + b * (-c / b) = b * (c / b + -c / b) := (Int.mul_add _ _ _).symm
    obtain ⟨q, hq⟩ : ∃ q, q = c / b + -c / b := ⟨_, rfl⟩
    rw [← hq] at e1
    split
    · have : b * q = - (c % b) - (-c % b) := by omega
      have l1 : b * q < 0 := by omega
      have l2 : -(b * 2) < b * q := by omega
      have : q = -1 := by
        have g1 : q < 0 := by
          rcases Int.lt_or_le q 0 with g | g
          · exact g
          · have := Int.mul_nonneg (Int.le_of_lt hb) g; omega
        have g2 : -2 < q := by
          rcases Int.lt_or_le (-2) q with g | g
          · exact g
          · have := Int.mul_le_mul_of_nonneg_left g (Int.le_of_lt hb); omega
        omega
      omega
    · have : b * q = - (c % b) - (-c % b) := by omega
      have l1 : b * q ≤ 0 := by omega
      have l2 : -b < b * q := by omega
      have : q = 0 := by
        have g1 : q ≤ 0 := by
          rcases Int.lt_or_le 0 q with g | g
          · have := Int.mul_le_mul_of_nonneg_left (show (1 : Int) ≤ q by omega) (Int.le_of_lt hb); omega
          · exact g
        have g2 : -1 < q := by
          rcases Int.lt_or_le (-1) q with g | g
          · exact g
          · have := Int.mul_le_mul_of_nonneg_left g (Int.le_of_lt hb); omega
        omega
      omega

/-- an arc's numbers: from state j to the next -/
def spn (S : Nat → Nat → Int) (j : Nat) : Int := S (j + 1) 0 - S j 0
def mid (S : Nat → Nat → Int) (j : Nat) (t : Int) (c : Nat) : Int := S j c * spn S j + (S (j + 1) c - S j c) * (t - S j 0)
def off (S : Nat → Nat → Int) (b : Int) (j : Nat) (t : Int) : Int := if t = S j 0 ∨ t = S (j + 1) 0 then mid S j t 4 else mid S j t 4 + b * spn S j
def loJ (S : Nat → Nat → Int) (b : Int) (j : Nat) (t : Int) (c : Nat) : Int := (mid S j t c - off S b j t) / spn S j
def hiJ (S : Nat → Nat → Int) (b : Int) (j : Nat) (t : Int) (c : Nat) : Int := -((-(mid S j t c + off S b j t)) / spn S j)
def noJ (S : Nat → Nat → Int) (j : Nat) (t : Int) (c : Nat) : Int := (2 * mid S j t c + spn S j) / (2 * spn S j)

/-- a tick lies in an arc -/
def In (S : Nat → Nat → Int) (j : Nat) (t : Int) : Prop := S j 0 ≤ t ∧ t ≤ S (j + 1) 0 ∧ S j 0 < S (j + 1) 0

theorem mid_other (S : Nat → Nat → Int) (j : Nat) (t : Int) (c : Nat) : S j c * (spn S j - (t - S j 0)) + S (j + 1) c * (t - S j 0) = mid S j t c := by
  unfold mid
  rw [Int.mul_sub, Int.sub_mul]
  omega

theorem mid_first (S : Nat → Nat → Int) (j c : Nat) : mid S j (S j 0) c = S j c * spn S j := by unfold mid; simp
theorem mid_last (S : Nat → Nat → Int) (j c : Nat) : mid S j (S (j + 1) 0) c = S (j + 1) c * spn S j := by
  unfold mid spn
  rw [Int.sub_mul]
  omega

theorem lo_first {S : Nat → Nat → Int} {b : Int} {j : Nat} (h : 0 < spn S j) (c : Nat) : loJ S b j (S j 0) c = S j c - S j 4 := by
  unfold loJ off
  rw [if_pos (Or.inl rfl), mid_first, mid_first, ← Int.sub_mul, Int.mul_ediv_cancel _ (by omega)]
theorem lo_last {S : Nat → Nat → Int} {b : Int} {j : Nat} (h : 0 < spn S j) (c : Nat) : loJ S b j (S (j + 1) 0) c = S (j + 1) c - S (j + 1) 4 := by
  unfold loJ off
  rw [if_pos (Or.inr rfl), mid_last, mid_last, ← Int.sub_mul, Int.mul_ediv_cancel _ (by omega)]
theorem hi_first {S : Nat → Nat → Int} {b : Int} {j : Nat} (h : 0 < spn S j) (c : Nat) : hiJ S b j (S j 0) c = S j c + S j 4 := by
  unfold hiJ off
  rw [if_pos (Or.inl rfl), mid_first, mid_first, ← Int.add_mul, ← Int.neg_mul, Int.mul_ediv_cancel _ (by omega)]
  omega
theorem hi_last {S : Nat → Nat → Int} {b : Int} {j : Nat} (h : 0 < spn S j) (c : Nat) : hiJ S b j (S (j + 1) 0) c = S (j + 1) c + S (j + 1) 4 := by
  unfold hiJ off
  rw [if_pos (Or.inr rfl), mid_last, mid_last, ← Int.add_mul, ← Int.neg_mul, Int.mul_ediv_cancel _ (by omega)]
  omega
theorem no_of {a d : Int} (h : 0 < d) : (2 * (a * d) + d) / (2 * d) = a := by
  have e : 2 * (a * d) + d = d + a * (2 * d) := by rw [show a * (2 * d) = 2 * (a * d) by rw [Int.mul_left_comm]]; omega
  rw [e, Int.add_mul_ediv_right _ _ (by omega), Int.ediv_eq_zero_of_lt (by omega) (by omega)]
  omega
theorem no_first {S : Nat → Nat → Int} {j : Nat} (h : 0 < spn S j) (c : Nat) : noJ S j (S j 0) c = S j c := by
  unfold noJ
  rw [mid_first, no_of h]
theorem no_last {S : Nat → Nat → Int} {j : Nat} (h : 0 < spn S j) (c : Nat) : noJ S j (S (j + 1) 0) c = S (j + 1) c := by
  unfold noJ
  rw [mid_last, no_of h]

/-- the first of the arcs 0 .. k that a tick reaches, from above -/
def arcOf (S : Nat → Nat → Int) (t : Int) : Nat → Nat
  | 0 => 0
  | k + 1 => if S (k + 1) 0 ≤ t then k + 1 else arcOf S t k
theorem arcOf_le (S : Nat → Nat → Int) (t : Int) : ∀ k, arcOf S t k ≤ k
  | 0 => Nat.le_refl _
  | k + 1 => by
    rw [arcOf]
    split
    · exact Nat.le_refl _
    · exact Nat.le_succ_of_le (arcOf_le S t k)

/-- the ticks of states ascend -/
def Asc (S : Nat → Nat → Int) (n : Nat) : Prop := ∀ i, i + 1 < n → S i 0 < S (i + 1) 0
theorem Asc.lt {S : Nat → Nat → Int} {n : Nat} (h : Asc S n) {i j : Nat} (hij : i < j) (hj : j < n) : S i 0 < S j 0 := by
  induction j with
  | zero => omega
  | succ j ih =>
    have := h j hj
    rcases Nat.lt_or_ge i j with g | g
    · have := ih g (by omega); omega
    · obtain rfl : i = j := by omega
      exact this
theorem Asc.le {S : Nat → Nat → Int} {n : Nat} (h : Asc S n) {i j : Nat} (hij : i ≤ j) (hj : j < n) : S i 0 ≤ S j 0 := by
  rcases Nat.lt_or_ge i j with g | g
  · exact Int.le_of_lt (h.lt g hj)
  · obtain rfl : i = j := by omega
    exact Int.le_refl _

theorem arcOf_in {S : Nat → Nat → Int} {n : Nat} (h : Asc S n) {t : Int} : ∀ {k}, k + 1 < n → S 0 0 ≤ t → t ≤ S (k + 1) 0 → In S (arcOf S t k) t
  | 0, hk, h0, h1 => ⟨h0, h1, h 0 hk⟩
  | k + 1, hk, h0, h1 => by
    rw [arcOf]
    split
    · exact ⟨‹_›, h1, h _ hk⟩
    · exact arcOf_in h (by omega) h0 (by omega)

/-- two arcs of a tick are the same, or neighbours -/
theorem in_two {S : Nat → Nat → Int} {n : Nat} (h : Asc S n) {t : Int} {i j : Nat} (hi : In S i t) (hj : In S j t) (_hin : i + 1 < n) (hjn : j + 1 < n) (hij : i < j) : j = i + 1 ∧ t = S j 0 := by
  obtain ⟨_, i2, _⟩ := hi
  obtain ⟨j1, _, _⟩ := hj
  rcases Nat.lt_or_ge (i + 1) j with g | g
  · have := h.lt g (by omega)
    omega
  · obtain rfl : j = i + 1 := by omega
    exact ⟨rfl, by omega⟩

theorem same_of {S : Nat → Nat → Int} {n : Nat} (h : Asc S n) {t : Int} {i j : Nat} (hi : In S i t) (hj : In S j t) (hin : i + 1 < n) (hjn : j + 1 < n) (b : Int) (c : Nat) :
    loJ S b i t c = loJ S b j t c ∧ hiJ S b i t c = hiJ S b j t c ∧ noJ S i t c = noJ S j t c := by
  have key : ∀ {i j : Nat}, In S i t → In S j t → i + 1 < n → j + 1 < n → i < j → loJ S b i t c = loJ S b j t c ∧ hiJ S b i t c = hiJ S b j t c ∧ noJ S i t c = noJ S j t c := by
    intro i j hi hj hin hjn hij
    obtain ⟨rfl, rfl⟩ := in_two h hi hj hin hjn hij
    have s1 : 0 < spn S i := by unfold spn; have := hi.2.2; omega
    have s2 : 0 < spn S (i + 1) := by unfold spn; have := hj.2.2; omega
    exact ⟨(lo_last s1 c).trans (lo_first s2 c).symm, (hi_last s1 c).trans (hi_first s2 c).symm, (no_last s1 c).trans (no_first s2 c).symm⟩
  rcases Nat.lt_trichotomy i j with g | g | g
  · exact key hi hj hin hjn g
  · subst g; exact ⟨rfl, rfl, rfl⟩
  · obtain ⟨a1, a2, a3⟩ := key hj hi hjn hin g
    exact ⟨a1.symm, a2.symm, a3.symm⟩

/-- the box and the nominal place at a tick of an orbit of n states -/
def lo (S : Nat → Nat → Int) (n : Nat) (b t : Int) (c : Nat) : Int := loJ S b (arcOf S t (n - 2)) t c
def hi (S : Nat → Nat → Int) (n : Nat) (b t : Int) (c : Nat) : Int := hiJ S b (arcOf S t (n - 2)) t c
def no (S : Nat → Nat → Int) (n : Nat) (t : Int) (c : Nat) : Int := noJ S (arcOf S t (n - 2)) t c

/-- a state by itself -/
def StOk (S : Nat → Nat → Int) (i : Nat) : Prop :=
  (0 ≤ S i 0 ∧ S i 0 ≤ 1000000000) ∧ (-100000000 ≤ S i 1 ∧ S i 1 ≤ 100000000) ∧ (-100000000 ≤ S i 2 ∧ S i 2 ≤ 100000000) ∧ (-100000000 ≤ S i 3 ∧ S i 3 ≤ 100000000) ∧ (0 ≤ S i 4 ∧ S i 4 ≤ 100000)
/-- an orbit that has its form -/
def Right (S : Nat → Nat → Int) (n : Nat) (b : Int) : Prop :=
  2 ≤ n ∧ n ≤ 40 ∧ (0 ≤ b ∧ b ≤ 100000) ∧ (∀ i, i < n → StOk S i) ∧ Asc S n ∧ ∀ i, i < n → S i 0 ≤ S 0 0 + 20000
def Has (S : Nat → Nat → Int) (n : Nat) (t : Int) : Prop := S 0 0 ≤ t ∧ t ≤ S (n - 1) 0

theorem Right.arc {S : Nat → Nat → Int} {n : Nat} {b t : Int} (h : Right S n b) (ht : Has S n t) : In S (arcOf S t (n - 2)) t ∧ arcOf S t (n - 2) + 1 < n := by
  obtain ⟨h1, _, _, _, ha, _⟩ := h
  have hl := arcOf_le S t (n - 2)
  refine ⟨arcOf_in ha (by omega) ht.1 ?_, by omega⟩
  rw [show n - 2 + 1 = n - 1 by omega]
  exact ht.2

theorem Right.spn {S : Nat → Nat → Int} {n : Nat} {b : Int} (h : Right S n b) {j : Nat} (hj : j + 1 < n) : 1 ≤ spn S j ∧ spn S j ≤ 20000 := by
  obtain ⟨h1, _, _, _, ha, h5⟩ := h
  have a1 := ha j hj
  have a2 := h5 (j + 1) hj
  have a3 := ha.le (Nat.zero_le j) (by omega)
  show 1 ≤ S (j + 1) 0 - S j 0 ∧ S (j + 1) 0 - S j 0 ≤ 20000
  omega

theorem mul_range {x d m D : Int} (h1 : -m ≤ x) (h2 : x ≤ m) (h3 : 0 ≤ d) (h4 : d ≤ D) (hm : 0 ≤ m) : -(m * D) ≤ x * d ∧ x * d ≤ m * D := by
  have a := Int.mul_le_mul_of_nonneg_right h2 h3
  have b := Int.mul_le_mul_of_nonneg_right h1 h3
  have c := Int.mul_le_mul_of_nonneg_left h4 hm
  rw [Int.neg_mul] at b
  omega

/-- a coordinate lies between those of the states, times the span -/
theorem mid_range {S : Nat → Nat → Int} {j : Nat} {t m l : Int} {c : Nat} (hi : In S j t) (h1 : l ≤ S j c ∧ S j c ≤ m) (h2 : l ≤ S (j + 1) c ∧ S (j + 1) c ≤ m) : l * Go.Proofs.Ytnaanninmkplfaa.spn S j ≤ mid S j t c ∧ mid S j t c ≤ m * Go.Proofs.Ytnaanninmkplfaa.spn S j := by
  rw [← mid_other]
  obtain ⟨a, b, _⟩ := hi
  have p : 0 ≤ t - S j 0 := by omega
  have q : 0 ≤ Go.Proofs.Ytnaanninmkplfaa.spn S j - (t - S j 0) := by unfold Go.Proofs.Ytnaanninmkplfaa.spn; omega
  have e (x : Int) : x * Go.Proofs.Ytnaanninmkplfaa.spn S j = x * (Go.Proofs.Ytnaanninmkplfaa.spn S j - (t - S j 0)) + x * (t - S j 0) := by rw [← Int.mul_add]; congr 1; omega
  rw [e l, e m]
  have a1 := Int.mul_le_mul_of_nonneg_right h1.1 q
  have a2 := Int.mul_le_mul_of_nonneg_right h1.2 q
  have a3 := Int.mul_le_mul_of_nonneg_right h2.1 p
  have a4 := Int.mul_le_mul_of_nonneg_right h2.2 p
  omega
end Go.Proofs.Ytnaanninmkplfaa
