/- Plain mathematics of orbits: squares from a place to a box; no program. -/
import Derived.Test.YtnaanninmkplfaaObm
namespace Go.Proofs.Ytnaanninmkplfaa
set_option maxRecDepth 100000

theorem sq_le {a b : Int} (h1 : -b ≤ a) (h2 : a ≤ b) : a * a ≤ b * b := by
  have hb : 0 ≤ b := by omega
  rcases Int.le_total 0 a with h | h
  · exact Int.mul_le_mul h2 h2 h hb
  · have := Int.mul_le_mul (show -a ≤ b by omega) (show -a ≤ b by omega) (by omega) hb
    rwa [Int.neg_mul_neg] at this
theorem sq_nonneg (a : Int) : 0 ≤ a * a := by
  rcases Int.le_total 0 a with h | h
  · exact Int.mul_nonneg h h
  · have := Int.mul_nonneg (show 0 ≤ -a by omega) (show 0 ≤ -a by omega)
    rwa [Int.neg_mul_neg] at this

/-- how far a side of a box is, at least and at most -/
def near (l h p : Int) : Int := max (max (l - p) (p - h)) 0
def far (l h p : Int) : Int := max (h - p) (p - l)
theorem near_in {l h p : Int} (h1 : l ≤ p) (h2 : p ≤ h) : near l h p = 0 := by unfold near; omega
theorem near_below {l h p : Int} (h1 : p < l) (h2 : l ≤ h) : near l h p * near l h p = min ((p - l) * (p - l)) ((p - h) * (p - h)) := by
  have e : near l h p = l - p := by unfold near; omega
  have e2 : (l - p) * (l - p) = (p - l) * (p - l) := by rw [← Int.neg_mul_neg, Int.neg_sub]
  have := sq_le (a := p - l) (b := h - p) (by omega) (by omega)
  have e3 : (h - p) * (h - p) = (p - h) * (p - h) := by rw [← Int.neg_mul_neg, Int.neg_sub]
  rw [e, e2]
  omega
theorem near_above {l h p : Int} (h1 : h < p) (h2 : l ≤ h) : near l h p * near l h p = min ((p - l) * (p - l)) ((p - h) * (p - h)) := by
  have e : near l h p = p - h := by unfold near; omega
  have := sq_le (a := p - h) (b := p - l) (by omega) (by omega)
  rw [e]
  omega
theorem far_sq {l h p : Int} (h2 : l ≤ h) : far l h p * far l h p = max ((p - l) * (p - l)) ((p - h) * (p - h)) := by
  have e3 : (h - p) * (h - p) = (p - h) * (p - h) := by rw [← Int.neg_mul_neg, Int.neg_sub]
  rcases Int.le_total (h - p) (p - l) with g | g
  · have e : far l h p = p - l := by unfold far; omega
    have := sq_le (a := h - p) (b := p - l) (by omega) (by omega)
    rw [e]
    omega
  · have e : far l h p = h - p := by unfold far; omega
    have := sq_le (a := p - l) (b := h - p) (by omega) (by omega)
    rw [e]
    omega
theorem near_le {l h p x : Int} (h1 : l ≤ x) (h2 : x ≤ h) : near l h p * near l h p ≤ (x - p) * (x - p) := by
  rcases Int.lt_or_le p l with g | g
  · have e : near l h p = l - p := by unfold near; omega
    rw [e]
    exact sq_le (by omega) (by omega)
  · rcases Int.lt_or_le h p with g2 | g2
    · have e : near l h p = p - h := by unfold near; omega
      have := sq_le (a := p - h) (b := p - x) (by omega) (by omega)
      have e3 : (p - x) * (p - x) = (x - p) * (x - p) := by rw [← Int.neg_mul_neg, Int.neg_sub]
      rw [e]
      omega
    · rw [near_in g g2]
      exact sq_nonneg _
theorem le_far {l h p x : Int} (h1 : l ≤ x) (h2 : x ≤ h) : (x - p) * (x - p) ≤ far l h p * far l h p :=
  sq_le (by unfold far; omega) (by unfold far; omega)
theorem near_pos (l h p : Int) : 0 ≤ near l h p := by unfold near; omega
theorem near_top {l h p M : Int} (_h1 : -M ≤ l - p) (h2 : l - p ≤ M) (h3 : -M ≤ p - h) (h4 : p - h ≤ M) : near l h p ≤ M := by unfold near; omega

/-- the three numbers of a place, by number 1 .. 3 -/
def Pl (P : Nat → Int) : Prop := (-100000000 ≤ P 1 ∧ P 1 ≤ 100000000) ∧ (-100000000 ≤ P 2 ∧ P 2 ≤ 100000000) ∧ (-100000000 ≤ P 3 ∧ P 3 ≤ 100000000)
def sqL (S : Nat → Nat → Int) (n : Nat) (b t : Int) (P : Nat → Int) : Int :=
  near (lo S n b t 1) (hi S n b t 1) (P 1) * near (lo S n b t 1) (hi S n b t 1) (P 1) + near (lo S n b t 2) (hi S n b t 2) (P 2) * near (lo S n b t 2) (hi S n b t 2) (P 2) + near (lo S n b t 3) (hi S n b t 3) (P 3) * near (lo S n b t 3) (hi S n b t 3) (P 3)
def sqH (S : Nat → Nat → Int) (n : Nat) (b t : Int) (P : Nat → Int) : Int :=
  far (lo S n b t 1) (hi S n b t 1) (P 1) * far (lo S n b t 1) (hi S n b t 1) (P 1) + far (lo S n b t 2) (hi S n b t 2) (P 2) * far (lo S n b t 2) (hi S n b t 2) (P 2) + far (lo S n b t 3) (hi S n b t 3) (P 3) * far (lo S n b t 3) (hi S n b t 3) (P 3)
def sqN (S : Nat → Nat → Int) (n : Nat) (t : Int) (P : Nat → Int) : Int :=
  (no S n t 1 - P 1) * (no S n t 1 - P 1) + (no S n t 2 - P 2) * (no S n t 2 - P 2) + (no S n t 3 - P 3) * (no S n t 3 - P 3)

/-- the facts on a tick's box: between -100200000 and 100200000, the nominal place in it -/
theorem ediv_range {a d l m : Int} (hd : 0 < d) (h1 : l * d ≤ a) (h2 : a ≤ m * d) : l ≤ a / d ∧ a / d ≤ m := by
  refine ⟨?_, ?_⟩
  · have := Int.ediv_le_ediv hd h1
    rwa [Int.mul_ediv_cancel _ (by omega)] at this
  · have := Int.ediv_le_ediv hd h2
    rwa [Int.mul_ediv_cancel _ (by omega)] at this

theorem Right.st {S : Nat → Nat → Int} {n : Nat} {b : Int} (h : Right S n b) {j : Nat} (hj : j < n) {c : Nat} (hc : 1 ≤ c ∧ c ≤ 3) : (-100000000 ≤ S j c ∧ S j c ≤ 100000000) ∧ (0 ≤ S j 4 ∧ S j 4 ≤ 100000) := by
  obtain ⟨_, h2, h3, h4, h5⟩ := h.2.2.2.1 j hj
  have : c = 1 ∨ c = 2 ∨ c = 3 := by omega
  rcases this with rfl | rfl | rfl
  · exact ⟨h2, h5⟩
  · exact ⟨h3, h5⟩
  · exact ⟨h4, h5⟩

theorem arc_facts {S : Nat → Nat → Int} {n : Nat} {b t : Int} (h : Right S n b) {j : Nat} (hj : j + 1 < n) (hi : In S j t) {c : Nat} (hc : 1 ≤ c ∧ c ≤ 3) :
    (-2000000000000 ≤ mid S j t c ∧ mid S j t c ≤ 2000000000000) ∧ (0 ≤ off S b j t ∧ off S b j t ≤ 4000000000) ∧ (-100200000 ≤ loJ S b j t c ∧ loJ S b j t c ≤ hiJ S b j t c ∧ hiJ S b j t c ≤ 100200000) ∧
      (-100000000 ≤ noJ S j t c ∧ noJ S j t c ≤ 100000000) ∧ loJ S b j t c ≤ noJ S j t c ∧ noJ S j t c ≤ hiJ S b j t c := by
  obtain ⟨s1, s2⟩ := h.spn hj
  obtain ⟨x1, e1⟩ := h.st (j := j) (by omega) hc
  obtain ⟨x2, e2⟩ := h.st (j := j + 1) hj hc
  obtain ⟨hb1, hb2⟩ := h.2.2.1
  obtain ⟨m1, m2⟩ := mid_range hi x1 x2
  obtain ⟨w1, w2⟩ := mid_range (c := 4) hi e1 e2
  have t1 := hi.1
  have t2 := hi.2.1
  obtain ⟨D, hD⟩ : ∃ D, D = Go.Proofs.Ytnaanninmkplfaa.spn S j := ⟨_, rfl⟩
  have bd := Int.mul_le_mul_of_nonneg_right hb2 (show 0 ≤ D by omega)
  have bd0 := Int.mul_nonneg hb1 (show 0 ≤ D by omega)
  have hD' : D = S (j + 1) 0 - S j 0 := hD
  rw [← hD] at s1 s2 m1 m2 w1 w2
  have o1 : off S b j t ≤ mid S j t 4 + b * D := by unfold off; rw [← hD]; split <;> omega
  have o2 : mid S j t 4 ≤ off S b j t := by unfold off; rw [← hD]; split <;> omega
  have lo1 : -100200000 * D ≤ mid S j t c - off S b j t := by omega
  have hi1 : -100200000 * D ≤ -(mid S j t c + off S b j t) := by omega
  refine ⟨by omega, by omega, ⟨?_, ?_, ?_⟩, ⟨?_, ?_⟩, ?_, ?_⟩
  · exact (ediv_range (m := 100200000) (by omega) (by rw [← hD]; exact lo1) (by rw [← hD]; omega)).1
  · unfold loJ hiJ
    rw [← hD]
    have a1 := Int.ediv_mul_le (mid S j t c - off S b j t) (b := D) (by omega)
    have a2 := Int.ediv_mul_le (-(mid S j t c + off S b j t)) (b := D) (by omega)
    rcases Int.lt_or_le (-(-(mid S j t c + off S b j t) / D)) ((mid S j t c - off S b j t) / D) with g | g
    · have := Int.mul_le_mul_of_nonneg_right (show 1 ≤ (mid S j t c - off S b j t) / D + -(mid S j t c + off S b j t) / D by omega) (show 0 ≤ D by omega)
      rw [Int.add_mul] at this
      omega
    · exact g
  · have := (ediv_range (a := -(mid S j t c + off S b j t)) (l := -100200000) (m := 100200000) (d := D) (by omega) hi1 (by omega)).1
    unfold hiJ
    rw [← hD]
    omega
  · exact (ediv_range (l := -100000000) (m := 100000001) (by rw [← hD]; omega) (by rw [← hD]; omega) (by rw [← hD]; omega)).1
  · unfold noJ
    rw [← hD]
    have := Int.ediv_lt_of_lt_mul (a := 2 * mid S j t c + D) (b := 100000001) (c := 2 * D) (by omega) (by omega)
    omega
  · unfold loJ noJ
    rw [← hD]
    have a1 := Int.ediv_mul_le (mid S j t c - off S b j t) (b := D) (by omega)
    refine (Int.le_ediv_iff_mul_le (by omega)).2 ?_
    have e : (mid S j t c - off S b j t) / D * (2 * D) = 2 * ((mid S j t c - off S b j t) / D * D) := by rw [Int.mul_left_comm]
    rw [e]
    omega
  · unfold hiJ noJ
    rw [← hD]
    have a2 := Int.ediv_mul_le (-(mid S j t c + off S b j t)) (b := D) (by omega)
    have a3 := Int.lt_ediv_add_one_mul_self (-(mid S j t c + off S b j t)) (b := D) (by omega)
    have : (2 * mid S j t c + D) / (2 * D) < -(-(mid S j t c + off S b j t) / D) + 1 := by
      refine Int.ediv_lt_of_lt_mul (by omega) ?_
      have e : (-(-(mid S j t c + off S b j t) / D) + 1) * (2 * D) = 2 * D - 2 * (-(mid S j t c + off S b j t) / D * D) := by
        rw [Int.add_mul, Int.neg_mul, Int.mul_left_comm]
        omega
      rw [e]
      omega
    omega

theorem box_facts {S : Nat → Nat → Int} {n : Nat} {b t : Int} (h : Right S n b) (ht : Has S n t) {c : Nat} (hc : 1 ≤ c ∧ c ≤ 3) :
    (-100200000 ≤ lo S n b t c ∧ lo S n b t c ≤ hi S n b t c ∧ hi S n b t c ≤ 100200000) ∧ (-100000000 ≤ no S n t c ∧ no S n t c ≤ 100000000) ∧ lo S n b t c ≤ no S n t c ∧ no S n t c ≤ hi S n b t c := by
  obtain ⟨a1, a2⟩ := h.arc ht
  exact (arc_facts h a2 a1 hc).2.2
end Go.Proofs.Ytnaanninmkplfaa
