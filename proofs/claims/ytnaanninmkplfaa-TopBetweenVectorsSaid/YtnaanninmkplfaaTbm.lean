/- Plain mathematics: states that are wrong by no more than told have nominal places in the boxes, and more so off the states. -/
import Derived.Test.YtnaanninmkplfaaObs
namespace Go.Proofs.Ytnaanninmkplfaa
set_option maxRecDepth 100000

/-- states of which the first k are moved by e, and have no error -/
def TS (S e : Nat → Nat → Int) (k i j : Nat) : Int := if i < k then (if j = 0 then S i 0 else if j = 4 then 0 else S i j + e i j) else S i j
theorem TS_zero (S e : Nat → Nat → Int) : TS S e 0 = S := by
  funext i j
  exact if_neg (by omega)
theorem TS_tick (S e : Nat → Nat → Int) (k i : Nat) : TS S e k i 0 = S i 0 := by
  unfold TS
  split <;> rfl
theorem TS_past {S e : Nat → Nat → Int} {k i j : Nat} (h : ¬ i < k) : TS S e k i j = S i j := if_neg h
theorem TS_err {S e : Nat → Nat → Int} {k i : Nat} (h : i < k) : TS S e k i 4 = 0 := by
  unfold TS
  rw [if_pos h, if_neg (by omega), if_pos rfl]
theorem TS_at {S e : Nat → Nat → Int} {k i j : Nat} (h : i < k) (h1 : 1 ≤ j) (h3 : j ≤ 3) : TS S e k i j = S i j + e i j := by
  unfold TS
  rw [if_pos h, if_neg (by omega), if_neg (by omega)]
theorem arcOf_TS (S e : Nat → Nat → Int) (k : Nat) (t : Int) : ∀ m, arcOf (TS S e k) t m = arcOf S t m
  | 0 => rfl
  | m + 1 => by rw [arcOf, arcOf, arcOf_TS S e k t m, TS_tick]
theorem spn_TS (S e : Nat → Nat → Int) (k j : Nat) : spn (TS S e k) j = spn S j := by unfold spn; rw [TS_tick, TS_tick]

theorem mid_TS {S e : Nat → Nat → Int} {k j : Nat} {t : Int} {c : Nat} (hI : In S j t) (hj : j + 1 < k) (h1 : 1 ≤ c) (h3 : c ≤ 3) (he : ∀ i, i < k → ∀ c, 1 ≤ c → c ≤ 3 → -S i 4 ≤ e i c ∧ e i c ≤ S i 4) :
    mid S j t c - mid S j t 4 ≤ mid (TS S e k) j t c ∧ mid (TS S e k) j t c ≤ mid S j t c + mid S j t 4 := by
  rw [← mid_other, ← mid_other S j t 4, ← mid_other (TS S e k) j t c, spn_TS, TS_tick, TS_at (by omega) h1 h3, TS_at hj h1 h3]
  obtain ⟨g1, g2, g3⟩ := hI
  have p : 0 ≤ t - S j 0 := by omega
  have q : 0 ≤ Go.Proofs.Ytnaanninmkplfaa.spn S j - (t - S j 0) := by unfold Go.Proofs.Ytnaanninmkplfaa.spn; omega
  generalize Go.Proofs.Ytnaanninmkplfaa.spn S j - (t - S j 0) = u at *
  generalize t - S j 0 = v at *
  have a := he j (by omega) c h1 h3
  have b := he (j + 1) hj c h1 h3
  have a1 := Int.mul_le_mul_of_nonneg_right a.1 q
  have a2 := Int.mul_le_mul_of_nonneg_right a.2 q
  have b1 := Int.mul_le_mul_of_nonneg_right b.1 p
  have b2 := Int.mul_le_mul_of_nonneg_right b.2 p
  rw [Int.neg_mul] at a1 b1
  rw [Int.add_mul, Int.add_mul]
  omega

theorem truth_arc {S e : Nat → Nat → Int} {k j : Nat} {t : Int} {c : Nat} (hI : In S j t) (hj : j + 1 < k) (h1 : 1 ≤ c) (h3 : c ≤ 3) (he : ∀ i, i < k → ∀ c, 1 ≤ c → c ≤ 3 → -S i 4 ≤ e i c ∧ e i c ≤ S i 4) :
    (mid S j t c - mid S j t 4) / spn S j ≤ noJ (TS S e k) j t c ∧ noJ (TS S e k) j t c ≤ -(-(mid S j t c + mid S j t 4) / spn S j) := by
  obtain ⟨m1, m2⟩ := mid_TS hI hj h1 h3 he
  unfold noJ
  rw [spn_TS]
  have hD : 0 < Go.Proofs.Ytnaanninmkplfaa.spn S j := by unfold Go.Proofs.Ytnaanninmkplfaa.spn; have := hI.2.2; omega
  generalize Go.Proofs.Ytnaanninmkplfaa.spn S j = D at *
  generalize mid (TS S e k) j t c = M' at *
  generalize mid S j t c = M at *
  generalize mid S j t 4 = E at *
  refine ⟨?_, ?_⟩
  · have a1 := Int.ediv_mul_le (M - E) (b := D) (by omega)
    refine (Int.le_ediv_iff_mul_le (by omega)).2 ?_
    have e : (M - E) / D * (2 * D) = 2 * ((M - E) / D * D) := by rw [Int.mul_left_comm]
    rw [e]
    omega
  · have a3 := Int.lt_ediv_add_one_mul_self (-(M + E)) (b := D) (by omega)
    have a2 := Int.ediv_mul_le (-(M + E)) (b := D) (by omega)
    have : (2 * M' + D) / (2 * D) < -(-(M + E) / D) + 1 := by
      refine Int.ediv_lt_of_lt_mul (by omega) ?_
      have e : (-(-(M + E) / D) + 1) * (2 * D) = 2 * D - 2 * (-(M + E) / D * D) := by
        rw [Int.add_mul, Int.neg_mul, Int.mul_left_comm]
        omega
      rw [e]
      omega
    omega

/-- the nominal place of the moved states, in the box; off the states, with the bend to spare -/
theorem truth_in {S e : Nat → Nat → Int} {n : Nat} {b t : Int} {c : Nat} (hR : Right S n b) (hT : Has S n t) (h1 : 1 ≤ c) (h3 : c ≤ 3) (he : ∀ i, i < n → ∀ c, 1 ≤ c → c ≤ 3 → -S i 4 ≤ e i c ∧ e i c ≤ S i 4) :
    (lo S n b t c ≤ no (TS S e n) n t c ∧ no (TS S e n) n t c ≤ hi S n b t c) ∧ ((∀ i, i < n → S i 0 ≠ t) → lo S n b t c + b ≤ no (TS S e n) n t c ∧ no (TS S e n) n t c ≤ hi S n b t c - b) := by
  obtain ⟨hI, hj⟩ := hR.arc hT
  have key := truth_arc (c := c) hI hj h1 h3 he
  unfold lo hi no
  rw [arcOf_TS]
  unfold loJ hiJ
  obtain ⟨s1, s2⟩ := hR.spn hj
  have hb := hR.2.2.1
  have hbd : 0 ≤ b * Go.Proofs.Ytnaanninmkplfaa.spn S (arcOf S t (n - 2)) := Int.mul_nonneg hb.1 (by omega)
  have hoff : off S b (arcOf S t (n - 2)) t = mid S (arcOf S t (n - 2)) t 4 ∨ off S b (arcOf S t (n - 2)) t = mid S (arcOf S t (n - 2)) t 4 + b * Go.Proofs.Ytnaanninmkplfaa.spn S (arcOf S t (n - 2)) := by
    unfold off
    split
    · exact .inl rfl
    · exact .inr rfl
  have hoff2 : (∀ i, i < n → S i 0 ≠ t) → off S b (arcOf S t (n - 2)) t = mid S (arcOf S t (n - 2)) t 4 + b * Go.Proofs.Ytnaanninmkplfaa.spn S (arcOf S t (n - 2)) := fun h => by
    unfold off
    rw [if_neg]
    rintro (g | g)
    · exact h _ (by omega) g.symm
    · exact h _ hj g.symm
  generalize arcOf S t (n - 2) = j at *
  generalize off S b j t = o at *
  generalize mid S j t c = M at *
  generalize mid S j t 4 = E at *
  generalize noJ (TS S e n) j t c = N at *
  generalize Go.Proofs.Ytnaanninmkplfaa.spn S j = D at *
  have f1 : (M - (E + b * D)) / D = (M - E) / D - b := by
    rw [show M - (E + b * D) = (M - E) + -b * D by rw [Int.neg_mul]; omega, Int.add_mul_ediv_right _ _ (by omega)]
    omega
  have f2 : -(M + (E + b * D)) / D = -(M + E) / D - b := by
    rw [show -(M + (E + b * D)) = -(M + E) + -b * D by rw [Int.neg_mul]; omega, Int.add_mul_ediv_right _ _ (by omega)]
    omega
  refine ⟨?_, fun h => ?_⟩
  · rcases hoff with q | q
    · rw [q]; exact key
    · rw [q, f1, f2]; omega
  · rw [hoff2 h, f1, f2]
    omega

/-- a place in the box has its square between the squares -/
theorem sq_in {S : Nat → Nat → Int} {n : Nat} {b t x y z : Int} (hx : lo S n b t 1 ≤ x ∧ x ≤ hi S n b t 1) (hy : lo S n b t 2 ≤ y ∧ y ≤ hi S n b t 2) (hz : lo S n b t 3 ≤ z ∧ z ≤ hi S n b t 3) (P : Nat → Int) (hP : ∀ i, P i = 0) :
    sqL S n b t P ≤ x * x + y * y + z * z ∧ x * x + y * y + z * z ≤ sqH S n b t P := by
  have l1 := near_le (p := P 1) hx.1 hx.2
  have l2 := near_le (p := P 2) hy.1 hy.2
  have l3 := near_le (p := P 3) hz.1 hz.2
  have f1 := le_far (p := P 1) hx.1 hx.2
  have f2 := le_far (p := P 2) hy.1 hy.2
  have f3 := le_far (p := P 3) hz.1 hz.2
  unfold sqL sqH
  rw [hP 1] at *
  rw [hP 2] at *
  rw [hP 3] at *
  simp only [Int.sub_zero] at *
  exact ⟨by omega, by omega⟩
end Go.Proofs.Ytnaanninmkplfaa
