/- Plain mathematics: greater errors and a greater bend make wider boxes. -/
import Derived.Test.YtjfgfkahgjjcoaaObs
namespace Go.Proofs.Ytjfgfkahgjjcoaa
set_option maxRecDepth 100000

/-- states of which the first k have greater errors -/
def SK (S : Nat → Nat → Int) (E : Int) (k : Nat) (i j : Nat) : Int := if j = 4 ∧ i < k then S i j + E else S i j
theorem SK_other {S : Nat → Nat → Int} {E : Int} {k i j : Nat} (h : j ≠ 4) : SK S E k i j = S i j := if_neg fun e => h e.1
theorem SK_four {S : Nat → Nat → Int} {E : Int} {k i : Nat} (h : i < k) : SK S E k i 4 = S i 4 + E := if_pos ⟨rfl, h⟩
theorem SK_zero (S : Nat → Nat → Int) (E : Int) : SK S E 0 = S := by
  funext i j
  exact if_neg fun e => by omega
theorem SK_past {S : Nat → Nat → Int} {E : Int} {k i j : Nat} (h : ¬ i < k) : SK S E k i j = S i j := if_neg fun e => h e.2

theorem arcOf_SK (S : Nat → Nat → Int) (E : Int) (k : Nat) (t : Int) : ∀ m, arcOf (SK S E k) t m = arcOf S t m
  | 0 => rfl
  | m + 1 => by
    rw [arcOf, arcOf, arcOf_SK S E k t m, SK_other (by omega)]
theorem spn_SK (S : Nat → Nat → Int) (E : Int) (k j : Nat) : spn (SK S E k) j = spn S j := by unfold spn; rw [SK_other (by omega), SK_other (by omega)]
theorem mid_SK (S : Nat → Nat → Int) (E : Int) (k j : Nat) (t : Int) {c : Nat} (h : c ≠ 4) : mid (SK S E k) j t c = mid S j t c := by
  unfold mid
  rw [spn_SK, SK_other h, SK_other h, SK_other (by omega)]
theorem mid4_SK (S : Nat → Nat → Int) (E : Int) (k j : Nat) (t : Int) (h : j + 1 < k) : mid (SK S E k) j t 4 = mid S j t 4 + E * spn S j := by
  unfold mid
  rw [spn_SK, SK_four h, SK_four (by omega), SK_other (by omega), show S (j + 1) 4 + E - (S j 4 + E) = S (j + 1) 4 - S j 4 by omega, Int.add_mul]
  omega

theorem off_SK {S : Nat → Nat → Int} {E b B t : Int} {k j : Nat} (h : j + 1 < k) (hE : 0 ≤ E) (hB : 0 ≤ B) (hs : 0 < spn S j) : off S b j t ≤ off (SK S E k) (b + B) j t := by
  have h1 := Int.mul_nonneg hE (Int.le_of_lt hs)
  have h2 := Int.mul_nonneg hB (Int.le_of_lt hs)
  unfold off
  rw [SK_other (by omega : (0 : Nat) ≠ 4), SK_other (by omega : (0 : Nat) ≠ 4), mid4_SK S E k j t h, spn_SK, Int.add_mul]
  split <;> omega

theorem wider {S : Nat → Nat → Int} {n : Nat} {b B E t : Int} (hR : Right S n b) (hT : Has S n t) (hE : 0 ≤ E) (hB : 0 ≤ B) {c : Nat} (hc : c ≠ 4) :
    lo (SK S E n) n (b + B) t c ≤ lo S n b t c ∧ hi S n b t c ≤ hi (SK S E n) n (b + B) t c ∧ no (SK S E n) n t c = no S n t c := by
  obtain ⟨ha, hj⟩ := hR.arc hT
  obtain ⟨h1, _⟩ := hR.spn hj
  obtain ⟨d, hd⟩ : ∃ d, d = Go.Proofs.Ytjfgfkahgjjcoaa.spn S (arcOf S t (n - 2)) := ⟨_, rfl⟩
  have h0 : 0 < d := by omega
  have ho := off_SK (S := S) (k := n) (j := arcOf S t (n - 2)) (E := E) (b := b) (B := B) (t := t) hj hE hB (by omega)
  unfold lo hi no
  rw [arcOf_SK]
  unfold loJ hiJ noJ
  rw [spn_SK, mid_SK S E n _ t hc, ← hd]
  obtain ⟨m, hm⟩ : ∃ m, m = mid S (arcOf S t (n - 2)) t c := ⟨_, rfl⟩
  obtain ⟨o1, ho1⟩ : ∃ m, m = off S b (arcOf S t (n - 2)) t := ⟨_, rfl⟩
  obtain ⟨o2, ho2⟩ : ∃ m, m = off (SK S E n) (b + B) (arcOf S t (n - 2)) t := ⟨_, rfl⟩
  rw [← ho1, ← ho2] at ho
  rw [← hm, ← ho1, ← ho2]
  have e1 : (m - o2) / d ≤ (m - o1) / d := Int.ediv_le_ediv h0 (by omega)
  have e2 : -(m + o2) / d ≤ -(m + o1) / d := Int.ediv_le_ediv h0 (by omega)
  exact ⟨e1, by omega, rfl⟩
end Go.Proofs.Ytjfgfkahgjjcoaa
