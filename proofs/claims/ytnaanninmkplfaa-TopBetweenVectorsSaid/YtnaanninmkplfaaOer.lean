/- Plain mathematics of orbits: what is wrong with one; no program. -/
import Derived.Test.YtnaanninmkplfaaObs
namespace Go.Proofs.Ytnaanninmkplfaa
set_option maxRecDepth 100000

instance (S : Nat → Nat → Int) (i : Nat) : Decidable (StOk S i) := by unfold StOk; infer_instance
/-- the error of a state, among those before it -/
def ste (S : Nat → Nat → Int) (i : Nat) : Int := if StOk S i then (if 0 < i ∧ S i 0 ≤ S (i - 1) 0 then 9 else if 0 < i ∧ S 0 0 + 20000 < S i 0 then 8 else 0) else 2
/-- the first wrong state of the first k, or k -/
def fst (S : Nat → Nat → Int) : Nat → Nat
  | 0 => 0
  | k + 1 => if fst S k < k then fst S k else if ste S k = 0 then k + 1 else k
theorem fst_le (S : Nat → Nat → Int) : ∀ k, fst S k ≤ k
  | 0 => Nat.le_refl _
  | k + 1 => by rw [fst]; have := fst_le S k; split <;> (try split) <;> omega
theorem fst_ok {S : Nat → Nat → Int} : ∀ {k}, (∀ i, i < k → ste S i = 0) → fst S k = k
  | 0, _ => rfl
  | k + 1, h => by
    have := fst_ok (k := k) (fun i hi => h i (by omega))
    rw [fst, if_neg (by omega), if_pos (h k (by omega))]
theorem fst_stay {S : Nat → Nat → Int} {k : Nat} : ∀ {n}, k ≤ n → fst S k < k → fst S n = fst S k
  | 0, h, hk => by omega
  | n + 1, h, hk => by
    rcases Nat.lt_or_ge n k with g | g
    · obtain rfl : k = n + 1 := by omega
      rfl
    · have := fst_stay (n := n) g hk
      rw [fst, if_pos (by omega), this]
theorem fst_hit {S : Nat → Nat → Int} {k n : Nat} (h : ∀ i, i < k → ste S i = 0) (hk : k < n) (he : ste S k ≠ 0) : fst S n = k := by
  have h1 := fst_ok h
  have h2 : fst S (k + 1) = k := by rw [fst, if_neg (by omega), if_neg he]
  rw [fst_stay (k := k + 1) hk (by omega), h2]
theorem fst_bad {S : Nat → Nat → Int} : ∀ {n}, fst S n < n → ste S (fst S n) ≠ 0
  | 0, h => by omega
  | n + 1, h => by
    rw [fst] at h ⊢
    split
    · exact fst_bad ‹_›
    · rename_i h1
      rw [if_neg h1] at h
      split
      · rw [if_pos ‹_›] at h; omega
      · assumption
theorem fst_all {S : Nat → Nat → Int} : ∀ {n}, fst S n = n → ∀ i, i < n → ste S i = 0
  | 0, _, _, h => by omega
  | n + 1, h, i, hi => by
    have hl := fst_le S n
    rw [fst] at h
    split at h
    · omega
    · split at h
      · rcases Nat.lt_or_ge i n with g | g
        · exact fst_all (by omega) i g
        · obtain rfl : i = n := by omega
          assumption
      · omega

/-- the error of an orbit, with the number of the state -/
def oce (nm : Bool) (b : Int) (n : Nat) (S : Nat → Nat → Int) : Nat × Int :=
  if nm = false then (0, 4) else if ¬ (0 ≤ b ∧ b ≤ 100000) then (0, 2) else if n < 2 then (0, 10) else if 40 < n then (0, 8) else if fst S n < n then (fst S n, ste S (fst S n)) else (0, 0)

theorem ste_zero {S : Nat → Nat → Int} {i : Nat} (h : ste S i = 0) : StOk S i ∧ (0 < i → S (i - 1) 0 < S i 0 ∧ S i 0 ≤ S 0 0 + 20000) := by
  unfold ste at h
  split at h
  · refine ⟨‹_›, fun hi => ?_⟩
    split at h
    · cases h
    · split at h
      · cases h
      · omega
  · cases h
theorem oce_zero {nm : Bool} {b : Int} {n : Nat} {S : Nat → Nat → Int} (h : (oce nm b n S).2 = 0) : nm = true ∧ Right S n b := by
  unfold oce at h
  split at h
  · cases h
  split at h
  · cases h
  split at h
  · cases h
  split at h
  · cases h
  split at h
  · exact absurd h (fst_bad ‹_›)
  · rename_i h1 h2 h3 h4 h5
    have ha := fst_all (S := S) (n := n) (by have := fst_le S n; omega)
    have hn : nm = true := by simpa using h1
    refine ⟨hn, by omega, by omega, by omega, fun i hi => (ste_zero (ha i hi)).1, fun i hi => ?_, fun i hi => ?_⟩
    · have := (ste_zero (ha (i + 1) hi)).2 (by omega)
      exact this.1
    · rcases Nat.eq_zero_or_pos i with rfl | g
      · omega
      · exact ((ste_zero (ha i hi)).2 g).2
theorem oce_fst {nm : Bool} {b : Int} {n : Nat} {S : Nat → Nat → Int} (h : (oce nm b n S).2 = 0) : (oce nm b n S).1 = 0 := by
  unfold oce at h ⊢
  split
  · rfl
  split
  · rfl
  split
  · rfl
  split
  · rfl
  split
  · rename_i h1 h2 h3 h4 h5
    rw [if_neg h1, if_neg h2, if_neg h3, if_neg h4, if_pos h5] at h
    exact absurd h (fst_bad h5)
  · rfl
theorem oce_right {b : Int} {n : Nat} {S : Nat → Nat → Int} (h : Right S n b) : oce true b n S = (0, 0) := by
  obtain ⟨h1, h2, h3, h4, h5, h6⟩ := h
  unfold oce
  rw [if_neg (by simp), if_neg (by simpa using h3), if_neg (by omega), if_neg (by omega), if_neg]
  have : fst S n = n := fst_ok fun i hi => by
    unfold ste
    rw [if_pos (h4 i hi), if_neg, if_neg]
    · rintro ⟨a, c⟩
      have := h6 i hi
      omega
    · rintro ⟨a, c⟩
      have := h5 (i - 1) (by omega)
      rw [show i - 1 + 1 = i by omega] at this
      omega
  omega
theorem ste_cases (S : Nat → Nat → Int) (i : Nat) : ste S i = 0 ∨ ste S i = 2 ∨ ste S i = 8 ∨ ste S i = 9 := by
  unfold ste
  split
  · split
    · simp
    · split <;> simp
  · simp
end Go.Proofs.Ytnaanninmkplfaa
