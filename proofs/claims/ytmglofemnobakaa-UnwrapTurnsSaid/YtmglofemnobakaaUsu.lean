/- Contract: by how much more flow ends at each node than begins there. -/
import Derived.Test.YtmglofemnobakaaUmm
import Derived.Test.YtmglofemnobakaaSyk
namespace Go.Proofs.Ytmglofemnobakaa
open Go.RowKit
set_option maxHeartbeats 4000000
set_option maxRecDepth 100000
set_option linter.unusedSimpArgs false
set_option linter.unusedVariables false

/-- what the first k edges bring to each node -/
def sur (S : Nat → Nat → Int) (f : Nat → Int) : Nat → Int → Int
  | 0 => fun _ => 0
  | k + 1 => fun j : Int => if j = flat4 S ((k : Int) * 4) then ((fun j : Int => if j = flat4 S ((k : Int) * 4 + 1) then (sur S f k (flat4 S ((k : Int) * 4 + 1)) + flat1 f (k : Int)) else sur S f k j) (flat4 S ((k : Int) * 4)) - flat1 f (k : Int)) else (fun j : Int => if j = flat4 S ((k : Int) * 4 + 1) then (sur S f k (flat4 S ((k : Int) * 4 + 1)) + flat1 f (k : Int)) else sur S f k j) j
theorem sur_bound {S : Nat → Nat → Int} {f : Nat → Int} {n : Nat} (hf : ∀ i, i < n → -1000 ≤ f i ∧ f i ≤ 1000) : ∀ k, k ≤ n → ∀ j, -(k * 2000 : Int) ≤ sur S f k j ∧ sur S f k j ≤ k * 2000
  | 0, _, j => by simp [sur]
  | k + 1, hk, j => by
    have ih := sur_bound (S := S) hf k (by omega)
    have h1 := hf k (by omega)
    have h2 := ih (flat4 S ((k : Int) * 4 + 1))
    have h3 := ih (flat4 S ((k : Int) * 4))
    have h4 := ih j
    have e : flat1 f (k : Int) = f k := rfl
    simp only [sur, e]
    push_cast
    split <;> split <;> (constructor <;> omega)


def sur1_a : RA := { tmps := [[(.agg [(.si .i64 (.var 0)), (.fsl 0 4 (.lit (0)) (.var 1))]), (.fsl 1 1 (.lit (0)) (.var 2)), (.ptr 0 0), (.pl (.tuple #[])), (.pl (.slice none 0 0)), (.osl 1 1 (.var 0)), .unk, .unk], [(.ptr 0 0), (.si .i64 (.var 0)), (.osl 1 1 (.var 0)), (.ptr 0 1), (.fsl 0 4 (.lit (0)) (.var 1)), (.si .i64 (.var 1)), (.si .i64 (.var 3)), .unk], [.unk, .unk, .unk, .unk, .unk, .unk, .unk, .unk], [.unk, .unk, .unk, .unk, .unk, .unk, .unk, .unk], [.unk, .unk, .unk, .unk, .unk, .unk, .unk, .unk], [.unk, .unk, (.pl (.tuple #[])), (.pl (.tuple #[])), (.pl (.tuple #[])), (.pl (.tuple #[])), (.pl (.tuple #[])), (.pl (.tuple #[]))]], sz := 43, dfs := [] }
def sur1_h : RH := { bl := [some (.row (.avar 50) (.var 0) 3 1), some (.cells [(.si .i64 (.var 0)), (.fsl 0 4 (.lit (0)) (.var 1))] 24 false)], n := 2, base := 0, ch := [] }
theorem surplusOf_any (N : Int) (A B : Option Addr) (n c m d : Nat) (S : Nat → Nat → Int) (f : Nat → Int) (W : World) (hS : RowR W A (n * 4) (flat4 S)) (hT : RowR W B m (flat1 f)) (hc : n ≤ c) (hd : m ≤ d) (hN : 0 ≤ N ∧ N ≤ 200) (hn : n ≤ 600) (hm : m = n) (hR : ∀ i, i < n → ec N S i = 0) (hf : ∀ i, i < n → -1000 ≤ f i ∧ f i ≤ 1000) :
    Calls Try.prog 37 #[.agg #[.int .i64 N, .slice A n c], .slice B m d] W fun e w' => (∃ b L k arr, e = .returned (.slice (some ⟨b, 0, none⟩) L k) ∧ (L : Int) = N ∧ L ≤ k ∧ W.heap.size ≤ b ∧ w'.heap[b]? = some (.cells arr 3 (0, 0)) ∧ arr.size = k * 1 ∧ ∀ j : Nat, j < L * 1 → arr[j]? = some (.int .i64 (sur S f n (j : Int)))) ∧ Below W.heap.size W w' := by
  skip
  have hrows : RowsIn W [⟨A, n * 4, flat4 S⟩, ⟨B, m, flat1 f⟩] := ⟨hS, hT, trivial⟩
  letI : Rho := rhoL W.heap.size ([N, (n : Int), (m : Int)]) [⟨A, n * 4, flat4 S⟩, ⟨B, m, flat1 f⟩] [] []
  have hfar : Far W := far_list hrows
  have hx : RepL (fun _ => False) (fun _ => 0) (fun _ => 0) [.agg [.si .i64 (.var 0), .fsl 0 4 (.lit 0) (.var 1)], .fsl 1 1 (.lit 0) (.var 2)] (#[.agg #[.int .i64 N, .slice A n c], .slice B m d] : Array Value).toList := by
    refine repL_cons'.2 ⟨?_, repL_one (by simp only [Rep]; exact fsl_row 1 1 hrows rfl (by simp [rowAt]) (by omega) rfl rfl hd)⟩
    simp only [Rep]
    exact ⟨_, rfl, repL_cons'.2 ⟨by simp only [Rep]; rfl, repL_one (by simp only [Rep]; exact fsl_row 0 4 hrows rfl rfl (by omega) rfl rfl hc)⟩⟩
  have f1 : (0 ≤ N) := by
    first | omega | (have hq := ec_right (hR k (by omega)); omega) | (have hq := ec_right (hR k (by omega)); have h1 : -1000 ≤ flat1 f (k : Int) ∧ flat1 f (k : Int) ≤ 1000 := hf k (by omega); have h2 := sur_bound (S := S) hf k (by omega) (flat4 S ((k : Int) * 4 + 1)); have h3 := sur_bound (S := S) hf k (by omega) (flat4 S ((k : Int) * 4)); rw [← hFe] at h2 h3; first | (constructor <;> omega) | (dsimp only; split <;> (constructor <;> omega)))
  have f2 : (N ≤ 100000) := by
    first | omega | (have hq := ec_right (hR k (by omega)); omega) | (have hq := ec_right (hR k (by omega)); have h1 : -1000 ≤ flat1 f (k : Int) ∧ flat1 f (k : Int) ≤ 1000 := hf k (by omega); have h2 := sur_bound (S := S) hf k (by omega) (flat4 S ((k : Int) * 4 + 1)); have h3 := sur_bound (S := S) hf k (by omega) (flat4 S ((k : Int) * 4)); rw [← hFe] at h2 h3; first | (constructor <;> omega) | (dsimp only; split <;> (constructor <;> omega)))
  have hF : Facts [((.le (.lit (0)) (.var 0)), true), ((.le (.var 0) (.lit (100000))), true)] := ⟨f_le f1 rfl rfl, f_le f2 rfl rfl, trivial⟩
  refine call_start (P := Try.prog) (K := noK) (fl := []) (by kernel_rfl) (by kernel_rfl) hx hfar noK_ok (facD_ok hF) (enter_run (B := 3) (a' := sur1_a) (h' := sur1_h) (ρ' := rhoL W.heap.size ([N, (n : Int), (m : Int)] ++ [0]) [⟨A, n * 4, flat4 S⟩, ⟨B, m, flat1 f⟩] [] [(fun _ : Int => 0)]) (ds := [.int (.lit (0)) (.var 3), .row .azero (.avar 50)]) (c := (loopIn (bodyC Try.prog 37) 0)) (by kernel_rfl) (by kernel_rfl) rfl (agree_list (l := [N, (n : Int), (m : Int)]) (x := []) (Nat.le_refl _) rfl) ⟨rfl, rfl, trivial⟩ fun A1 W1 hs1 => ?_)
  refine loop_ok (Inv := fun ρ => ∃ (k : Nat) (F : Int → Int), (k ≤ n ∧ F = sur S f k) ∧ ρ = rhoL W.heap.size ([N, (n : Int), (m : Int)] ++ [(k : Int)]) [⟨A, n * 4, flat4 S⟩, ⟨B, m, flat1 f⟩] [] [F]) (μ := fun ρ => n - (@Rho.i ρ 3).toNat) (a := sur1_a) (h := sur1_h) ?_ _ ⟨0, (fun _ : Int => 0), ?_, rfl⟩ A1 W1 hs1
  rotate_left
  · exact ⟨Nat.zero_le _, rfl⟩
  first | clear hs1 hx | clear hs1
  rintro ρ ⟨k, F, hinv, rfl⟩ A2 W2 hs2
  letI : Rho := rhoL W.heap.size ([N, (n : Int), (m : Int)] ++ [(k : Int)]) [⟨A, n * 4, flat4 S⟩, ⟨B, m, flat1 f⟩] [] [F]
  obtain ⟨hk, hFe⟩ := hinv
  by_cases f1 : (n : Int) ≤ (k : Int)
  · skip
    have hF : Facts [((.le (.var 1) (.var 3)), true)] := ⟨f_le f1 rfl rfl, trivial⟩
    refine out_run (P := Try.prog) (K := noK) (fl := []) (by kernel_rfl) noK_ok (facD_ok hF) hs2 (fin_gen (r := (.osl 1 1 (.var 0))) (h' := { bl := [some (.row (.avar 50) (.var 0) 3 1), some (.cells [(.si .i64 (.var 0)), (.fsl 0 4 (.lit (0)) (.var 1))] 24 false)], n := 2, base := 0, ch := [] }) (by kernel_rfl) fun V m g v W' hv hw hbel => ?_)
    have hkn : k = n := by omega
    subst hkn
    obtain ⟨b, L, kk, cc, rfl, e1, e2, e3, e4, e5, e6⟩ := osl_block hv hw rfl
    refine ⟨⟨b, L, kk, cc, rfl, e1.symm, e2, e3, e4, e5, fun j hj => ?_⟩, hbel⟩
    rw [← hFe]
    exact e6 j hj
  · skip
    have f2 : (0 ≤ (k : Int)) := by
      first | omega | (have hq := ec_right (hR k (by omega)); omega) | (have hq := ec_right (hR k (by omega)); have h1 : -1000 ≤ flat1 f (k : Int) ∧ flat1 f (k : Int) ≤ 1000 := hf k (by omega); have h2 := sur_bound (S := S) hf k (by omega) (flat4 S ((k : Int) * 4 + 1)); have h3 := sur_bound (S := S) hf k (by omega) (flat4 S ((k : Int) * 4)); rw [← hFe] at h2 h3; first | (constructor <;> omega) | (dsimp only; split <;> (constructor <;> omega)))
    have f3 : (0 ≤ (flat4 S (((k : Int) * 4) + 1))) := by
      first | omega | (have hq := ec_right (hR k (by omega)); omega) | (have hq := ec_right (hR k (by omega)); have h1 : -1000 ≤ flat1 f (k : Int) ∧ flat1 f (k : Int) ≤ 1000 := hf k (by omega); have h2 := sur_bound (S := S) hf k (by omega) (flat4 S ((k : Int) * 4 + 1)); have h3 := sur_bound (S := S) hf k (by omega) (flat4 S ((k : Int) * 4)); rw [← hFe] at h2 h3; first | (constructor <;> omega) | (dsimp only; split <;> (constructor <;> omega)))
    have f4 : ¬ (N ≤ (flat4 S (((k : Int) * 4) + 1))) := by
      first | omega | (have hq := ec_right (hR k (by omega)); omega) | (have hq := ec_right (hR k (by omega)); have h1 : -1000 ≤ flat1 f (k : Int) ∧ flat1 f (k : Int) ≤ 1000 := hf k (by omega); have h2 := sur_bound (S := S) hf k (by omega) (flat4 S ((k : Int) * 4 + 1)); have h3 := sur_bound (S := S) hf k (by omega) (flat4 S ((k : Int) * 4)); rw [← hFe] at h2 h3; first | (constructor <;> omega) | (dsimp only; split <;> (constructor <;> omega)))
    have f5 : ¬ ((m : Int) ≤ (k : Int)) := by
      first | omega | (have hq := ec_right (hR k (by omega)); omega) | (have hq := ec_right (hR k (by omega)); have h1 : -1000 ≤ flat1 f (k : Int) ∧ flat1 f (k : Int) ≤ 1000 := hf k (by omega); have h2 := sur_bound (S := S) hf k (by omega) (flat4 S ((k : Int) * 4 + 1)); have h3 := sur_bound (S := S) hf k (by omega) (flat4 S ((k : Int) * 4)); rw [← hFe] at h2 h3; first | (constructor <;> omega) | (dsimp only; split <;> (constructor <;> omega)))
    have f6 : (-9223372036854775808 : Int) ≤ ((F (flat4 S (((k : Int) * 4) + 1))) + (flat1 f (k : Int))) ∧ ((F (flat4 S (((k : Int) * 4) + 1))) + (flat1 f (k : Int))) ≤ 9223372036854775807 := by
      first | omega | (have hq := ec_right (hR k (by omega)); omega) | (have hq := ec_right (hR k (by omega)); have h1 : -1000 ≤ flat1 f (k : Int) ∧ flat1 f (k : Int) ≤ 1000 := hf k (by omega); have h2 := sur_bound (S := S) hf k (by omega) (flat4 S ((k : Int) * 4 + 1)); have h3 := sur_bound (S := S) hf k (by omega) (flat4 S ((k : Int) * 4)); rw [← hFe] at h2 h3; first | (constructor <;> omega) | (dsimp only; split <;> (constructor <;> omega)))
    have f7 : (0 ≤ (flat4 S ((k : Int) * 4))) := by
      first | omega | (have hq := ec_right (hR k (by omega)); omega) | (have hq := ec_right (hR k (by omega)); have h1 : -1000 ≤ flat1 f (k : Int) ∧ flat1 f (k : Int) ≤ 1000 := hf k (by omega); have h2 := sur_bound (S := S) hf k (by omega) (flat4 S ((k : Int) * 4 + 1)); have h3 := sur_bound (S := S) hf k (by omega) (flat4 S ((k : Int) * 4)); rw [← hFe] at h2 h3; first | (constructor <;> omega) | (dsimp only; split <;> (constructor <;> omega)))
    have f8 : ¬ (N ≤ (flat4 S ((k : Int) * 4))) := by
      first | omega | (have hq := ec_right (hR k (by omega)); omega) | (have hq := ec_right (hR k (by omega)); have h1 : -1000 ≤ flat1 f (k : Int) ∧ flat1 f (k : Int) ≤ 1000 := hf k (by omega); have h2 := sur_bound (S := S) hf k (by omega) (flat4 S ((k : Int) * 4 + 1)); have h3 := sur_bound (S := S) hf k (by omega) (flat4 S ((k : Int) * 4)); rw [← hFe] at h2 h3; first | (constructor <;> omega) | (dsimp only; split <;> (constructor <;> omega)))
    have f9 : (-9223372036854775808 : Int) ≤ (((fun j : Int => if j = (flat4 S (((k : Int) * 4) + 1)) then ((F (flat4 S (((k : Int) * 4) + 1))) + (flat1 f (k : Int))) else F j) (flat4 S ((k : Int) * 4))) - (flat1 f (k : Int))) ∧ (((fun j : Int => if j = (flat4 S (((k : Int) * 4) + 1)) then ((F (flat4 S (((k : Int) * 4) + 1))) + (flat1 f (k : Int))) else F j) (flat4 S ((k : Int) * 4))) - (flat1 f (k : Int))) ≤ 9223372036854775807 := by
      first | omega | (have hq := ec_right (hR k (by omega)); omega) | (have hq := ec_right (hR k (by omega)); have h1 : -1000 ≤ flat1 f (k : Int) ∧ flat1 f (k : Int) ≤ 1000 := hf k (by omega); have h2 := sur_bound (S := S) hf k (by omega) (flat4 S ((k : Int) * 4 + 1)); have h3 := sur_bound (S := S) hf k (by omega) (flat4 S ((k : Int) * 4)); rw [← hFe] at h2 h3; first | (constructor <;> omega) | (dsimp only; split <;> (constructor <;> omega)))
    have f10 : (-9223372036854775808 : Int) ≤ ((k : Int) + 1) ∧ ((k : Int) + 1) ≤ 9223372036854775807 := by
      first | omega | (have hq := ec_right (hR k (by omega)); omega) | (have hq := ec_right (hR k (by omega)); have h1 : -1000 ≤ flat1 f (k : Int) ∧ flat1 f (k : Int) ≤ 1000 := hf k (by omega); have h2 := sur_bound (S := S) hf k (by omega) (flat4 S ((k : Int) * 4 + 1)); have h3 := sur_bound (S := S) hf k (by omega) (flat4 S ((k : Int) * 4)); rw [← hFe] at h2 h3; first | (constructor <;> omega) | (dsimp only; split <;> (constructor <;> omega)))
    have hF : Facts [((.le (.var 1) (.var 3)), false), ((.le (.lit (0)) (.var 3)), true), ((.le (.lit (0)) (.sel (.avar 0) (.add (.mul (.var 3) (.lit (4))) (.lit (1))))), true), ((.le (.var 0) (.sel (.avar 0) (.add (.mul (.var 3) (.lit (4))) (.lit (1))))), false), ((.le (.var 2) (.var 3)), false), ((.inr .i64 (.add (.sel (.avar 50) (.sel (.avar 0) (.add (.mul (.var 3) (.lit (4))) (.lit (1))))) (.sel (.avar 1) (.var 3)))), true), ((.le (.lit (0)) (.sel (.avar 0) (.mul (.var 3) (.lit (4))))), true), ((.le (.var 0) (.sel (.avar 0) (.mul (.var 3) (.lit (4))))), false), ((.inr .i64 (.sub (.sel (.upd (.avar 50) (.sel (.avar 0) (.add (.mul (.var 3) (.lit (4))) (.lit (1)))) (.add (.sel (.avar 50) (.sel (.avar 0) (.add (.mul (.var 3) (.lit (4))) (.lit (1))))) (.sel (.avar 1) (.var 3)))) (.sel (.avar 0) (.mul (.var 3) (.lit (4))))) (.sel (.avar 1) (.var 3)))), true), ((.inr .i64 (.add (.var 3) (.lit (1)))), true)] := ⟨f_nle f1 rfl rfl, f_le f2 rfl rfl, f_le f3 rfl rfl, f_nle f4 rfl rfl, f_nle f5 rfl rfl, f_in f6 rfl, f_le f7 rfl rfl, f_nle f8 rfl rfl, f_in f9 rfl, f_in f10 rfl, trivial⟩
    refine again_run (P := Try.prog) (K := noK) (fl := []) (B := 3) (a' := sur1_a) (h' := sur1_h) (ρ' := rhoL W.heap.size ([N, (n : Int), (m : Int)] ++ [(((k + 1) : Nat) : Int)]) [⟨A, n * 4, flat4 S⟩, ⟨B, m, flat1 f⟩] [] [(fun j : Int => if j = (flat4 S ((k : Int) * 4)) then (((fun j : Int => if j = (flat4 S (((k : Int) * 4) + 1)) then ((F (flat4 S (((k : Int) * 4) + 1))) + (flat1 f (k : Int))) else F j) (flat4 S ((k : Int) * 4))) - (flat1 f (k : Int))) else (fun j : Int => if j = (flat4 S (((k : Int) * 4) + 1)) then ((F (flat4 S (((k : Int) * 4) + 1))) + (flat1 f (k : Int))) else F j) j)]) (ds := [.int (.add (.var 3) (.lit (1))) (.var 3), .row (.upd (.upd (.avar 50) (.sel (.avar 0) (.add (.mul (.var 3) (.lit (4))) (.lit (1)))) (.add (.sel (.avar 50) (.sel (.avar 0) (.add (.mul (.var 3) (.lit (4))) (.lit (1))))) (.sel (.avar 1) (.var 3)))) (.sel (.avar 0) (.mul (.var 3) (.lit (4)))) (.sub (.sel (.upd (.avar 50) (.sel (.avar 0) (.add (.mul (.var 3) (.lit (4))) (.lit (1)))) (.add (.sel (.avar 50) (.sel (.avar 0) (.add (.mul (.var 3) (.lit (4))) (.lit (1))))) (.sel (.avar 1) (.var 3)))) (.sel (.avar 0) (.mul (.var 3) (.lit (4))))) (.sel (.avar 1) (.var 3)))) (.avar 50)]) (by kernel_rfl) noK_ok (facD_ok hF) (by kernel_rfl) (agree_list (l := [N, (n : Int), (m : Int)]) (Nat.le_refl _) rfl) ⟨(show (((k : Int) + 1) : Int) = (((k + 1) : Nat) : Int) from by first | rfl | (push_cast; omega)), rfl, trivial⟩ hs2 fun A3 W3 hs3 => ⟨_, ⟨(k + 1), (fun j : Int => if j = (flat4 S ((k : Int) * 4)) then (((fun j : Int => if j = (flat4 S (((k : Int) * 4) + 1)) then ((F (flat4 S (((k : Int) * 4) + 1))) + (flat1 f (k : Int))) else F j) (flat4 S ((k : Int) * 4))) - (flat1 f (k : Int))) else (fun j : Int => if j = (flat4 S (((k : Int) * 4) + 1)) then ((F (flat4 S (((k : Int) * 4) + 1))) + (flat1 f (k : Int))) else F j) j), ?_, rfl⟩, ?_, hs3⟩
    · refine ⟨by omega, ?_⟩
      rw [hFe]
      rfl
    · show n - ((k + 1 : Nat) : Int).toNat < n - ((k : Nat) : Int).toNat
      omega

end Go.Proofs.Ytmglofemnobakaa
