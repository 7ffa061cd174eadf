/- Contract: the reference says what turns cost. -/
import Derived.Test.YtmglofemnobakaaUmm
namespace Go.Proofs.Ytmglofemnobakaa
open Go.RowKit
set_option maxHeartbeats 4000000
set_option maxRecDepth 100000
set_option linter.unusedSimpArgs false
set_option linter.unusedVariables false



def rcs1_a : RA := { tmps := [[(.agg [(.si .i64 (.var 0)), (.fsl 0 4 (.lit (0)) (.var 1))]), (.fsl 1 1 (.lit (0)) (.var 2)), (.ptr 0 0), (.pl (.tuple #[])), (.pl (.int .i64 (0))), (.si .i64 (.var 3)), (.si .i64 (.var 4)), .unk], [.unk, .unk, .unk, .unk, .unk, .unk, .unk, .unk], [.unk, .unk, .unk, .unk, .unk, .unk, .unk, .unk], [.unk, .unk, .unk, .unk, .unk, .unk, .unk, (.pl (.tuple #[]))], [(.pl (.tuple #[])), (.pl (.tuple #[])), (.pl (.tuple #[])), (.pl (.tuple #[])), (.pl (.tuple #[])), (.pl (.tuple #[])), (.pl (.tuple #[])), (.pl (.tuple #[]))]], sz := 32, dfs := [] }
def rcs1_h : RH := { bl := [some (.cells [(.si .i64 (.var 0)), (.fsl 0 4 (.lit (0)) (.var 1))] 24 false)], n := 1, base := 0, ch := [] }
theorem refCost_any (N : Int) (A B : Option Addr) (n c m d : Nat) (S : Nat → Nat → Int) (t : Nat → Int) (W : World) (hS : RowR W A (n * 4) (flat4 S)) (hT : RowR W B m (flat1 t)) (hN : I64 N) (hc : n ≤ c) (hd : m ≤ d) (hn : n ≤ 600) (hm : (m : Int) = N) (hR : ∀ i, i < n → ec N S i = 0) (ht : ∀ i, i < m → -1000000 ≤ t i ∧ t i ≤ 1000000) :
    Calls Try.prog 35 #[.agg #[.int .i64 N, .slice A n c], .slice B m d] W fun e w' => e = .returned (.int .i64 (cost S t n)) ∧ Below W.heap.size W w' := by
  skip
  have hrows : RowsIn W [⟨A, n * 4, flat4 S⟩, ⟨B, m, flat1 t⟩] := ⟨hS, hT, trivial⟩
  letI : Rho := rhoL W.heap.size ([N, (n : Int), (m : Int)]) [⟨A, n * 4, flat4 S⟩, ⟨B, m, flat1 t⟩] [] []
  have hfar : Far W := far_list hrows
  have hx : RepL (fun _ => False) (fun _ => 0) (fun _ => 0) [.agg [.si .i64 (.var 0), .fsl 0 4 (.lit 0) (.var 1)], .fsl 1 1 (.lit 0) (.var 2)] (#[.agg #[.int .i64 N, .slice A n c], .slice B m d] : Array Value).toList := by
    refine repL_cons'.2 ⟨?_, repL_one (by simp only [Rep]; exact fsl_row 1 1 hrows rfl (by simp [rowAt]) (by omega) rfl rfl hd)⟩
    simp only [Rep]
    exact ⟨_, rfl, repL_cons'.2 ⟨by simp only [Rep]; rfl, repL_one (by simp only [Rep]; exact fsl_row 0 4 hrows rfl rfl (by omega) rfl rfl hc)⟩⟩
  have hF : Facts [] := trivial
  refine call_start (P := Try.prog) (K := noK) (fl := []) (by kernel_rfl) (by kernel_rfl) hx hfar noK_ok (facD_ok hF) (enter_run (B := 3) (a' := rcs1_a) (h' := rcs1_h) (ρ' := rhoL W.heap.size ([N, (n : Int), (m : Int)] ++ [0, 0]) [⟨A, n * 4, flat4 S⟩, ⟨B, m, flat1 t⟩] [] []) (ds := [.int (.lit (0)) (.var 3), .int (.lit (0)) (.var 4)]) (c := (loopIn (bodyC Try.prog 35) 0)) (by kernel_rfl) (by kernel_rfl) rfl (agree_list (l := [N, (n : Int), (m : Int)]) (x := []) (Nat.le_refl _) rfl) ⟨rfl, rfl, trivial⟩ fun A1 W1 hs1 => ?_)
  refine loop_ok (Inv := fun ρ => ∃ (acc : Int) (k : Nat), (k ≤ n ∧ acc = cost S t k ∧ -(k * 2001000000 : Int) ≤ acc ∧ acc ≤ k * 2001000000) ∧ ρ = rhoL W.heap.size ([N, (n : Int), (m : Int)] ++ [(acc : Int), (k : Int)]) [⟨A, n * 4, flat4 S⟩, ⟨B, m, flat1 t⟩] [] []) (μ := fun ρ => n - (@Rho.i ρ 4).toNat) (a := rcs1_a) (h := rcs1_h) ?_ _ ⟨0, 0, ?_, rfl⟩ A1 W1 hs1
  rotate_left
  · exact ⟨Nat.zero_le _, rfl, by omega, by omega⟩
  first | clear hs1 hx | clear hs1
  rintro ρ ⟨acc, k, hinv, rfl⟩ A2 W2 hs2
  letI : Rho := rhoL W.heap.size ([N, (n : Int), (m : Int)] ++ [(acc : Int), (k : Int)]) [⟨A, n * 4, flat4 S⟩, ⟨B, m, flat1 t⟩] [] []
  obtain ⟨hk, ha, hb1, hb2⟩ := hinv
  by_cases f1 : (n : Int) ≤ (k : Int)
  · skip
    have hF : Facts [((.le (.var 1) (.var 4)), true)] := ⟨f_le f1 rfl rfl, trivial⟩
    refine out_run (P := Try.prog) (K := noK) (fl := []) (by kernel_rfl) noK_ok (facD_ok hF) hs2 (fin_run (r := (.si .i64 (.var 3))) (by kernel_rfl) rfl fun W' hbel => ⟨?_, hbel⟩)
    show Ending.returned (.int .i64 (acc : Int)) = _
    have : k = n := by omega
    subst this
    rw [ha]
  · skip
    have f2 : (0 ≤ (k : Int)) := by
      have hq := edge_k hR ht hm (show k < n by omega)
      omega
    have f3 : (0 ≤ (flat4 S (((k : Int) * 4) + 1))) := by
      have hq := edge_k hR ht hm (show k < n by omega)
      omega
    have f4 : ¬ ((m : Int) ≤ (flat4 S (((k : Int) * 4) + 1))) := by
      have hq := edge_k hR ht hm (show k < n by omega)
      omega
    have f5 : (0 ≤ (flat4 S ((k : Int) * 4))) := by
      have hq := edge_k hR ht hm (show k < n by omega)
      omega
    have f6 : ¬ ((m : Int) ≤ (flat4 S ((k : Int) * 4))) := by
      have hq := edge_k hR ht hm (show k < n by omega)
      omega
    have f7 : (-9223372036854775808 : Int) ≤ ((flat1 t (flat4 S (((k : Int) * 4) + 1))) - (flat1 t (flat4 S ((k : Int) * 4)))) ∧ ((flat1 t (flat4 S (((k : Int) * 4) + 1))) - (flat1 t (flat4 S ((k : Int) * 4)))) ≤ 9223372036854775807 := by
      have hq := edge_k hR ht hm (show k < n by omega)
      omega
    have f8 : (-9223372036854775808 : Int) ≤ (((flat1 t (flat4 S (((k : Int) * 4) + 1))) - (flat1 t (flat4 S ((k : Int) * 4)))) + (flat4 S (((k : Int) * 4) + 2))) ∧ (((flat1 t (flat4 S (((k : Int) * 4) + 1))) - (flat1 t (flat4 S ((k : Int) * 4)))) + (flat4 S (((k : Int) * 4) + 2))) ≤ 9223372036854775807 := by
      have hq := edge_k hR ht hm (show k < n by omega)
      omega
    have f9 : (-9223372036854775808 : Int) ≤ (0 - (((flat1 t (flat4 S (((k : Int) * 4) + 1))) - (flat1 t (flat4 S ((k : Int) * 4)))) + (flat4 S (((k : Int) * 4) + 2)))) ∧ (0 - (((flat1 t (flat4 S (((k : Int) * 4) + 1))) - (flat1 t (flat4 S ((k : Int) * 4)))) + (flat4 S (((k : Int) * 4) + 2)))) ≤ 9223372036854775807 := by
      have hq := edge_k hR ht hm (show k < n by omega)
      omega
    by_cases f10 : (0 - (((flat1 t (flat4 S (((k : Int) * 4) + 1))) - (flat1 t (flat4 S ((k : Int) * 4)))) + (flat4 S (((k : Int) * 4) + 2)))) ≤ (((flat1 t (flat4 S (((k : Int) * 4) + 1))) - (flat1 t (flat4 S ((k : Int) * 4)))) + (flat4 S (((k : Int) * 4) + 2)))
    · skip
      have f11 : (-9223372036854775808 : Int) ≤ ((flat4 S (((k : Int) * 4) + 3)) * (((flat1 t (flat4 S (((k : Int) * 4) + 1))) - (flat1 t (flat4 S ((k : Int) * 4)))) + (flat4 S (((k : Int) * 4) + 2)))) ∧ ((flat4 S (((k : Int) * 4) + 3)) * (((flat1 t (flat4 S (((k : Int) * 4) + 1))) - (flat1 t (flat4 S ((k : Int) * 4)))) + (flat4 S (((k : Int) * 4) + 2)))) ≤ 9223372036854775807 := by
        have hq := edge_k hR ht hm (show k < n by omega)
        omega
      have f12 : (-9223372036854775808 : Int) ≤ ((acc : Int) + ((flat4 S (((k : Int) * 4) + 3)) * (((flat1 t (flat4 S (((k : Int) * 4) + 1))) - (flat1 t (flat4 S ((k : Int) * 4)))) + (flat4 S (((k : Int) * 4) + 2))))) ∧ ((acc : Int) + ((flat4 S (((k : Int) * 4) + 3)) * (((flat1 t (flat4 S (((k : Int) * 4) + 1))) - (flat1 t (flat4 S ((k : Int) * 4)))) + (flat4 S (((k : Int) * 4) + 2))))) ≤ 9223372036854775807 := by
        have hq := edge_k hR ht hm (show k < n by omega)
        omega
      have f13 : (-9223372036854775808 : Int) ≤ ((k : Int) + 1) ∧ ((k : Int) + 1) ≤ 9223372036854775807 := by
        have hq := edge_k hR ht hm (show k < n by omega)
        omega
      have hF : Facts [((.le (.var 1) (.var 4)), false), ((.le (.lit (0)) (.var 4)), true), ((.le (.lit (0)) (.sel (.avar 0) (.add (.mul (.var 4) (.lit (4))) (.lit (1))))), true), ((.le (.var 2) (.sel (.avar 0) (.add (.mul (.var 4) (.lit (4))) (.lit (1))))), false), ((.le (.lit (0)) (.sel (.avar 0) (.mul (.var 4) (.lit (4))))), true), ((.le (.var 2) (.sel (.avar 0) (.mul (.var 4) (.lit (4))))), false), ((.inr .i64 (.sub (.sel (.avar 1) (.sel (.avar 0) (.add (.mul (.var 4) (.lit (4))) (.lit (1))))) (.sel (.avar 1) (.sel (.avar 0) (.mul (.var 4) (.lit (4))))))), true), ((.inr .i64 (.add (.sub (.sel (.avar 1) (.sel (.avar 0) (.add (.mul (.var 4) (.lit (4))) (.lit (1))))) (.sel (.avar 1) (.sel (.avar 0) (.mul (.var 4) (.lit (4)))))) (.sel (.avar 0) (.add (.mul (.var 4) (.lit (4))) (.lit (2)))))), true), ((.inr .i64 (.sub (.lit (0)) (.add (.sub (.sel (.avar 1) (.sel (.avar 0) (.add (.mul (.var 4) (.lit (4))) (.lit (1))))) (.sel (.avar 1) (.sel (.avar 0) (.mul (.var 4) (.lit (4)))))) (.sel (.avar 0) (.add (.mul (.var 4) (.lit (4))) (.lit (2))))))), true), ((.le (.sub (.lit (0)) (.add (.sub (.sel (.avar 1) (.sel (.avar 0) (.add (.mul (.var 4) (.lit (4))) (.lit (1))))) (.sel (.avar 1) (.sel (.avar 0) (.mul (.var 4) (.lit (4)))))) (.sel (.avar 0) (.add (.mul (.var 4) (.lit (4))) (.lit (2)))))) (.add (.sub (.sel (.avar 1) (.sel (.avar 0) (.add (.mul (.var 4) (.lit (4))) (.lit (1))))) (.sel (.avar 1) (.sel (.avar 0) (.mul (.var 4) (.lit (4)))))) (.sel (.avar 0) (.add (.mul (.var 4) (.lit (4))) (.lit (2)))))), true), ((.inr .i64 (.mul (.sel (.avar 0) (.add (.mul (.var 4) (.lit (4))) (.lit (3)))) (.add (.sub (.sel (.avar 1) (.sel (.avar 0) (.add (.mul (.var 4) (.lit (4))) (.lit (1))))) (.sel (.avar 1) (.sel (.avar 0) (.mul (.var 4) (.lit (4)))))) (.sel (.avar 0) (.add (.mul (.var 4) (.lit (4))) (.lit (2))))))), true), ((.inr .i64 (.add (.var 3) (.mul (.sel (.avar 0) (.add (.mul (.var 4) (.lit (4))) (.lit (3)))) (.add (.sub (.sel (.avar 1) (.sel (.avar 0) (.add (.mul (.var 4) (.lit (4))) (.lit (1))))) (.sel (.avar 1) (.sel (.avar 0) (.mul (.var 4) (.lit (4)))))) (.sel (.avar 0) (.add (.mul (.var 4) (.lit (4))) (.lit (2)))))))), true), ((.inr .i64 (.add (.var 4) (.lit (1)))), true)] := ⟨f_nle f1 rfl rfl, f_le f2 rfl rfl, f_le f3 rfl rfl, f_nle f4 rfl rfl, f_le f5 rfl rfl, f_nle f6 rfl rfl, f_in f7 rfl, f_in f8 rfl, f_in f9 rfl, f_le f10 rfl rfl, f_in f11 rfl, f_in f12 rfl, f_in f13 rfl, trivial⟩
      refine again_run (P := Try.prog) (K := noK) (fl := []) (B := 3) (a' := rcs1_a) (h' := rcs1_h) (ρ' := rhoL W.heap.size ([N, (n : Int), (m : Int)] ++ [((((acc : Int) + ((flat4 S (((k : Int) * 4) + 3)) * (((flat1 t (flat4 S (((k : Int) * 4) + 1))) - (flat1 t (flat4 S ((k : Int) * 4)))) + (flat4 S (((k : Int) * 4) + 2))))) : Int) : Int), (((k + 1) : Nat) : Int)]) [⟨A, n * 4, flat4 S⟩, ⟨B, m, flat1 t⟩] [] []) (ds := [.int (.add (.var 3) (.mul (.sel (.avar 0) (.add (.mul (.var 4) (.lit (4))) (.lit (3)))) (.add (.sub (.sel (.avar 1) (.sel (.avar 0) (.add (.mul (.var 4) (.lit (4))) (.lit (1))))) (.sel (.avar 1) (.sel (.avar 0) (.mul (.var 4) (.lit (4)))))) (.sel (.avar 0) (.add (.mul (.var 4) (.lit (4))) (.lit (2))))))) (.var 3), .int (.add (.var 4) (.lit (1))) (.var 4)]) (by kernel_rfl) noK_ok (facD_ok hF) (by kernel_rfl) (agree_list (l := [N, (n : Int), (m : Int)]) (Nat.le_refl _) rfl) ⟨(show (((acc : Int) + ((flat4 S (((k : Int) * 4) + 3)) * (((flat1 t (flat4 S (((k : Int) * 4) + 1))) - (flat1 t (flat4 S ((k : Int) * 4)))) + (flat4 S (((k : Int) * 4) + 2))))) : Int) = ((((acc : Int) + ((flat4 S (((k : Int) * 4) + 3)) * (((flat1 t (flat4 S (((k : Int) * 4) + 1))) - (flat1 t (flat4 S ((k : Int) * 4)))) + (flat4 S (((k : Int) * 4) + 2))))) : Int) : Int) from by first | rfl | (push_cast; omega)), (show (((k : Int) + 1) : Int) = (((k + 1) : Nat) : Int) from by first | rfl | (push_cast; omega)), trivial⟩ hs2 fun A3 W3 hs3 => ⟨_, ⟨((acc : Int) + ((flat4 S (((k : Int) * 4) + 3)) * (((flat1 t (flat4 S (((k : Int) * 4) + 1))) - (flat1 t (flat4 S ((k : Int) * 4)))) + (flat4 S (((k : Int) * 4) + 2))))), (k + 1), ?_, rfl⟩, ?_, hs3⟩
      · have hq := edge_k hR ht hm (show k < n by omega)
        refine ⟨by omega, ?_, by push_cast; omega, by push_cast; omega⟩
        show _ = cost S t k + flat4 S ((k : Int) * 4 + 3) * (if 0 ≤ exc S t k then exc S t k else - exc S t k)
        rw [← ha]
        unfold exc
        first
          | (rw [if_pos (by omega)])
          | (rw [if_neg (by omega), ← Int.zero_sub])
          | (rw [show flat1 t (flat4 S ((k : Int) * 4 + 1)) - flat1 t (flat4 S ((k : Int) * 4)) + flat4 S ((k : Int) * 4 + 2) = 0 by omega]; simp)
      · show n - ((k + 1 : Nat) : Int).toNat < n - ((k : Nat) : Int).toNat
        omega
    · skip
      have f11 : (-9223372036854775808 : Int) ≤ ((flat4 S (((k : Int) * 4) + 3)) * (0 - (((flat1 t (flat4 S (((k : Int) * 4) + 1))) - (flat1 t (flat4 S ((k : Int) * 4)))) + (flat4 S (((k : Int) * 4) + 2))))) ∧ ((flat4 S (((k : Int) * 4) + 3)) * (0 - (((flat1 t (flat4 S (((k : Int) * 4) + 1))) - (flat1 t (flat4 S ((k : Int) * 4)))) + (flat4 S (((k : Int) * 4) + 2))))) ≤ 9223372036854775807 := by
        have hq := edge_k hR ht hm (show k < n by omega)
        omega
      have f12 : (-9223372036854775808 : Int) ≤ ((acc : Int) + ((flat4 S (((k : Int) * 4) + 3)) * (0 - (((flat1 t (flat4 S (((k : Int) * 4) + 1))) - (flat1 t (flat4 S ((k : Int) * 4)))) + (flat4 S (((k : Int) * 4) + 2)))))) ∧ ((acc : Int) + ((flat4 S (((k : Int) * 4) + 3)) * (0 - (((flat1 t (flat4 S (((k : Int) * 4) + 1))) - (flat1 t (flat4 S ((k : Int) * 4)))) + (flat4 S (((k : Int) * 4) + 2)))))) ≤ 9223372036854775807 := by
        have hq := edge_k hR ht hm (show k < n by omega)
        omega
      have f13 : (-9223372036854775808 : Int) ≤ ((k : Int) + 1) ∧ ((k : Int) + 1) ≤ 9223372036854775807 := by
        have hq := edge_k hR ht hm (show k < n by omega)
        omega
      have hF : Facts [((.le (.var 1) (.var 4)), false), ((.le (.lit (0)) (.var 4)), true), ((.le (.lit (0)) (.sel (.avar 0) (.add (.mul (.var 4) (.lit (4))) (.lit (1))))), true), ((.le (.var 2) (.sel (.avar 0) (.add (.mul (.var 4) (.lit (4))) (.lit (1))))), false), ((.le (.lit (0)) (.sel (.avar 0) (.mul (.var 4) (.lit (4))))), true), ((.le (.var 2) (.sel (.avar 0) (.mul (.var 4) (.lit (4))))), false), ((.inr .i64 (.sub (.sel (.avar 1) (.sel (.avar 0) (.add (.mul (.var 4) (.lit (4))) (.lit (1))))) (.sel (.avar 1) (.sel (.avar 0) (.mul (.var 4) (.lit (4))))))), true), ((.inr .i64 (.add (.sub (.sel (.avar 1) (.sel (.avar 0) (.add (.mul (.var 4) (.lit (4))) (.lit (1))))) (.sel (.avar 1) (.sel (.avar 0) (.mul (.var 4) (.lit (4)))))) (.sel (.avar 0) (.add (.mul (.var 4) (.lit (4))) (.lit (2)))))), true), ((.inr .i64 (.sub (.lit (0)) (.add (.sub (.sel (.avar 1) (.sel (.avar 0) (.add (.mul (.var 4) (.lit (4))) (.lit (1))))) (.sel (.avar 1) (.sel (.avar 0) (.mul (.var 4) (.lit (4)))))) (.sel (.avar 0) (.add (.mul (.var 4) (.lit (4))) (.lit (2))))))), true), ((.le (.sub (.lit (0)) (.add (.sub (.sel (.avar 1) (.sel (.avar 0) (.add (.mul (.var 4) (.lit (4))) (.lit (1))))) (.sel (.avar 1) (.sel (.avar 0) (.mul (.var 4) (.lit (4)))))) (.sel (.avar 0) (.add (.mul (.var 4) (.lit (4))) (.lit (2)))))) (.add (.sub (.sel (.avar 1) (.sel (.avar 0) (.add (.mul (.var 4) (.lit (4))) (.lit (1))))) (.sel (.avar 1) (.sel (.avar 0) (.mul (.var 4) (.lit (4)))))) (.sel (.avar 0) (.add (.mul (.var 4) (.lit (4))) (.lit (2)))))), false), ((.inr .i64 (.mul (.sel (.avar 0) (.add (.mul (.var 4) (.lit (4))) (.lit (3)))) (.sub (.lit (0)) (.add (.sub (.sel (.avar 1) (.sel (.avar 0) (.add (.mul (.var 4) (.lit (4))) (.lit (1))))) (.sel (.avar 1) (.sel (.avar 0) (.mul (.var 4) (.lit (4)))))) (.sel (.avar 0) (.add (.mul (.var 4) (.lit (4))) (.lit (2)))))))), true), ((.inr .i64 (.add (.var 3) (.mul (.sel (.avar 0) (.add (.mul (.var 4) (.lit (4))) (.lit (3)))) (.sub (.lit (0)) (.add (.sub (.sel (.avar 1) (.sel (.avar 0) (.add (.mul (.var 4) (.lit (4))) (.lit (1))))) (.sel (.avar 1) (.sel (.avar 0) (.mul (.var 4) (.lit (4)))))) (.sel (.avar 0) (.add (.mul (.var 4) (.lit (4))) (.lit (2))))))))), true), ((.inr .i64 (.add (.var 4) (.lit (1)))), true)] := ⟨f_nle f1 rfl rfl, f_le f2 rfl rfl, f_le f3 rfl rfl, f_nle f4 rfl rfl, f_le f5 rfl rfl, f_nle f6 rfl rfl, f_in f7 rfl, f_in f8 rfl, f_in f9 rfl, f_nle f10 rfl rfl, f_in f11 rfl, f_in f12 rfl, f_in f13 rfl, trivial⟩
      refine again_run (P := Try.prog) (K := noK) (fl := []) (B := 3) (a' := rcs1_a) (h' := rcs1_h) (ρ' := rhoL W.heap.size ([N, (n : Int), (m : Int)] ++ [((((acc : Int) + ((flat4 S (((k : Int) * 4) + 3)) * (0 - (((flat1 t (flat4 S (((k : Int) * 4) + 1))) - (flat1 t (flat4 S ((k : Int) * 4)))) + (flat4 S (((k : Int) * 4) + 2)))))) : Int) : Int), (((k + 1) : Nat) : Int)]) [⟨A, n * 4, flat4 S⟩, ⟨B, m, flat1 t⟩] [] []) (ds := [.int (.add (.var 3) (.mul (.sel (.avar 0) (.add (.mul (.var 4) (.lit (4))) (.lit (3)))) (.sub (.lit (0)) (.add (.sub (.sel (.avar 1) (.sel (.avar 0) (.add (.mul (.var 4) (.lit (4))) (.lit (1))))) (.sel (.avar 1) (.sel (.avar 0) (.mul (.var 4) (.lit (4)))))) (.sel (.avar 0) (.add (.mul (.var 4) (.lit (4))) (.lit (2)))))))) (.var 3), .int (.add (.var 4) (.lit (1))) (.var 4)]) (by kernel_rfl) noK_ok (facD_ok hF) (by kernel_rfl) (agree_list (l := [N, (n : Int), (m : Int)]) (Nat.le_refl _) rfl) ⟨(show (((acc : Int) + ((flat4 S (((k : Int) * 4) + 3)) * (0 - (((flat1 t (flat4 S (((k : Int) * 4) + 1))) - (flat1 t (flat4 S ((k : Int) * 4)))) + (flat4 S (((k : Int) * 4) + 2)))))) : Int) = ((((acc : Int) + ((flat4 S (((k : Int) * 4) + 3)) * (0 - (((flat1 t (flat4 S (((k : Int) * 4) + 1))) - (flat1 t (flat4 S ((k : Int) * 4)))) + (flat4 S (((k : Int) * 4) + 2)))))) : Int) : Int) from by first | rfl | (push_cast; omega)), (show (((k : Int) + 1) : Int) = (((k + 1) : Nat) : Int) from by first | rfl | (push_cast; omega)), trivial⟩ hs2 fun A3 W3 hs3 => ⟨_, ⟨((acc : Int) + ((flat4 S (((k : Int) * 4) + 3)) * (0 - (((flat1 t (flat4 S (((k : Int) * 4) + 1))) - (flat1 t (flat4 S ((k : Int) * 4)))) + (flat4 S (((k : Int) * 4) + 2)))))), (k + 1), ?_, rfl⟩, ?_, hs3⟩
      · have hq := edge_k hR ht hm (show k < n by omega)
        refine ⟨by omega, ?_, by push_cast; omega, by push_cast; omega⟩
        show _ = cost S t k + flat4 S ((k : Int) * 4 + 3) * (if 0 ≤ exc S t k then exc S t k else - exc S t k)
        rw [← ha]
        unfold exc
        first
          | (rw [if_pos (by omega)])
          | (rw [if_neg (by omega), ← Int.zero_sub])
          | (rw [show flat1 t (flat4 S ((k : Int) * 4 + 1)) - flat1 t (flat4 S ((k : Int) * 4)) + flat4 S ((k : Int) * 4 + 2) = 0 by omega]; simp)
      · show n - ((k + 1 : Nat) : Int).toNat < n - ((k : Nat) : Int).toNat
        omega

end Go.Proofs.Ytmglofemnobakaa
