/- Contract: the reference says what is wrong with wrapped phases. -/
import Derived.Test.YtmglofemnobakaaFww
namespace Go.Proofs.Ytmglofemnobakaa
open Go.RowKit
set_option maxHeartbeats 4000000
set_option maxRecDepth 100000
set_option linter.unusedSimpArgs false
set_option linter.unusedVariables false



def rwe1_a : RA := { tmps := [[(.fsl 0 1 (.lit (0)) (.var 0)), (.pl (.tuple #[])), (.pl (.int .i64 (0))), (.si .i64 (.var 1)), .unk, .unk, .unk, .unk], [.unk, .unk, .unk, .unk, .unk, .unk, .unk, .unk], [.unk, .unk, .unk, .unk, .unk, .unk, .unk, (.pl (.tuple #[]))]], sz := 23, dfs := [] }
def rwe1_h : RH := { bl := [], n := 0, base := 0, ch := [] }
theorem refWrappedErr_any (t : Nat → Int) (A : Option Addr) (m c : Nat) (W : World) (hT : RowR W A m (flat1 t)) (hc : m ≤ c) (hm : m ≤ 9223372036854775807) :
    Calls Try.prog 43 #[.slice A m c] W fun e w' => e = .returned (.int .i64 (prR m t).2) ∧ Below W.heap.size W w' := by
  skip
  have hrows : RowsIn W [⟨A, m, flat1 t⟩] := ⟨hT, trivial⟩
  letI : Rho := rhoL W.heap.size ([(m : Int)]) [⟨A, m, flat1 t⟩] [] []
  have hfar : Far W := far_list hrows
  have hx : RepL (fun _ => False) (fun _ => 0) (fun _ => 0) [.fsl 0 1 (.lit 0) (.var 0)] (#[.slice A m c] : Array Value).toList := by
    exact repL_one (by simp only [Rep]; exact fsl_row 0 1 hrows rfl (by simp [rowAt]) (by omega) rfl rfl hc)
  have hF : Facts [] := trivial
  refine call_start (P := Try.prog) (K := noK) (fl := []) (by kernel_rfl) (by kernel_rfl) hx hfar noK_ok (facD_ok hF) (enter_run (B := 1) (a' := rwe1_a) (h' := rwe1_h) (ρ' := rhoL W.heap.size ([(m : Int)] ++ [0]) [⟨A, m, flat1 t⟩] [] []) (ds := [.int (.lit (0)) (.var 1)]) (c := (loopIn (bodyC Try.prog 43) 0)) (by kernel_rfl) (by kernel_rfl) rfl (agree_list (l := [(m : Int)]) (x := []) (Nat.le_refl _) rfl) ⟨rfl, trivial⟩ fun A1 W1 hs1 => ?_)
  refine loop_ok (Inv := fun ρ => ∃ (k : Nat), (k ≤ m ∧ ∀ j : Nat, j < k → pcode (flat1 t j) = 0) ∧ ρ = rhoL W.heap.size ([(m : Int)] ++ [(k : Int)]) [⟨A, m, flat1 t⟩] [] []) (μ := fun ρ => m - (@Rho.i ρ 1).toNat) (a := rwe1_a) (h := rwe1_h) ?_ _ ⟨0, ?_, rfl⟩ A1 W1 hs1
  rotate_left
  · exact ⟨Nat.zero_le _, fun j hj => absurd hj (Nat.not_lt_zero j)⟩
  first | clear hs1 hx | clear hs1
  rintro ρ ⟨k, hinv, rfl⟩ A2 W2 hs2
  letI : Rho := rhoL W.heap.size ([(m : Int)] ++ [(k : Int)]) [⟨A, m, flat1 t⟩] [] []
  obtain ⟨hk, hz⟩ := hinv
  by_cases f1 : (m : Int) ≤ (k : Int)
  · skip
    have hF : Facts [((.le (.var 0) (.var 1)), true)] := ⟨f_le f1 rfl rfl, trivial⟩
    refine out_run (P := Try.prog) (K := noK) (fl := []) (by kernel_rfl) noK_ok (facD_ok hF) hs2 (fin_run (r := (.pl (.int .i64 (0)))) (by kernel_rfl) rfl fun W' hbel => ⟨?_, hbel⟩)
    show Ending.returned (.int .i64 0) = _
    rw [pr_none (fun j hj => hz j (by omega))]
  · skip
    have f2 : (0 ≤ (k : Int)) := by
      omega
    by_cases f3 : (flat1 t (k : Int)) = 1000000000000
    · skip
      have f4 : (-9223372036854775808 : Int) ≤ ((k : Int) + 1) ∧ ((k : Int) + 1) ≤ 9223372036854775807 := by
        omega
      have hF : Facts [((.le (.var 0) (.var 1)), false), ((.le (.lit (0)) (.var 1)), true), ((.eq (.sel (.avar 0) (.var 1)) (.lit (1000000000000))), true), ((.inr .i64 (.add (.var 1) (.lit (1)))), true)] := ⟨f_nle f1 rfl rfl, f_le f2 rfl rfl, f_eq f3 rfl rfl, f_in f4 rfl, trivial⟩
      refine again_run (P := Try.prog) (K := noK) (fl := []) (B := 1) (a' := rwe1_a) (h' := rwe1_h) (ρ' := rhoL W.heap.size ([(m : Int)] ++ [(((k + 1) : Nat) : Int)]) [⟨A, m, flat1 t⟩] [] []) (ds := [.int (.add (.var 1) (.lit (1))) (.var 1)]) (by kernel_rfl) noK_ok (facD_ok hF) (by kernel_rfl) (agree_list (l := [(m : Int)]) (Nat.le_refl _) rfl) ⟨(show (((k : Int) + 1) : Int) = (((k + 1) : Nat) : Int) from by first | rfl | (push_cast; omega)), trivial⟩ hs2 fun A3 W3 hs3 => ⟨_, ⟨(k + 1), ?_, rfl⟩, ?_, hs3⟩
      · refine ⟨by omega, fun j hj => ?_⟩
        rcases Nat.lt_or_ge j k with g | g
        · exact hz j g
        · obtain rfl : j = k := by omega
          simp only [pcode, f1, f2, f3, and_true, true_and, and_false, false_and, and_self, if_true, if_false]
      · show m - ((k + 1 : Nat) : Int).toNat < m - ((k : Nat) : Int).toNat
        omega
    · skip
      by_cases f4 : (-2048) ≤ (flat1 t (k : Int))
      · skip
        by_cases f5 : (flat1 t (k : Int)) ≤ 2047
        · skip
          have f6 : (-9223372036854775808 : Int) ≤ ((k : Int) + 1) ∧ ((k : Int) + 1) ≤ 9223372036854775807 := by
            omega
          have hF : Facts [((.le (.var 0) (.var 1)), false), ((.le (.lit (0)) (.var 1)), true), ((.eq (.sel (.avar 0) (.var 1)) (.lit (1000000000000))), false), ((.le (.lit (-2048)) (.sel (.avar 0) (.var 1))), true), ((.le (.sel (.avar 0) (.var 1)) (.lit (2047))), true), ((.inr .i64 (.add (.var 1) (.lit (1)))), true)] := ⟨f_nle f1 rfl rfl, f_le f2 rfl rfl, f_ne f3 rfl rfl, f_le f4 rfl rfl, f_le f5 rfl rfl, f_in f6 rfl, trivial⟩
          refine again_run (P := Try.prog) (K := noK) (fl := []) (B := 1) (a' := rwe1_a) (h' := rwe1_h) (ρ' := rhoL W.heap.size ([(m : Int)] ++ [(((k + 1) : Nat) : Int)]) [⟨A, m, flat1 t⟩] [] []) (ds := [.int (.add (.var 1) (.lit (1))) (.var 1)]) (by kernel_rfl) noK_ok (facD_ok hF) (by kernel_rfl) (agree_list (l := [(m : Int)]) (Nat.le_refl _) rfl) ⟨(show (((k : Int) + 1) : Int) = (((k + 1) : Nat) : Int) from by first | rfl | (push_cast; omega)), trivial⟩ hs2 fun A3 W3 hs3 => ⟨_, ⟨(k + 1), ?_, rfl⟩, ?_, hs3⟩
          · refine ⟨by omega, fun j hj => ?_⟩
            rcases Nat.lt_or_ge j k with g | g
            · exact hz j g
            · obtain rfl : j = k := by omega
              simp only [pcode, f1, f2, f3, f4, f5, and_true, true_and, and_false, false_and, and_self, if_true, if_false]
          · show m - ((k + 1 : Nat) : Int).toNat < m - ((k : Nat) : Int).toNat
            omega
        · skip
          have hF : Facts [((.le (.var 0) (.var 1)), false), ((.le (.lit (0)) (.var 1)), true), ((.eq (.sel (.avar 0) (.var 1)) (.lit (1000000000000))), false), ((.le (.lit (-2048)) (.sel (.avar 0) (.var 1))), true), ((.le (.sel (.avar 0) (.var 1)) (.lit (2047))), false)] := ⟨f_nle f1 rfl rfl, f_le f2 rfl rfl, f_ne f3 rfl rfl, f_le f4 rfl rfl, f_nle f5 rfl rfl, trivial⟩
          refine out_run (P := Try.prog) (K := noK) (fl := []) (by kernel_rfl) noK_ok (facD_ok hF) hs2 (fin_run (r := (.pl (.int .i64 (2)))) (by kernel_rfl) rfl fun W' hbel => ⟨?_, hbel⟩)
          show Ending.returned (.int .i64 2) = _
          rw [pr_hit (c := 2) hz (by simp only [pcode, f1, f2, f3, f4, f5, and_true, true_and, and_false, false_and, and_self, if_true, if_false]) (by decide) (by omega)]
      · skip
        have hF : Facts [((.le (.var 0) (.var 1)), false), ((.le (.lit (0)) (.var 1)), true), ((.eq (.sel (.avar 0) (.var 1)) (.lit (1000000000000))), false), ((.le (.lit (-2048)) (.sel (.avar 0) (.var 1))), false)] := ⟨f_nle f1 rfl rfl, f_le f2 rfl rfl, f_ne f3 rfl rfl, f_nle f4 rfl rfl, trivial⟩
        refine out_run (P := Try.prog) (K := noK) (fl := []) (by kernel_rfl) noK_ok (facD_ok hF) hs2 (fin_run (r := (.pl (.int .i64 (2)))) (by kernel_rfl) rfl fun W' hbel => ⟨?_, hbel⟩)
        show Ending.returned (.int .i64 2) = _
        rw [pr_hit (c := 2) hz (by simp only [pcode, f1, f2, f3, f4, and_true, true_and, and_false, false_and, and_self, if_true, if_false]) (by decide) (by omega)]

end Go.Proofs.Ytmglofemnobakaa
