/- Contract: the reference says what is wrong with turns of a right net, or what they cost. -/
import Derived.Test.YtmglofemnobakaaUct
namespace Go.Proofs.Ytmglofemnobakaa
open Go.RowKit
set_option maxHeartbeats 4000000
set_option maxRecDepth 100000
set_option linter.unusedSimpArgs false
set_option linter.unusedVariables false



def rct1_a : RA := { tmps := [[(.agg [(.si .i64 (.var 0)), (.fsl 0 4 (.lit (0)) (.var 1))]), (.fsl 1 1 (.lit (0)) (.var 2)), (.ptr 0 0), (.pl (.tuple #[])), (.pl (.int .i64 (0))), (.pl (.int .i64 (0))), (.si .i64 (.var 4)), (.fsl 1 1 (.lit (0)) (.var 2))], [(.si .i64 (.var 2)), (.ptr 0 0), (.si .i64 (.var 0)), (.sb (.not (.eq (.var 2) (.var 0)))), .unk, .unk, .unk, .unk], [.unk, .unk, .unk, .unk, .unk, .unk, .unk, .unk], [(.pl (.tuple #[])), (.pl (.tuple #[])), (.pl (.tuple #[])), (.pl (.tuple #[])), (.pl (.tuple #[])), (.pl (.tuple #[])), (.pl (.tuple #[])), (.pl (.tuple #[]))]], sz := 27, dfs := [] }
def rct1_h : RH := { bl := [some (.cells [(.si .i64 (.var 0)), (.fsl 0 4 (.lit (0)) (.var 1))] 24 false)], n := 1, base := 0, ch := [] }
theorem refCheckTurns_any (N : Int) (A B : Option Addr) (n c m d : Nat) (S : Nat → Nat → Int) (t : Nat → Int) (W : World) (hS : RowR W A (n * 4) (flat4 S)) (hT : RowR W B m (flat1 t)) (hN : I64 N) (hc : n ≤ c) (hd : m ≤ d) (hn : n ≤ 9223372036854775807) (hm : m ≤ 1000000) (hcn : (cnR N n S).2 = 0) :
    Calls Try.prog 12 #[.agg #[.int .i64 N, .slice A n c], .slice B m d] W fun e w' => e = .returned (.tuple #[.int .i64 (rtR N n S m t).1, .int .i64 (rtR N n S m t).2]) ∧ Below W.heap.size W w' := by
  skip
  have hrows : RowsIn W [⟨A, n * 4, flat4 S⟩, ⟨B, m, flat1 t⟩] := ⟨hS, hT, trivial⟩
  letI : Rho := rhoL W.heap.size ([N, (n : Int), (m : Int), (cost S t n)]) [⟨A, n * 4, flat4 S⟩, ⟨B, m, flat1 t⟩] [] []
  have hfar : Far W := far_list hrows
  have hx : RepL (fun _ => False) (fun _ => 0) (fun _ => 0) coC (#[.agg #[.int .i64 N, .slice A n c], .slice B m d] : Array Value).toList := by
    refine repL_cons'.2 ⟨?_, repL_one (by simp only [Rep]; exact fsl_row 1 1 hrows rfl (by simp [rowAt]) (by omega) rfl rfl hd)⟩
    simp only [Rep]
    exact ⟨_, rfl, repL_cons'.2 ⟨by simp only [Rep]; rfl, repL_one (by simp only [Rep]; exact fsl_row 0 4 hrows rfl rfl (by omega) rfl rfl hc)⟩⟩
  by_cases f1 : (m : Int) = N
  · skip
    have hF : Facts [((.eq (.var 2) (.var 0)), true)] := ⟨f_eq f1 rfl rfl, trivial⟩
    refine call_start (P := Try.prog) (K := noK) (fl := []) (by kernel_rfl) (by kernel_rfl) hx hfar noK_ok (facD_ok hF) (enter_run (B := 4) (a' := rct1_a) (h' := rct1_h) (ρ' := rhoL W.heap.size ([N, (n : Int), (m : Int), (cost S t n)] ++ [0]) [⟨A, n * 4, flat4 S⟩, ⟨B, m, flat1 t⟩] [] []) (ds := [.int (.lit (0)) (.var 4)]) (c := (loopIn (bodyC Try.prog 12) 0)) (by kernel_rfl) (by kernel_rfl) rfl (agree_list (l := [N, (n : Int), (m : Int), (cost S t n)]) (x := []) (Nat.le_refl _) rfl) ⟨rfl, trivial⟩ fun A1 W1 hs1 => ?_)
    refine loop_ok (Inv := fun ρ => ∃ (k : Nat), ((k ≤ m ∧ ∀ j : Nat, j < k → tcode (flat1 t j) = 0)) ∧ ρ = rhoL W.heap.size ([N, (n : Int), (m : Int), (cost S t n)] ++ [(k : Int)]) [⟨A, n * 4, flat4 S⟩, ⟨B, m, flat1 t⟩] [] []) (μ := fun ρ => m - (@Rho.i ρ 4).toNat) (a := rct1_a) (h := rct1_h) ?_ _ ⟨0, ?_, rfl⟩ A1 W1 hs1
    rotate_left
    · exact ⟨Nat.zero_le _, fun j hj => absurd hj (Nat.not_lt_zero j)⟩
    first | clear hs1 hx | clear hs1
    rintro ρ ⟨k, hinv, rfl⟩ A2 W2 hs2
    letI : Rho := rhoL W.heap.size ([N, (n : Int), (m : Int), (cost S t n)] ++ [(k : Int)]) [⟨A, n * 4, flat4 S⟩, ⟨B, m, flat1 t⟩] [] []
    obtain ⟨hk, hz⟩ := hinv
    have hmN : (m : Int) = N := f1
    by_cases f1 : (m : Int) ≤ (k : Int)
    · skip
      have hF : Facts [((.le (.var 2) (.var 4)), true)] := ⟨f_le f1 rfl rfl, trivial⟩
      refine out_run (P := Try.prog) (K := rkK 3) (fl := []) (by kernel_rfl) (rkK_ok (N := N) (n := n) (m := m) (S := S) (t := t) rfl rfl rfl rfl rfl rfl hN hmN hcn (by rw [tr_none (fun j hj => hz j (by omega))])) (facD_ok hF) hs2 (fin_run (r := (.tup [(.si .i64 (.var 3)), (.pl (.int .i64 (0)))])) (by kernel_rfl) rfl fun W' hbel => ⟨?_, hbel⟩)
      show Ending.returned (.tuple #[(.int .i64 (cost S t n)), (.int .i64 0)]) = _
      have ht0 : trR m t = (0, 0) := tr_none (fun j hj => hz j (by omega))
      unfold rtR
      rw [if_pos hmN, ht0]
      rfl
    · skip
      have f2 : (0 ≤ (k : Int)) := by
        omega
      by_cases f3 : (-1000000) ≤ (flat1 t (k : Int))
      · skip
        by_cases f4 : (flat1 t (k : Int)) ≤ 1000000
        · skip
          have f5 : (-9223372036854775808 : Int) ≤ ((k : Int) + 1) ∧ ((k : Int) + 1) ≤ 9223372036854775807 := by
            omega
          have hF : Facts [((.le (.var 2) (.var 4)), false), ((.le (.lit (0)) (.var 4)), true), ((.le (.lit (-1000000)) (.sel (.avar 1) (.var 4))), true), ((.le (.sel (.avar 1) (.var 4)) (.lit (1000000))), true), ((.inr .i64 (.add (.var 4) (.lit (1)))), true)] := ⟨f_nle f1 rfl rfl, f_le f2 rfl rfl, f_le f3 rfl rfl, f_le f4 rfl rfl, f_in f5 rfl, trivial⟩
          refine again_run (P := Try.prog) (K := noK) (fl := []) (B := 4) (a' := rct1_a) (h' := rct1_h) (ρ' := rhoL W.heap.size ([N, (n : Int), (m : Int), (cost S t n)] ++ [(((k + 1) : Nat) : Int)]) [⟨A, n * 4, flat4 S⟩, ⟨B, m, flat1 t⟩] [] []) (ds := [.int (.add (.var 4) (.lit (1))) (.var 4)]) (by kernel_rfl) noK_ok (facD_ok hF) (by kernel_rfl) (agree_list (l := [N, (n : Int), (m : Int), (cost S t n)]) (Nat.le_refl _) rfl) ⟨(show (((k : Int) + 1) : Int) = (((k + 1) : Nat) : Int) from by first | rfl | (push_cast; omega)), trivial⟩ hs2 fun A3 W3 hs3 => ⟨_, ⟨(k + 1), ?_, rfl⟩, ?_, hs3⟩
          · refine ⟨by omega, fun j hj => ?_⟩
            rcases Nat.lt_or_ge j k with g | g
            · exact hz j g
            · obtain rfl : j = k := by omega
              simp only [tcode, f1, f2, f3, f4, and_true, true_and, and_false, false_and, and_self, if_true, if_false]
          · show m - ((k + 1 : Nat) : Int).toNat < m - ((k : Nat) : Int).toNat
            omega
        · skip
          have hF : Facts [((.le (.var 2) (.var 4)), false), ((.le (.lit (0)) (.var 4)), true), ((.le (.lit (-1000000)) (.sel (.avar 1) (.var 4))), true), ((.le (.sel (.avar 1) (.var 4)) (.lit (1000000))), false)] := ⟨f_nle f1 rfl rfl, f_le f2 rfl rfl, f_le f3 rfl rfl, f_nle f4 rfl rfl, trivial⟩
          refine out_run (P := Try.prog) (K := noK) (fl := []) (by kernel_rfl) noK_ok (facD_ok hF) hs2 (fin_run (r := (.tup [(.pl (.int .i64 (0))), (.pl (.int .i64 (2)))])) (by kernel_rfl) rfl fun W' hbel => ⟨?_, hbel⟩)
          show Ending.returned (.tuple #[(.int .i64 0), (.int .i64 2)]) = _
          have ht0 : trR m t = ((k : Int), 2) := tr_hit hz (by simp only [tcode, f1, f2, f3, f4, and_true, true_and, and_false, false_and, and_self, if_true, if_false]) (by decide) (by omega)
          unfold rtR
          rw [if_pos hmN, ht0]
          rfl
      · skip
        have hF : Facts [((.le (.var 2) (.var 4)), false), ((.le (.lit (0)) (.var 4)), true), ((.le (.lit (-1000000)) (.sel (.avar 1) (.var 4))), false)] := ⟨f_nle f1 rfl rfl, f_le f2 rfl rfl, f_nle f3 rfl rfl, trivial⟩
        refine out_run (P := Try.prog) (K := noK) (fl := []) (by kernel_rfl) noK_ok (facD_ok hF) hs2 (fin_run (r := (.tup [(.pl (.int .i64 (0))), (.pl (.int .i64 (2)))])) (by kernel_rfl) rfl fun W' hbel => ⟨?_, hbel⟩)
        show Ending.returned (.tuple #[(.int .i64 0), (.int .i64 2)]) = _
        have ht0 : trR m t = ((k : Int), 2) := tr_hit hz (by simp only [tcode, f1, f2, f3, and_true, true_and, and_false, false_and, and_self, if_true, if_false]) (by decide) (by omega)
        unfold rtR
        rw [if_pos hmN, ht0]
        rfl
  · skip
    have hF : Facts [((.eq (.var 2) (.var 0)), false)] := ⟨f_ne f1 rfl rfl, trivial⟩
    refine call_start (P := Try.prog) (K := noK) (fl := []) (by kernel_rfl) (by kernel_rfl) hx hfar noK_ok (facD_ok hF) (fin_run (r := (.tup [(.pl (.int .i64 (0))), (.pl (.int .i64 (10)))])) (by kernel_rfl) rfl fun W' hbel => ⟨?_, hbel⟩)
    show Ending.returned (.tuple #[(.int .i64 0), (.int .i64 10)]) = _
    unfold rtR
    rw [if_neg f1]

end Go.Proofs.Ytmglofemnobakaa
