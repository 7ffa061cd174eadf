/- Contract: which edge is wrong first, and why. -/
import Derived.Test.YtmglofemnobakaaUmm
namespace Go.Proofs.Ytmglofemnobakaa
open Go.RowKit
set_option maxHeartbeats 4000000
set_option maxRecDepth 100000
set_option linter.unusedSimpArgs false
set_option linter.unusedVariables false



def fwe1_a : RA := { tmps := [[(.fsl 0 4 (.lit (0)) (.var 0)), (.fn 77 [] [(.fpt 1 1 (.lit (0)))]), (.pl (.tuple #[])), (.pl (.tuple #[])), (.pl (.int .i64 (0))), (.pl (.int .i64 (0))), .unk, .unk], [.unk, (.fsl 0 4 (.lit (0)) (.var 0)), (.si .i64 (.var 0)), (.si .i64 (.var 1)), .unk, .unk, .unk, .unk], [.unk, .unk, .unk, .unk, .unk, (.pl (.tuple #[])), (.pl (.tuple #[])), .unk], [(.pl (.tuple #[])), (.pl (.tuple #[])), (.pl (.tuple #[])), (.pl (.tuple #[])), (.pl (.tuple #[])), (.pl (.tuple #[])), (.pl (.tuple #[])), (.pl (.tuple #[]))]], sz := 24, dfs := [] }
def fwe1_h : RH := { bl := [], n := 0, base := 0, ch := [] }
theorem firstEdge_any (N : Int) (p : Addr) (A : Option Addr) (n c : Nat) (S : Nat → Nat → Int) (W : World) (hS : RowR W A (n * 4) (flat4 S)) (hp : RowR W (some p) 1 (kst N)) (hN : I64 N) (hN0 : 0 ≤ N) (hc : n ≤ c) (hn : n ≤ 600) :
    Calls Try.prog 76 #[.slice A n c, .func (.func 77) #[] #[.pointer (some p)]] W fun e w' => e = .returned (.tuple #[.int .i64 (feR N n S).1, .int .i64 (feR N n S).2]) ∧ Below W.heap.size W w' := by
  have hspot : p.spot = none := by
    obtain ⟨b, o, e, _⟩ := hp (by omega)
    cases e
    rfl
  have hrows : RowsIn W [⟨A, n * 4, flat4 S⟩, ⟨some p, 1, kst N⟩] := ⟨hS, hp, trivial⟩
  letI : Rho := rhoL W.heap.size ([(n : Int)]) [⟨A, n * 4, flat4 S⟩, ⟨some p, 1, kst N⟩] [] []
  have hfar : Far W := far_list hrows
  have hx : RepL (fun _ => False) (fun _ => 0) (fun _ => 0) [.fsl 0 4 (.lit 0) (.var 0), .fn 77 [] [.fpt 1 1 (.lit 0)]] (#[.slice A n c, .func (.func 77) #[] #[.pointer (some p)]] : Array Value).toList := by
    refine repL_cons'.2 ⟨by simp only [Rep]; exact fsl_row 0 4 hrows rfl rfl (by omega) rfl rfl hc, repL_one ?_⟩
    simp only [Rep]
    refine ⟨#[], #[.pointer (some p)], rfl, by simp [RepL], repL_one ?_⟩
    simp only [Rep]
    exact ⟨0, rfl, Nat.le_refl _, by obtain ⟨b, o, s⟩ := p; cases hspot; rfl⟩
  have hF : Facts [] := trivial
  refine call_start (P := Try.prog) (K := noK) (fl := []) (by kernel_rfl) (by kernel_rfl) hx hfar noK_ok (facD_ok hF) (enter_run (B := 1) (a' := fwe1_a) (h' := fwe1_h) (ρ' := rhoL W.heap.size ([(n : Int)] ++ [0]) [⟨A, n * 4, flat4 S⟩, ⟨some p, 1, kst N⟩] [] []) (ds := [.int (.lit (0)) (.var 1)]) (c := (loopIn (bodyC Try.prog 76) 0)) (by kernel_rfl) (by kernel_rfl) rfl (agree_list (l := [(n : Int)]) (x := []) (Nat.le_refl _) rfl) ⟨rfl, trivial⟩ fun A1 W1 hs1 => ?_)
  refine loop_ok (Inv := fun ρ => ∃ (k : Nat), (k ≤ n ∧ ∀ j, j < k → ec N S j = 0) ∧ ρ = rhoL W.heap.size ([(n : Int)] ++ [(k : Int)]) [⟨A, n * 4, flat4 S⟩, ⟨some p, 1, kst N⟩] [] []) (μ := fun ρ => n - (@Rho.i ρ 1).toNat) (a := fwe1_a) (h := fwe1_h) ?_ _ ⟨0, ?_, rfl⟩ A1 W1 hs1
  rotate_left
  · exact ⟨Nat.zero_le _, fun j hj => absurd hj (Nat.not_lt_zero j)⟩
  first | clear hs1 hx | clear hs1
  rintro ρ ⟨k, hinv, rfl⟩ A2 W2 hs2
  letI : Rho := rhoL W.heap.size ([(n : Int)] ++ [(k : Int)]) [⟨A, n * 4, flat4 S⟩, ⟨some p, 1, kst N⟩] [] []
  obtain ⟨hk, hz⟩ := hinv
  by_cases f1 : (n : Int) ≤ (k : Int)
  · skip
    have hF : Facts [((.le (.var 0) (.var 1)), true)] := ⟨f_le f1 rfl rfl, trivial⟩
    refine out_run (P := Try.prog) (K := noK) (fl := []) (by kernel_rfl) noK_ok (facD_ok hF) hs2 (fin_run (r := (.tup [(.pl (.int .i64 (0))), (.pl (.int .i64 (0)))])) (by kernel_rfl) rfl fun W' hbel => ⟨?_, hbel⟩)
    show Ending.returned (.tuple #[(.int .i64 0), (.int .i64 0)]) = _
    rw [fe_none (fun j hj => hz j (by omega))]
  · skip
    have f2 : (0 ≤ (k : Int)) := by
      unfold I64 at hN; (try simp only [kst]); omega
    have f3 : (-9223372036854775808 : Int) ≤ ((kst N 0) + (-1)) ∧ ((kst N 0) + (-1)) ≤ 9223372036854775807 := by
      unfold I64 at hN; (try simp only [kst]); omega
    by_cases f4 : 0 ≤ (flat4 S ((k : Int) * 4))
    · skip
      by_cases f5 : (flat4 S ((k : Int) * 4)) ≤ ((kst N 0) + (-1))
      · skip
        by_cases f6 : 0 ≤ (flat4 S (((k : Int) * 4) + 1))
        · skip
          by_cases f7 : (flat4 S (((k : Int) * 4) + 1)) ≤ ((kst N 0) + (-1))
          · skip
            by_cases f8 : (flat4 S ((k : Int) * 4)) = (flat4 S (((k : Int) * 4) + 1))
            · skip
              have hF : Facts [((.le (.var 0) (.var 1)), false), ((.le (.lit (0)) (.var 1)), true), ((.inr .i64 (.add (.sel (.avar 1) (.lit (0))) (.lit (-1)))), true), ((.le (.lit (0)) (.sel (.avar 0) (.mul (.var 1) (.lit (4))))), true), ((.le (.sel (.avar 0) (.mul (.var 1) (.lit (4)))) (.add (.sel (.avar 1) (.lit (0))) (.lit (-1)))), true), ((.le (.lit (0)) (.sel (.avar 0) (.add (.mul (.var 1) (.lit (4))) (.lit (1))))), true), ((.le (.sel (.avar 0) (.add (.mul (.var 1) (.lit (4))) (.lit (1)))) (.add (.sel (.avar 1) (.lit (0))) (.lit (-1)))), true), ((.eq (.sel (.avar 0) (.mul (.var 1) (.lit (4)))) (.sel (.avar 0) (.add (.mul (.var 1) (.lit (4))) (.lit (1))))), true)] := ⟨f_nle f1 rfl rfl, f_le f2 rfl rfl, f_in f3 rfl, f_le f4 rfl rfl, f_le f5 rfl rfl, f_le f6 rfl rfl, f_le f7 rfl rfl, f_eq f8 rfl rfl, trivial⟩
              refine out_run (P := Try.prog) (K := noK) (fl := []) (by kernel_rfl) noK_ok (facD_ok hF) hs2 (fin_run (r := (.tup [(.si .i64 (.var 1)), (.pl (.int .i64 (3)))])) (by kernel_rfl) rfl fun W' hbel => ⟨?_, hbel⟩)
              show Ending.returned (.tuple #[(.int .i64 (k : Int)), (.int .i64 3)]) = _
              simp only [kst] at *
              rw [fe_hit' (c := 3) hz (by simp only [ec, ecode, f1, f2, f4, f5, f6, f7, f8, and_true, true_and, and_false, false_and, and_self, if_true, if_false]) (by decide) (by omega)]
            · skip
              by_cases f9 : (-1000) ≤ (flat4 S (((k : Int) * 4) + 2))
              · skip
                by_cases f10 : (flat4 S (((k : Int) * 4) + 2)) ≤ 1000
                · skip
                  by_cases f11 : 0 ≤ (flat4 S (((k : Int) * 4) + 3))
                  · skip
                    by_cases f12 : (flat4 S (((k : Int) * 4) + 3)) ≤ 1000
                    · skip
                      have f13 : (-9223372036854775808 : Int) ≤ ((k : Int) + 1) ∧ ((k : Int) + 1) ≤ 9223372036854775807 := by
                        unfold I64 at hN; (try simp only [kst]); omega
                      have hF : Facts [((.le (.var 0) (.var 1)), false), ((.le (.lit (0)) (.var 1)), true), ((.inr .i64 (.add (.sel (.avar 1) (.lit (0))) (.lit (-1)))), true), ((.le (.lit (0)) (.sel (.avar 0) (.mul (.var 1) (.lit (4))))), true), ((.le (.sel (.avar 0) (.mul (.var 1) (.lit (4)))) (.add (.sel (.avar 1) (.lit (0))) (.lit (-1)))), true), ((.le (.lit (0)) (.sel (.avar 0) (.add (.mul (.var 1) (.lit (4))) (.lit (1))))), true), ((.le (.sel (.avar 0) (.add (.mul (.var 1) (.lit (4))) (.lit (1)))) (.add (.sel (.avar 1) (.lit (0))) (.lit (-1)))), true), ((.eq (.sel (.avar 0) (.mul (.var 1) (.lit (4)))) (.sel (.avar 0) (.add (.mul (.var 1) (.lit (4))) (.lit (1))))), false), ((.le (.lit (-1000)) (.sel (.avar 0) (.add (.mul (.var 1) (.lit (4))) (.lit (2))))), true), ((.le (.sel (.avar 0) (.add (.mul (.var 1) (.lit (4))) (.lit (2)))) (.lit (1000))), true), ((.le (.lit (0)) (.sel (.avar 0) (.add (.mul (.var 1) (.lit (4))) (.lit (3))))), true), ((.le (.sel (.avar 0) (.add (.mul (.var 1) (.lit (4))) (.lit (3)))) (.lit (1000))), true), ((.inr .i64 (.add (.var 1) (.lit (1)))), true)] := ⟨f_nle f1 rfl rfl, f_le f2 rfl rfl, f_in f3 rfl, f_le f4 rfl rfl, f_le f5 rfl rfl, f_le f6 rfl rfl, f_le f7 rfl rfl, f_ne f8 rfl rfl, f_le f9 rfl rfl, f_le f10 rfl rfl, f_le f11 rfl rfl, f_le f12 rfl rfl, f_in f13 rfl, trivial⟩
                      refine again_run (P := Try.prog) (K := noK) (fl := []) (B := 1) (a' := fwe1_a) (h' := fwe1_h) (ρ' := rhoL W.heap.size ([(n : Int)] ++ [(((k + 1) : Nat) : Int)]) [⟨A, n * 4, flat4 S⟩, ⟨some p, 1, kst N⟩] [] []) (ds := [.int (.add (.var 1) (.lit (1))) (.var 1)]) (by kernel_rfl) noK_ok (facD_ok hF) (by kernel_rfl) (agree_list (l := [(n : Int)]) (Nat.le_refl _) rfl) ⟨(show (((k : Int) + 1) : Int) = (((k + 1) : Nat) : Int) from by first | rfl | (push_cast; omega)), trivial⟩ hs2 fun A3 W3 hs3 => ⟨_, ⟨(k + 1), ?_, rfl⟩, ?_, hs3⟩
                      · refine ⟨by omega, fun j hj => ?_⟩
                        rcases Nat.lt_or_ge j k with g | g
                        · exact hz j g
                        · obtain rfl : j = k := by omega
                          simp only [kst] at *
                          simp only [ec, ecode, f1, f2, f4, f5, f6, f7, f8, f9, f10, f11, f12, and_true, true_and, and_false, false_and, and_self, if_true, if_false]
                      · show n - ((k + 1 : Nat) : Int).toNat < n - ((k : Nat) : Int).toNat
                        omega
                    · skip
                      have hF : Facts [((.le (.var 0) (.var 1)), false), ((.le (.lit (0)) (.var 1)), true), ((.inr .i64 (.add (.sel (.avar 1) (.lit (0))) (.lit (-1)))), true), ((.le (.lit (0)) (.sel (.avar 0) (.mul (.var 1) (.lit (4))))), true), ((.le (.sel (.avar 0) (.mul (.var 1) (.lit (4)))) (.add (.sel (.avar 1) (.lit (0))) (.lit (-1)))), true), ((.le (.lit (0)) (.sel (.avar 0) (.add (.mul (.var 1) (.lit (4))) (.lit (1))))), true), ((.le (.sel (.avar 0) (.add (.mul (.var 1) (.lit (4))) (.lit (1)))) (.add (.sel (.avar 1) (.lit (0))) (.lit (-1)))), true), ((.eq (.sel (.avar 0) (.mul (.var 1) (.lit (4)))) (.sel (.avar 0) (.add (.mul (.var 1) (.lit (4))) (.lit (1))))), false), ((.le (.lit (-1000)) (.sel (.avar 0) (.add (.mul (.var 1) (.lit (4))) (.lit (2))))), true), ((.le (.sel (.avar 0) (.add (.mul (.var 1) (.lit (4))) (.lit (2)))) (.lit (1000))), true), ((.le (.lit (0)) (.sel (.avar 0) (.add (.mul (.var 1) (.lit (4))) (.lit (3))))), true), ((.le (.sel (.avar 0) (.add (.mul (.var 1) (.lit (4))) (.lit (3)))) (.lit (1000))), false)] := ⟨f_nle f1 rfl rfl, f_le f2 rfl rfl, f_in f3 rfl, f_le f4 rfl rfl, f_le f5 rfl rfl, f_le f6 rfl rfl, f_le f7 rfl rfl, f_ne f8 rfl rfl, f_le f9 rfl rfl, f_le f10 rfl rfl, f_le f11 rfl rfl, f_nle f12 rfl rfl, trivial⟩
                      refine out_run (P := Try.prog) (K := noK) (fl := []) (by kernel_rfl) noK_ok (facD_ok hF) hs2 (fin_run (r := (.tup [(.si .i64 (.var 1)), (.pl (.int .i64 (2)))])) (by kernel_rfl) rfl fun W' hbel => ⟨?_, hbel⟩)
                      show Ending.returned (.tuple #[(.int .i64 (k : Int)), (.int .i64 2)]) = _
                      simp only [kst] at *
                      rw [fe_hit' (c := 2) hz (by simp only [ec, ecode, f1, f2, f4, f5, f6, f7, f8, f9, f10, f11, f12, and_true, true_and, and_false, false_and, and_self, if_true, if_false]) (by decide) (by omega)]
                  · skip
                    have hF : Facts [((.le (.var 0) (.var 1)), false), ((.le (.lit (0)) (.var 1)), true), ((.inr .i64 (.add (.sel (.avar 1) (.lit (0))) (.lit (-1)))), true), ((.le (.lit (0)) (.sel (.avar 0) (.mul (.var 1) (.lit (4))))), true), ((.le (.sel (.avar 0) (.mul (.var 1) (.lit (4)))) (.add (.sel (.avar 1) (.lit (0))) (.lit (-1)))), true), ((.le (.lit (0)) (.sel (.avar 0) (.add (.mul (.var 1) (.lit (4))) (.lit (1))))), true), ((.le (.sel (.avar 0) (.add (.mul (.var 1) (.lit (4))) (.lit (1)))) (.add (.sel (.avar 1) (.lit (0))) (.lit (-1)))), true), ((.eq (.sel (.avar 0) (.mul (.var 1) (.lit (4)))) (.sel (.avar 0) (.add (.mul (.var 1) (.lit (4))) (.lit (1))))), false), ((.le (.lit (-1000)) (.sel (.avar 0) (.add (.mul (.var 1) (.lit (4))) (.lit (2))))), true), ((.le (.sel (.avar 0) (.add (.mul (.var 1) (.lit (4))) (.lit (2)))) (.lit (1000))), true), ((.le (.lit (0)) (.sel (.avar 0) (.add (.mul (.var 1) (.lit (4))) (.lit (3))))), false)] := ⟨f_nle f1 rfl rfl, f_le f2 rfl rfl, f_in f3 rfl, f_le f4 rfl rfl, f_le f5 rfl rfl, f_le f6 rfl rfl, f_le f7 rfl rfl, f_ne f8 rfl rfl, f_le f9 rfl rfl, f_le f10 rfl rfl, f_nle f11 rfl rfl, trivial⟩
                    refine out_run (P := Try.prog) (K := noK) (fl := []) (by kernel_rfl) noK_ok (facD_ok hF) hs2 (fin_run (r := (.tup [(.si .i64 (.var 1)), (.pl (.int .i64 (2)))])) (by kernel_rfl) rfl fun W' hbel => ⟨?_, hbel⟩)
                    show Ending.returned (.tuple #[(.int .i64 (k : Int)), (.int .i64 2)]) = _
                    simp only [kst] at *
                    rw [fe_hit' (c := 2) hz (by simp only [ec, ecode, f1, f2, f4, f5, f6, f7, f8, f9, f10, f11, and_true, true_and, and_false, false_and, and_self, if_true, if_false]) (by decide) (by omega)]
                · skip
                  by_cases f11 : 0 ≤ (flat4 S (((k : Int) * 4) + 3))
                  · skip
                    by_cases f12 : (flat4 S (((k : Int) * 4) + 3)) ≤ 1000
                    · skip
                      have hF : Facts [((.le (.var 0) (.var 1)), false), ((.le (.lit (0)) (.var 1)), true), ((.inr .i64 (.add (.sel (.avar 1) (.lit (0))) (.lit (-1)))), true), ((.le (.lit (0)) (.sel (.avar 0) (.mul (.var 1) (.lit (4))))), true), ((.le (.sel (.avar 0) (.mul (.var 1) (.lit (4)))) (.add (.sel (.avar 1) (.lit (0))) (.lit (-1)))), true), ((.le (.lit (0)) (.sel (.avar 0) (.add (.mul (.var 1) (.lit (4))) (.lit (1))))), true), ((.le (.sel (.avar 0) (.add (.mul (.var 1) (.lit (4))) (.lit (1)))) (.add (.sel (.avar 1) (.lit (0))) (.lit (-1)))), true), ((.eq (.sel (.avar 0) (.mul (.var 1) (.lit (4)))) (.sel (.avar 0) (.add (.mul (.var 1) (.lit (4))) (.lit (1))))), false), ((.le (.lit (-1000)) (.sel (.avar 0) (.add (.mul (.var 1) (.lit (4))) (.lit (2))))), true), ((.le (.sel (.avar 0) (.add (.mul (.var 1) (.lit (4))) (.lit (2)))) (.lit (1000))), false), ((.le (.lit (0)) (.sel (.avar 0) (.add (.mul (.var 1) (.lit (4))) (.lit (3))))), true), ((.le (.sel (.avar 0) (.add (.mul (.var 1) (.lit (4))) (.lit (3)))) (.lit (1000))), true)] := ⟨f_nle f1 rfl rfl, f_le f2 rfl rfl, f_in f3 rfl, f_le f4 rfl rfl, f_le f5 rfl rfl, f_le f6 rfl rfl, f_le f7 rfl rfl, f_ne f8 rfl rfl, f_le f9 rfl rfl, f_nle f10 rfl rfl, f_le f11 rfl rfl, f_le f12 rfl rfl, trivial⟩
                      refine out_run (P := Try.prog) (K := noK) (fl := []) (by kernel_rfl) noK_ok (facD_ok hF) hs2 (fin_run (r := (.tup [(.si .i64 (.var 1)), (.pl (.int .i64 (2)))])) (by kernel_rfl) rfl fun W' hbel => ⟨?_, hbel⟩)
                      show Ending.returned (.tuple #[(.int .i64 (k : Int)), (.int .i64 2)]) = _
                      simp only [kst] at *
                      rw [fe_hit' (c := 2) hz (by simp only [ec, ecode, f1, f2, f4, f5, f6, f7, f8, f9, f10, f11, f12, and_true, true_and, and_false, false_and, and_self, if_true, if_false]) (by decide) (by omega)]
                    · skip
                      have hF : Facts [((.le (.var 0) (.var 1)), false), ((.le (.lit (0)) (.var 1)), true), ((.inr .i64 (.add (.sel (.avar 1) (.lit (0))) (.lit (-1)))), true), ((.le (.lit (0)) (.sel (.avar 0) (.mul (.var 1) (.lit (4))))), true), ((.le (.sel (.avar 0) (.mul (.var 1) (.lit (4)))) (.add (.sel (.avar 1) (.lit (0))) (.lit (-1)))), true), ((.le (.lit (0)) (.sel (.avar 0) (.add (.mul (.var 1) (.lit (4))) (.lit (1))))), true), ((.le (.sel (.avar 0) (.add (.mul (.var 1) (.lit (4))) (.lit (1)))) (.add (.sel (.avar 1) (.lit (0))) (.lit (-1)))), true), ((.eq (.sel (.avar 0) (.mul (.var 1) (.lit (4)))) (.sel (.avar 0) (.add (.mul (.var 1) (.lit (4))) (.lit (1))))), false), ((.le (.lit (-1000)) (.sel (.avar 0) (.add (.mul (.var 1) (.lit (4))) (.lit (2))))), true), ((.le (.sel (.avar 0) (.add (.mul (.var 1) (.lit (4))) (.lit (2)))) (.lit (1000))), false), ((.le (.lit (0)) (.sel (.avar 0) (.add (.mul (.var 1) (.lit (4))) (.lit (3))))), true), ((.le (.sel (.avar 0) (.add (.mul (.var 1) (.lit (4))) (.lit (3)))) (.lit (1000))), false)] := ⟨f_nle f1 rfl rfl, f_le f2 rfl rfl, f_in f3 rfl, f_le f4 rfl rfl, f_le f5 rfl rfl, f_le f6 rfl rfl, f_le f7 rfl rfl, f_ne f8 rfl rfl, f_le f9 rfl rfl, f_nle f10 rfl rfl, f_le f11 rfl rfl, f_nle f12 rfl rfl, trivial⟩
                      refine out_run (P := Try.prog) (K := noK) (fl := []) (by kernel_rfl) noK_ok (facD_ok hF) hs2 (fin_run (r := (.tup [(.si .i64 (.var 1)), (.pl (.int .i64 (2)))])) (by kernel_rfl) rfl fun W' hbel => ⟨?_, hbel⟩)
                      show Ending.returned (.tuple #[(.int .i64 (k : Int)), (.int .i64 2)]) = _
                      simp only [kst] at *
                      rw [fe_hit' (c := 2) hz (by simp only [ec, ecode, f1, f2, f4, f5, f6, f7, f8, f9, f10, f11, f12, and_true, true_and, and_false, false_and, and_self, if_true, if_false]) (by decide) (by omega)]
                  · skip
                    have hF : Facts [((.le (.var 0) (.var 1)), false), ((.le (.lit (0)) (.var 1)), true), ((.inr .i64 (.add (.sel (.avar 1) (.lit (0))) (.lit (-1)))), true), ((.le (.lit (0)) (.sel (.avar 0) (.mul (.var 1) (.lit (4))))), true), ((.le (.sel (.avar 0) (.mul (.var 1) (.lit (4)))) (.add (.sel (.avar 1) (.lit (0))) (.lit (-1)))), true), ((.le (.lit (0)) (.sel (.avar 0) (.add (.mul (.var 1) (.lit (4))) (.lit (1))))), true), ((.le (.sel (.avar 0) (.add (.mul (.var 1) (.lit (4))) (.lit (1)))) (.add (.sel (.avar 1) (.lit (0))) (.lit (-1)))), true), ((.eq (.sel (.avar 0) (.mul (.var 1) (.lit (4)))) (.sel (.avar 0) (.add (.mul (.var 1) (.lit (4))) (.lit (1))))), false), ((.le (.lit (-1000)) (.sel (.avar 0) (.add (.mul (.var 1) (.lit (4))) (.lit (2))))), true), ((.le (.sel (.avar 0) (.add (.mul (.var 1) (.lit (4))) (.lit (2)))) (.lit (1000))), false), ((.le (.lit (0)) (.sel (.avar 0) (.add (.mul (.var 1) (.lit (4))) (.lit (3))))), false)] := ⟨f_nle f1 rfl rfl, f_le f2 rfl rfl, f_in f3 rfl, f_le f4 rfl rfl, f_le f5 rfl rfl, f_le f6 rfl rfl, f_le f7 rfl rfl, f_ne f8 rfl rfl, f_le f9 rfl rfl, f_nle f10 rfl rfl, f_nle f11 rfl rfl, trivial⟩
                    refine out_run (P := Try.prog) (K := noK) (fl := []) (by kernel_rfl) noK_ok (facD_ok hF) hs2 (fin_run (r := (.tup [(.si .i64 (.var 1)), (.pl (.int .i64 (2)))])) (by kernel_rfl) rfl fun W' hbel => ⟨?_, hbel⟩)
                    show Ending.returned (.tuple #[(.int .i64 (k : Int)), (.int .i64 2)]) = _
                    simp only [kst] at *
                    rw [fe_hit' (c := 2) hz (by simp only [ec, ecode, f1, f2, f4, f5, f6, f7, f8, f9, f10, f11, and_true, true_and, and_false, false_and, and_self, if_true, if_false]) (by decide) (by omega)]
              · skip
                by_cases f10 : 0 ≤ (flat4 S (((k : Int) * 4) + 3))
                · skip
                  by_cases f11 : (flat4 S (((k : Int) * 4) + 3)) ≤ 1000
                  · skip
                    have hF : Facts [((.le (.var 0) (.var 1)), false), ((.le (.lit (0)) (.var 1)), true), ((.inr .i64 (.add (.sel (.avar 1) (.lit (0))) (.lit (-1)))), true), ((.le (.lit (0)) (.sel (.avar 0) (.mul (.var 1) (.lit (4))))), true), ((.le (.sel (.avar 0) (.mul (.var 1) (.lit (4)))) (.add (.sel (.avar 1) (.lit (0))) (.lit (-1)))), true), ((.le (.lit (0)) (.sel (.avar 0) (.add (.mul (.var 1) (.lit (4))) (.lit (1))))), true), ((.le (.sel (.avar 0) (.add (.mul (.var 1) (.lit (4))) (.lit (1)))) (.add (.sel (.avar 1) (.lit (0))) (.lit (-1)))), true), ((.eq (.sel (.avar 0) (.mul (.var 1) (.lit (4)))) (.sel (.avar 0) (.add (.mul (.var 1) (.lit (4))) (.lit (1))))), false), ((.le (.lit (-1000)) (.sel (.avar 0) (.add (.mul (.var 1) (.lit (4))) (.lit (2))))), false), ((.le (.lit (0)) (.sel (.avar 0) (.add (.mul (.var 1) (.lit (4))) (.lit (3))))), true), ((.le (.sel (.avar 0) (.add (.mul (.var 1) (.lit (4))) (.lit (3)))) (.lit (1000))), true)] := ⟨f_nle f1 rfl rfl, f_le f2 rfl rfl, f_in f3 rfl, f_le f4 rfl rfl, f_le f5 rfl rfl, f_le f6 rfl rfl, f_le f7 rfl rfl, f_ne f8 rfl rfl, f_nle f9 rfl rfl, f_le f10 rfl rfl, f_le f11 rfl rfl, trivial⟩
                    refine out_run (P := Try.prog) (K := noK) (fl := []) (by kernel_rfl) noK_ok (facD_ok hF) hs2 (fin_run (r := (.tup [(.si .i64 (.var 1)), (.pl (.int .i64 (2)))])) (by kernel_rfl) rfl fun W' hbel => ⟨?_, hbel⟩)
                    show Ending.returned (.tuple #[(.int .i64 (k : Int)), (.int .i64 2)]) = _
                    simp only [kst] at *
                    rw [fe_hit' (c := 2) hz (by simp only [ec, ecode, f1, f2, f4, f5, f6, f7, f8, f9, f10, f11, and_true, true_and, and_false, false_and, and_self, if_true, if_false]) (by decide) (by omega)]
                  · skip
                    have hF : Facts [((.le (.var 0) (.var 1)), false), ((.le (.lit (0)) (.var 1)), true), ((.inr .i64 (.add (.sel (.avar 1) (.lit (0))) (.lit (-1)))), true), ((.le (.lit (0)) (.sel (.avar 0) (.mul (.var 1) (.lit (4))))), true), ((.le (.sel (.avar 0) (.mul (.var 1) (.lit (4)))) (.add (.sel (.avar 1) (.lit (0))) (.lit (-1)))), true), ((.le (.lit (0)) (.sel (.avar 0) (.add (.mul (.var 1) (.lit (4))) (.lit (1))))), true), ((.le (.sel (.avar 0) (.add (.mul (.var 1) (.lit (4))) (.lit (1)))) (.add (.sel (.avar 1) (.lit (0))) (.lit (-1)))), true), ((.eq (.sel (.avar 0) (.mul (.var 1) (.lit (4)))) (.sel (.avar 0) (.add (.mul (.var 1) (.lit (4))) (.lit (1))))), false), ((.le (.lit (-1000)) (.sel (.avar 0) (.add (.mul (.var 1) (.lit (4))) (.lit (2))))), false), ((.le (.lit (0)) (.sel (.avar 0) (.add (.mul (.var 1) (.lit (4))) (.lit (3))))), true), ((.le (.sel (.avar 0) (.add (.mul (.var 1) (.lit (4))) (.lit (3)))) (.lit (1000))), false)] := ⟨f_nle f1 rfl rfl, f_le f2 rfl rfl, f_in f3 rfl, f_le f4 rfl rfl, f_le f5 rfl rfl, f_le f6 rfl rfl, f_le f7 rfl rfl, f_ne f8 rfl rfl, f_nle f9 rfl rfl, f_le f10 rfl rfl, f_nle f11 rfl rfl, trivial⟩
                    refine out_run (P := Try.prog) (K := noK) (fl := []) (by kernel_rfl) noK_ok (facD_ok hF) hs2 (fin_run (r := (.tup [(.si .i64 (.var 1)), (.pl (.int .i64 (2)))])) (by kernel_rfl) rfl fun W' hbel => ⟨?_, hbel⟩)
                    show Ending.returned (.tuple #[(.int .i64 (k : Int)), (.int .i64 2)]) = _
                    simp only [kst] at *
                    rw [fe_hit' (c := 2) hz (by simp only [ec, ecode, f1, f2, f4, f5, f6, f7, f8, f9, f10, f11, and_true, true_and, and_false, false_and, and_self, if_true, if_false]) (by decide) (by omega)]
                · skip
                  have hF : Facts [((.le (.var 0) (.var 1)), false), ((.le (.lit (0)) (.var 1)), true), ((.inr .i64 (.add (.sel (.avar 1) (.lit (0))) (.lit (-1)))), true), ((.le (.lit (0)) (.sel (.avar 0) (.mul (.var 1) (.lit (4))))), true), ((.le (.sel (.avar 0) (.mul (.var 1) (.lit (4)))) (.add (.sel (.avar 1) (.lit (0))) (.lit (-1)))), true), ((.le (.lit (0)) (.sel (.avar 0) (.add (.mul (.var 1) (.lit (4))) (.lit (1))))), true), ((.le (.sel (.avar 0) (.add (.mul (.var 1) (.lit (4))) (.lit (1)))) (.add (.sel (.avar 1) (.lit (0))) (.lit (-1)))), true), ((.eq (.sel (.avar 0) (.mul (.var 1) (.lit (4)))) (.sel (.avar 0) (.add (.mul (.var 1) (.lit (4))) (.lit (1))))), false), ((.le (.lit (-1000)) (.sel (.avar 0) (.add (.mul (.var 1) (.lit (4))) (.lit (2))))), false), ((.le (.lit (0)) (.sel (.avar 0) (.add (.mul (.var 1) (.lit (4))) (.lit (3))))), false)] := ⟨f_nle f1 rfl rfl, f_le f2 rfl rfl, f_in f3 rfl, f_le f4 rfl rfl, f_le f5 rfl rfl, f_le f6 rfl rfl, f_le f7 rfl rfl, f_ne f8 rfl rfl, f_nle f9 rfl rfl, f_nle f10 rfl rfl, trivial⟩
                  refine out_run (P := Try.prog) (K := noK) (fl := []) (by kernel_rfl) noK_ok (facD_ok hF) hs2 (fin_run (r := (.tup [(.si .i64 (.var 1)), (.pl (.int .i64 (2)))])) (by kernel_rfl) rfl fun W' hbel => ⟨?_, hbel⟩)
                  show Ending.returned (.tuple #[(.int .i64 (k : Int)), (.int .i64 2)]) = _
                  simp only [kst] at *
                  rw [fe_hit' (c := 2) hz (by simp only [ec, ecode, f1, f2, f4, f5, f6, f7, f8, f9, f10, and_true, true_and, and_false, false_and, and_self, if_true, if_false]) (by decide) (by omega)]
          · skip
            have hF : Facts [((.le (.var 0) (.var 1)), false), ((.le (.lit (0)) (.var 1)), true), ((.inr .i64 (.add (.sel (.avar 1) (.lit (0))) (.lit (-1)))), true), ((.le (.lit (0)) (.sel (.avar 0) (.mul (.var 1) (.lit (4))))), true), ((.le (.sel (.avar 0) (.mul (.var 1) (.lit (4)))) (.add (.sel (.avar 1) (.lit (0))) (.lit (-1)))), true), ((.le (.lit (0)) (.sel (.avar 0) (.add (.mul (.var 1) (.lit (4))) (.lit (1))))), true), ((.le (.sel (.avar 0) (.add (.mul (.var 1) (.lit (4))) (.lit (1)))) (.add (.sel (.avar 1) (.lit (0))) (.lit (-1)))), false)] := ⟨f_nle f1 rfl rfl, f_le f2 rfl rfl, f_in f3 rfl, f_le f4 rfl rfl, f_le f5 rfl rfl, f_le f6 rfl rfl, f_nle f7 rfl rfl, trivial⟩
            refine out_run (P := Try.prog) (K := noK) (fl := []) (by kernel_rfl) noK_ok (facD_ok hF) hs2 (fin_run (r := (.tup [(.si .i64 (.var 1)), (.pl (.int .i64 (6)))])) (by kernel_rfl) rfl fun W' hbel => ⟨?_, hbel⟩)
            show Ending.returned (.tuple #[(.int .i64 (k : Int)), (.int .i64 6)]) = _
            simp only [kst] at *
            rw [fe_hit' (c := 6) hz (by simp only [ec, ecode, f1, f2, f4, f5, f6, f7, and_true, true_and, and_false, false_and, and_self, if_true, if_false]) (by decide) (by omega)]
        · skip
          have hF : Facts [((.le (.var 0) (.var 1)), false), ((.le (.lit (0)) (.var 1)), true), ((.inr .i64 (.add (.sel (.avar 1) (.lit (0))) (.lit (-1)))), true), ((.le (.lit (0)) (.sel (.avar 0) (.mul (.var 1) (.lit (4))))), true), ((.le (.sel (.avar 0) (.mul (.var 1) (.lit (4)))) (.add (.sel (.avar 1) (.lit (0))) (.lit (-1)))), true), ((.le (.lit (0)) (.sel (.avar 0) (.add (.mul (.var 1) (.lit (4))) (.lit (1))))), false)] := ⟨f_nle f1 rfl rfl, f_le f2 rfl rfl, f_in f3 rfl, f_le f4 rfl rfl, f_le f5 rfl rfl, f_nle f6 rfl rfl, trivial⟩
          refine out_run (P := Try.prog) (K := noK) (fl := []) (by kernel_rfl) noK_ok (facD_ok hF) hs2 (fin_run (r := (.tup [(.si .i64 (.var 1)), (.pl (.int .i64 (6)))])) (by kernel_rfl) rfl fun W' hbel => ⟨?_, hbel⟩)
          show Ending.returned (.tuple #[(.int .i64 (k : Int)), (.int .i64 6)]) = _
          simp only [kst] at *
          rw [fe_hit' (c := 6) hz (by simp only [ec, ecode, f1, f2, f4, f5, f6, and_true, true_and, and_false, false_and, and_self, if_true, if_false]) (by decide) (by omega)]
      · skip
        have hF : Facts [((.le (.var 0) (.var 1)), false), ((.le (.lit (0)) (.var 1)), true), ((.inr .i64 (.add (.sel (.avar 1) (.lit (0))) (.lit (-1)))), true), ((.le (.lit (0)) (.sel (.avar 0) (.mul (.var 1) (.lit (4))))), true), ((.le (.sel (.avar 0) (.mul (.var 1) (.lit (4)))) (.add (.sel (.avar 1) (.lit (0))) (.lit (-1)))), false)] := ⟨f_nle f1 rfl rfl, f_le f2 rfl rfl, f_in f3 rfl, f_le f4 rfl rfl, f_nle f5 rfl rfl, trivial⟩
        refine out_run (P := Try.prog) (K := noK) (fl := []) (by kernel_rfl) noK_ok (facD_ok hF) hs2 (fin_run (r := (.tup [(.si .i64 (.var 1)), (.pl (.int .i64 (6)))])) (by kernel_rfl) rfl fun W' hbel => ⟨?_, hbel⟩)
        show Ending.returned (.tuple #[(.int .i64 (k : Int)), (.int .i64 6)]) = _
        simp only [kst] at *
        rw [fe_hit' (c := 6) hz (by simp only [ec, ecode, f1, f2, f4, f5, and_true, true_and, and_false, false_and, and_self, if_true, if_false]) (by decide) (by omega)]
    · skip
      have hF : Facts [((.le (.var 0) (.var 1)), false), ((.le (.lit (0)) (.var 1)), true), ((.inr .i64 (.add (.sel (.avar 1) (.lit (0))) (.lit (-1)))), true), ((.le (.lit (0)) (.sel (.avar 0) (.mul (.var 1) (.lit (4))))), false)] := ⟨f_nle f1 rfl rfl, f_le f2 rfl rfl, f_in f3 rfl, f_nle f4 rfl rfl, trivial⟩
      refine out_run (P := Try.prog) (K := noK) (fl := []) (by kernel_rfl) noK_ok (facD_ok hF) hs2 (fin_run (r := (.tup [(.si .i64 (.var 1)), (.pl (.int .i64 (6)))])) (by kernel_rfl) rfl fun W' hbel => ⟨?_, hbel⟩)
      show Ending.returned (.tuple #[(.int .i64 (k : Int)), (.int .i64 6)]) = _
      simp only [kst] at *
      rw [fe_hit' (c := 6) hz (by simp only [ec, ecode, f1, f2, f4, and_true, true_and, and_false, false_and, and_self, if_true, if_false]) (by decide) (by omega)]

end Go.Proofs.Ytmglofemnobakaa
