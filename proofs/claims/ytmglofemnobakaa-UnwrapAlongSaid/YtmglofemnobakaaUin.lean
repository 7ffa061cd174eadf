/- Contract: two lists of the same numbers are the same. -/
import Derived.Test.YtmglofemnobakaaSyw
namespace Go.Proofs.Ytmglofemnobakaa
open Go.RowKit
set_option maxHeartbeats 4000000
set_option maxRecDepth 100000
set_option linter.unusedSimpArgs false
set_option linter.unusedVariables false



def uin1_a : RA := { tmps := [[(.fsl 0 1 (.lit (0)) (.var 0)), (.fsl 1 1 (.lit (0)) (.var 1)), (.pl (.tuple #[])), (.pl (.tuple #[])), (.pl (.bool false)), (.si .i64 (.var 2)), (.fsl 0 1 (.lit (0)) (.var 0)), (.si .i64 (.var 0))], [(.fsl 1 1 (.lit (0)) (.var 1)), (.si .i64 (.var 1)), (.sb (.not (.eq (.var 0) (.var 1)))), .unk, .unk, .unk, .unk, .unk], [.unk, .unk, .unk, .unk, .unk, .unk, .unk, .unk], [.unk, .unk, (.pl (.tuple #[])), (.pl (.tuple #[])), (.pl (.tuple #[])), (.pl (.tuple #[])), (.pl (.tuple #[])), (.pl (.tuple #[]))]], sz := 26, dfs := [] }
def uin1_h : RH := { bl := [], n := 0, base := 0, ch := [] }
theorem ints_same (F G : Int → Int) (A B : Option Addr) (n c m d : Nat) (W : World) (hF : RowR W A n F) (hG : RowR W B m G) (hc : n ≤ c) (hd : m ≤ d) (hn : n ≤ 9223372036854775807) (hnm : n = m) (hFG : ∀ j : Nat, j < n → F (j : Int) = G (j : Int)) :
    Calls Try.prog 20 #[.slice A n c, .slice B m d] W fun e w' => e = .returned (.bool true) ∧ Below W.heap.size W w' := by
  skip
  have hrows : RowsIn W [⟨A, n, F⟩, ⟨B, m, G⟩] := ⟨hF, hG, trivial⟩
  letI : Rho := rhoL W.heap.size ([(n : Int), (m : Int)]) [⟨A, n, F⟩, ⟨B, m, G⟩] [] []
  have hfar : Far W := far_list hrows
  have hx : RepL (fun _ => False) (fun _ => 0) (fun _ => 0) [.fsl 0 1 (.lit 0) (.var 0), .fsl 1 1 (.lit 0) (.var 1)] (#[.slice A n c, .slice B m d] : Array Value).toList := by
    exact repL_cons'.2 ⟨by simp only [Rep]; exact fsl_row 0 1 hrows rfl (by simp [rowAt]) (by omega) rfl rfl hc, repL_one (by simp only [Rep]; exact fsl_row 1 1 hrows rfl (by simp [rowAt]) (by omega) rfl rfl hd)⟩
  by_cases f1 : (n : Int) = (m : Int)
  · skip
    have hF : Facts [((.eq (.var 0) (.var 1)), true)] := ⟨f_eq f1 rfl rfl, trivial⟩
    refine call_start (P := Try.prog) (K := noK) (fl := []) (by kernel_rfl) (by kernel_rfl) hx hfar noK_ok (facD_ok hF) (enter_run (B := 2) (a' := uin1_a) (h' := uin1_h) (ρ' := rhoL W.heap.size ([(n : Int), (m : Int)] ++ [0]) [⟨A, n, F⟩, ⟨B, m, G⟩] [] []) (ds := [.int (.lit (0)) (.var 2)]) (c := (loopIn (bodyC Try.prog 20) 0)) (by kernel_rfl) (by kernel_rfl) rfl (agree_list (l := [(n : Int), (m : Int)]) (x := []) (Nat.le_refl _) rfl) ⟨rfl, trivial⟩ fun A1 W1 hs1 => ?_)
    refine loop_ok (Inv := fun ρ => ∃ (k : Nat), (k ≤ n) ∧ ρ = rhoL W.heap.size ([(n : Int), (m : Int)] ++ [(k : Int)]) [⟨A, n, F⟩, ⟨B, m, G⟩] [] []) (μ := fun ρ => n - (@Rho.i ρ 2).toNat) (a := uin1_a) (h := uin1_h) ?_ _ ⟨0, ?_, rfl⟩ A1 W1 hs1
    rotate_left
    · exact Nat.zero_le _
    first | clear hs1 hx | clear hs1
    rintro ρ ⟨k, hinv, rfl⟩ A2 W2 hs2
    letI : Rho := rhoL W.heap.size ([(n : Int), (m : Int)] ++ [(k : Int)]) [⟨A, n, F⟩, ⟨B, m, G⟩] [] []
    have hk : k ≤ n := hinv
    by_cases f1 : (n : Int) ≤ (k : Int)
    · skip
      have hF : Facts [((.le (.var 0) (.var 2)), true)] := ⟨f_le f1 rfl rfl, trivial⟩
      refine out_run (P := Try.prog) (K := noK) (fl := []) (by kernel_rfl) noK_ok (facD_ok hF) hs2 (fin_run (r := (.pl (.bool true))) (by kernel_rfl) rfl fun W' hbel => ⟨?_, hbel⟩)
      show Ending.returned (.bool true) = _
      rfl
    · skip
      have f2 : (0 ≤ (k : Int)) := by
        omega
      have f3 : ¬ ((m : Int) ≤ (k : Int)) := by
        omega
      by_cases f4 : (F (k : Int)) = (G (k : Int))
      · skip
        have f5 : (-9223372036854775808 : Int) ≤ ((k : Int) + 1) ∧ ((k : Int) + 1) ≤ 9223372036854775807 := by
          omega
        have hF : Facts [((.le (.var 0) (.var 2)), false), ((.le (.lit (0)) (.var 2)), true), ((.le (.var 1) (.var 2)), false), ((.eq (.sel (.avar 0) (.var 2)) (.sel (.avar 1) (.var 2))), true), ((.inr .i64 (.add (.var 2) (.lit (1)))), true)] := ⟨f_nle f1 rfl rfl, f_le f2 rfl rfl, f_nle f3 rfl rfl, f_eq f4 rfl rfl, f_in f5 rfl, trivial⟩
        refine again_run (P := Try.prog) (K := noK) (fl := []) (B := 2) (a' := uin1_a) (h' := uin1_h) (ρ' := rhoL W.heap.size ([(n : Int), (m : Int)] ++ [(((k + 1) : Nat) : Int)]) [⟨A, n, F⟩, ⟨B, m, G⟩] [] []) (ds := [.int (.add (.var 2) (.lit (1))) (.var 2)]) (by kernel_rfl) noK_ok (facD_ok hF) (by kernel_rfl) (agree_list (l := [(n : Int), (m : Int)]) (Nat.le_refl _) rfl) ⟨(show (((k : Int) + 1) : Int) = (((k + 1) : Nat) : Int) from by first | rfl | (push_cast; omega)), trivial⟩ hs2 fun A3 W3 hs3 => ⟨_, ⟨(k + 1), ?_, rfl⟩, ?_, hs3⟩
        · omega
        · show n - ((k + 1 : Nat) : Int).toNat < n - ((k : Nat) : Int).toNat
          omega
      · skip
        have hF : Facts [((.le (.var 0) (.var 2)), false), ((.le (.lit (0)) (.var 2)), true), ((.le (.var 1) (.var 2)), false), ((.eq (.sel (.avar 0) (.var 2)) (.sel (.avar 1) (.var 2))), false)] := ⟨f_nle f1 rfl rfl, f_le f2 rfl rfl, f_nle f3 rfl rfl, f_ne f4 rfl rfl, trivial⟩
        refine out_run (P := Try.prog) (K := noK) (fl := []) (by kernel_rfl) noK_ok (facD_ok hF) hs2 (fin_run (r := (.pl (.bool false))) (by kernel_rfl) rfl fun W' hbel => ⟨?_, hbel⟩)
        show Ending.returned (.bool false) = _
        exact absurd (hFG k (by omega)) f4
  · skip
    have hF : Facts [((.eq (.var 0) (.var 1)), false)] := ⟨f_ne f1 rfl rfl, trivial⟩
    refine call_start (P := Try.prog) (K := noK) (fl := []) (by kernel_rfl) (by kernel_rfl) hx hfar noK_ok (facD_ok hF) (fin_run (r := (.pl (.bool false))) (by kernel_rfl) rfl fun W' hbel => ⟨?_, hbel⟩)
    show Ending.returned (.bool false) = _
    exact absurd (by rw [hnm]) f1
/-- two rows of the same numbers -/
noncomputable def intsK (i v j u : Nat) (z1 z2 : Bool) : Know := viewK 20 [.row i v 1 z1, .row j u 1 z2] (.pl (.bool true))
theorem intsK_ok [Rho] {i v j u n : Nat} {F G : Int → Int} {z1 z2 : Bool} (h1 : Rho.i v = (n : Int)) (h2 : Rho.i u = (n : Int)) (hF : Rho.a i = F) (hG : Rho.a j = G) (hn : n ≤ 9223372036854775807) (hFG : ∀ j : Nat, j < n → F (j : Int) = G (j : Int)) (g1 : z1 = true → Rho.i v = 0) (g2 : z2 = true → Rho.i u = 0) : KOk Try.prog (intsK i v j u z1 z2) :=
  viewK_ok (by simp only [AZL, AZ, and_true]; exact ⟨g1, g2⟩) fun xs W hx hf => by
  obtain ⟨v0, vs0, e0, r0, hx⟩ := aval_cons hx
  obtain ⟨v1, vs1, rfl, r1, hx⟩ := aval_cons hx
  obtain rfl := aval_nil hx
  obtain ⟨A, c, rfl, y1, y2⟩ := aval_row r0 h1 hF
  obtain ⟨B, d, rfl, y3, y4⟩ := aval_row r1 h2 hG
  obtain rfl : xs = #[.slice A n c, .slice B n d] := Array.toList_inj.1 e0
  refine (ints_same F G A B n c n d W (by simpa using y2) (by simpa using y4) y1 y3 hn rfl hFG).mono ?_
  rintro e w' ⟨rfl, hb⟩
  exact ⟨⟨_, rfl, by simp only [Rep]⟩, hb⟩

end Go.Proofs.Ytmglofemnobakaa
