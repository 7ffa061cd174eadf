/- Contract: the reference says what is wrong with a wrapped map. -/
import Derived.Test.YtmglofemnobakaaRwe
import Derived.Test.YtmglofemnobakaaUal
namespace Go.Proofs.Ytmglofemnobakaa
open Go.RowKit
set_option maxHeartbeats 4000000
set_option maxRecDepth 100000
set_option linter.unusedSimpArgs false
set_option linter.unusedVariables false

noncomputable def rweK (v : Nat) : Know := canK 43 [.fsl 0 1 (.lit 0) (.var 2)] (.si .i64 (.var v))
theorem rweK_ok [Rho] {v n : Nat} {s : Nat → Int} (ha : Rho.a 0 = flat1 s) (h1 : Rho.i 2 = (n : Int)) (h2 : Rho.i v = (prR n s).2) (hm : n ≤ 9223372036854775807) : KOk Try.prog (rweK v) := canK_ok fun xs W hx hf => by
  obtain ⟨v0, vs0, e0, r0, hx⟩ := repL_cons.1 hx
  rw [repL_nil.1 hx] at e0
  simp only [Rep] at r0
  obtain ⟨A, L, c, rfl, y1, y2, y3⟩ := fsl_rowR r0 hf
  have hL : L = n := by
    have : (SE.var 2).ev.i = (n : Int) := h1
    omega
  subst hL
  rw [ha, Nat.mul_one] at y3
  have hxs : xs = #[.slice A L c] := Array.toList_inj.1 (by simpa using e0)
  rw [hxs]
  refine (refWrappedErr_any s A L c W y3 y2 hm).mono ?_
  rintro e w' ⟨rfl, hb⟩
  refine ⟨⟨_, rfl, ?_⟩, hb⟩
  simp only [Rep]
  show _ = Value.int .i64 (Rho.i v)
  rw [h2]


theorem refMapErr_any (R C : Int) (A : Option Addr) (n c : Nat) (s : Nat → Int) (W : World) (hS : RowR W A n (flat1 s)) (hc : n ≤ c) (hn : n ≤ 9223372036854775807) :
    Calls Try.prog 18 #[.agg #[.int .i64 R, .int .i64 C, .slice A n c]] W fun e w' => e = .returned (.int .i64 (wrErr R C n s)) ∧ Below W.heap.size W w' := by
  skip
  have hrows : RowsIn W [⟨A, n, flat1 s⟩] := ⟨hS, trivial⟩
  letI : Rho := rhoL W.heap.size ([R, C, (n : Int), (prR n s).2]) [⟨A, n, flat1 s⟩] [] []
  have hfar : Far W := far_list hrows
  have hx : RepL (fun _ => False) (fun _ => 0) (fun _ => 0) [.agg [.si .i64 (.var 0), .si .i64 (.var 1), .fsl 0 1 (.lit 0) (.var 2)]] (#[.agg #[.int .i64 R, .int .i64 C, .slice A n c]] : Array Value).toList := by
    refine repL_one ?_
    simp only [Rep]
    exact ⟨_, rfl, repL_cons'.2 ⟨by simp only [Rep]; rfl, repL_cons'.2 ⟨by simp only [Rep]; rfl, repL_one (by simp only [Rep]; exact fsl_row 0 1 hrows rfl (by simp [rowAt]) (by omega) rfl rfl hc)⟩⟩⟩
  by_cases f1 : 1 ≤ R
  · skip
    by_cases f2 : R ≤ 64
    · skip
      by_cases f3 : 1 ≤ C
      · skip
        by_cases f4 : C ≤ 64
        · skip
          have f5 : (-9223372036854775808 : Int) ≤ (R * C) ∧ (R * C) ≤ 9223372036854775807 := by
            first | omega | (have h := mul_64 f1 f2 f3 f4; constructor <;> omega)
          by_cases f6 : (n : Int) = (R * C)
          · skip
            have hF : Facts [((.le (.lit (1)) (.var 0)), true), ((.le (.var 0) (.lit (64))), true), ((.le (.lit (1)) (.var 1)), true), ((.le (.var 1) (.lit (64))), true), ((.inr .i64 (.mul (.var 0) (.var 1))), true), ((.eq (.var 2) (.mul (.var 0) (.var 1))), true)] := ⟨f_le f1 rfl rfl, f_le f2 rfl rfl, f_le f3 rfl rfl, f_le f4 rfl rfl, f_in f5 rfl, f_eq f6 rfl rfl, trivial⟩
            refine call_start (P := Try.prog) (K := rweK 3) (fl := []) (by kernel_rfl) (by kernel_rfl) hx hfar (rweK_ok (n := n) (s := s) rfl rfl rfl hn) (facD_ok hF) (fin_run (r := (.si .i64 (.var 3))) (by kernel_rfl) rfl fun W' hbel => ⟨?_, hbel⟩)
            show Ending.returned (.int .i64 (prR n s).2) = _
            unfold wrErr szErr
            simp [f1, f2, f3, f4, f6]
          · skip
            have hF : Facts [((.le (.lit (1)) (.var 0)), true), ((.le (.var 0) (.lit (64))), true), ((.le (.lit (1)) (.var 1)), true), ((.le (.var 1) (.lit (64))), true), ((.inr .i64 (.mul (.var 0) (.var 1))), true), ((.eq (.var 2) (.mul (.var 0) (.var 1))), false)] := ⟨f_le f1 rfl rfl, f_le f2 rfl rfl, f_le f3 rfl rfl, f_le f4 rfl rfl, f_in f5 rfl, f_ne f6 rfl rfl, trivial⟩
            refine call_start (P := Try.prog) (K := rweK 3) (fl := []) (by kernel_rfl) (by kernel_rfl) hx hfar (rweK_ok (n := n) (s := s) rfl rfl rfl hn) (facD_ok hF) (fin_run (r := (.pl (.int .i64 (10)))) (by kernel_rfl) rfl fun W' hbel => ⟨?_, hbel⟩)
            show Ending.returned (.int .i64 10) = _
            unfold wrErr szErr
            simp [f1, f2, f3, f4, f6]
        · skip
          have hF : Facts [((.le (.lit (1)) (.var 0)), true), ((.le (.var 0) (.lit (64))), true), ((.le (.lit (1)) (.var 1)), true), ((.le (.var 1) (.lit (64))), false)] := ⟨f_le f1 rfl rfl, f_le f2 rfl rfl, f_le f3 rfl rfl, f_nle f4 rfl rfl, trivial⟩
          refine call_start (P := Try.prog) (K := rweK 3) (fl := []) (by kernel_rfl) (by kernel_rfl) hx hfar (rweK_ok (n := n) (s := s) rfl rfl rfl hn) (facD_ok hF) (fin_run (r := (.pl (.int .i64 (2)))) (by kernel_rfl) rfl fun W' hbel => ⟨?_, hbel⟩)
          show Ending.returned (.int .i64 2) = _
          unfold wrErr szErr
          simp [f1, f2, f3, f4]
      · skip
        have hF : Facts [((.le (.lit (1)) (.var 0)), true), ((.le (.var 0) (.lit (64))), true), ((.le (.lit (1)) (.var 1)), false)] := ⟨f_le f1 rfl rfl, f_le f2 rfl rfl, f_nle f3 rfl rfl, trivial⟩
        refine call_start (P := Try.prog) (K := rweK 3) (fl := []) (by kernel_rfl) (by kernel_rfl) hx hfar (rweK_ok (n := n) (s := s) rfl rfl rfl hn) (facD_ok hF) (fin_run (r := (.pl (.int .i64 (2)))) (by kernel_rfl) rfl fun W' hbel => ⟨?_, hbel⟩)
        show Ending.returned (.int .i64 2) = _
        unfold wrErr szErr
        simp [f1, f2, f3]
    · skip
      have hF : Facts [((.le (.lit (1)) (.var 0)), true), ((.le (.var 0) (.lit (64))), false)] := ⟨f_le f1 rfl rfl, f_nle f2 rfl rfl, trivial⟩
      refine call_start (P := Try.prog) (K := rweK 3) (fl := []) (by kernel_rfl) (by kernel_rfl) hx hfar (rweK_ok (n := n) (s := s) rfl rfl rfl hn) (facD_ok hF) (fin_run (r := (.pl (.int .i64 (2)))) (by kernel_rfl) rfl fun W' hbel => ⟨?_, hbel⟩)
      show Ending.returned (.int .i64 2) = _
      unfold wrErr szErr
      simp [f1, f2]
  · skip
    have hF : Facts [((.le (.lit (1)) (.var 0)), false)] := ⟨f_nle f1 rfl rfl, trivial⟩
    refine call_start (P := Try.prog) (K := rweK 3) (fl := []) (by kernel_rfl) (by kernel_rfl) hx hfar (rweK_ok (n := n) (s := s) rfl rfl rfl hn) (facD_ok hF) (fin_run (r := (.pl (.int .i64 (2)))) (by kernel_rfl) rfl fun W' hbel => ⟨?_, hbel⟩)
    show Ending.returned (.int .i64 2) = _
    unfold wrErr szErr
    simp [f1]

end Go.Proofs.Ytmglofemnobakaa
