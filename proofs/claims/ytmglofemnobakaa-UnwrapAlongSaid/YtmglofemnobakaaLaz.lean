/- The law on paths: the empty path. -/
import Derived.Test.YtmglofemnobakaaLae
namespace Go.Proofs.Ytmglofemnobakaa
open Go.RowKit
set_option maxHeartbeats 4000000
set_option maxRecDepth 100000
set_option linter.unusedSimpArgs false
set_option linter.unusedVariables false



theorem along_nil (R C : Int) (A B : Option Addr) (n c m d : Nat) (s p : Nat → Int) (W : World) (hS : RowR W A n (flat1 s)) (hT : RowR W B m (flat1 p)) (hc : n ≤ c) (hd : m ≤ d) (hn : n ≤ 9223372036854775807) (he : aErr R C n s m p = 0) (hm0 : m = 0) :
    Calls Try.prog 5 #[.agg #[.int .i64 R, .int .i64 C, .slice A n c], .slice B m d] W fun e w' => e = .returned (.bool true) ∧ Below W.heap.size W w' := by
  skip
  have hrows : RowsIn W [⟨A, n, flat1 s⟩, ⟨B, m, flat1 p⟩] := ⟨hS, hT, trivial⟩
  letI : Rho := rhoL W.heap.size ([R, C, (n : Int), (m : Int), (aErr R C n s m p), (wrErr R C n s), (rErr C n s m p)]) [⟨A, n, flat1 s⟩, ⟨B, m, flat1 p⟩] [] []
  have hfar : Far W := far_list hrows
  have hx : RepL (fun _ => False) (fun _ => 0) (fun _ => 0) [.agg [.si .i64 (.var 0), .si .i64 (.var 1), .fsl 0 1 (.lit 0) (.var 2)], .fsl 1 1 (.lit 0) (.var 3)] (#[.agg #[.int .i64 R, .int .i64 C, .slice A n c], .slice B m d] : Array Value).toList := by
    refine repL_cons'.2 ⟨?_, repL_one (by simp only [Rep]; exact fsl_row 1 1 hrows rfl (by simp [rowAt]) (by omega) rfl rfl hd)⟩
    simp only [Rep]
    exact ⟨_, rfl, repL_cons'.2 ⟨by simp only [Rep]; rfl, repL_cons'.2 ⟨by simp only [Rep]; rfl, repL_one (by simp only [Rep]; exact fsl_row 0 1 hrows rfl (by simp [rowAt]) (by omega) rfl rfl hc)⟩⟩⟩
  by_cases f1 : (n : Int) ≤ 70
  · skip
    by_cases f2 : (m : Int) ≤ 30
    · skip
      by_cases f3 : (m : Int) ≤ 202
      · skip
        by_cases f4 : (n : Int) ≤ 0
        · skip
          by_cases f5 : (m : Int) ≤ 0
          · skip
            by_cases f6 : (wrErr R C n s) = 0
            · skip
              have hF : Facts [((.le (.var 2) (.lit (70))), true), ((.le (.var 3) (.lit (30))), true), ((.le (.var 3) (.lit (202))), true), ((.le (.var 2) (.lit (0))), true), ((.le (.var 3) (.lit (0))), true), ((.eq (.var 5) (.lit (0))), true)] := ⟨f_le f1 rfl rfl, f_le f2 rfl rfl, f_le f3 rfl rfl, f_le f4 rfl rfl, f_le f5 rfl rfl, f_eq f6 rfl rfl, trivial⟩
              refine call_start (P := Try.prog) (K := orK (orK (trueK 6) (orK (weK 5) (al0 true true))) (rl0)) (fl := []) (by kernel_rfl) (by kernel_rfl) hx hfar (orK_ok (orK_ok (trueK_ok awake_ok) (orK_ok (weK_ok (R := R) (C := C) (n := n) (s := s) rfl rfl rfl rfl rfl hn) (al0_ok (R := R) (C := C) (n := n) (m := m) (s := s) (p := p) rfl rfl rfl rfl rfl rfl (fun _ => by show (n : Int) = 0; omega) (fun _ => by show (m : Int) = 0; omega) he hm0 hn))) (rl0_ok (R := R) (C := C) (n := n) (m := m) (s := s) (p := p) rfl rfl rfl rfl rfl rfl f6 (by rw [← aErr_r f6]; exact he) hm0 hn)) (facD_ok hF) (fin_run (r := (.pl (.bool true))) (by kernel_rfl) rfl fun W' hbel => ⟨?_, hbel⟩)
              show Ending.returned (.bool true) = _
              rfl
            · skip
              have hF : Facts [((.le (.var 2) (.lit (70))), true), ((.le (.var 3) (.lit (30))), true), ((.le (.var 3) (.lit (202))), true), ((.le (.var 2) (.lit (0))), true), ((.le (.var 3) (.lit (0))), true), ((.eq (.var 5) (.lit (0))), false)] := ⟨f_le f1 rfl rfl, f_le f2 rfl rfl, f_le f3 rfl rfl, f_le f4 rfl rfl, f_le f5 rfl rfl, f_ne f6 rfl rfl, trivial⟩
              refine call_start (P := Try.prog) (K := orK (trueK 6) (orK (weK 5) (al0 true true))) (fl := []) (by kernel_rfl) (by kernel_rfl) hx hfar (orK_ok (trueK_ok awake_ok) (orK_ok (weK_ok (R := R) (C := C) (n := n) (s := s) rfl rfl rfl rfl rfl hn) (al0_ok (R := R) (C := C) (n := n) (m := m) (s := s) (p := p) rfl rfl rfl rfl rfl rfl (fun _ => by show (n : Int) = 0; omega) (fun _ => by show (m : Int) = 0; omega) he hm0 hn))) (facD_ok hF) (fin_run (r := (.pl (.bool false))) (by kernel_rfl) rfl fun W' hbel => ⟨?_, hbel⟩)
              show Ending.returned (.bool false) = _
              exact absurd (by rw [← aErr_w (R := R) (C := C) (n := n) (s := s) (m := m) (p := p) f6]; exact he) f6
          · skip
            have f6 : ((m : Int) ≤ 100000) := by
              omega
            by_cases f7 : (wrErr R C n s) = 0
            · skip
              have hF : Facts [((.le (.var 2) (.lit (70))), true), ((.le (.var 3) (.lit (30))), true), ((.le (.var 3) (.lit (202))), true), ((.le (.var 2) (.lit (0))), true), ((.le (.var 3) (.lit (0))), false), ((.le (.var 3) (.lit (100000))), true), ((.eq (.var 5) (.lit (0))), true)] := ⟨f_le f1 rfl rfl, f_le f2 rfl rfl, f_le f3 rfl rfl, f_le f4 rfl rfl, f_nle f5 rfl rfl, f_le f6 rfl rfl, f_eq f7 rfl rfl, trivial⟩
              refine call_start (P := Try.prog) (K := orK (orK (trueK 6) (orK (weK 5) (al0 true false))) (rl0)) (fl := []) (by kernel_rfl) (by kernel_rfl) hx hfar (orK_ok (orK_ok (trueK_ok awake_ok) (orK_ok (weK_ok (R := R) (C := C) (n := n) (s := s) rfl rfl rfl rfl rfl hn) (al0_ok (R := R) (C := C) (n := n) (m := m) (s := s) (p := p) rfl rfl rfl rfl rfl rfl (fun _ => by show (n : Int) = 0; omega) (fun h => by cases h) he hm0 hn))) (rl0_ok (R := R) (C := C) (n := n) (m := m) (s := s) (p := p) rfl rfl rfl rfl rfl rfl f7 (by rw [← aErr_r f7]; exact he) hm0 hn)) (facD_ok hF) (fin_run (r := (.pl (.bool true))) (by kernel_rfl) rfl fun W' hbel => ⟨?_, hbel⟩)
              show Ending.returned (.bool true) = _
              rfl
            · skip
              have hF : Facts [((.le (.var 2) (.lit (70))), true), ((.le (.var 3) (.lit (30))), true), ((.le (.var 3) (.lit (202))), true), ((.le (.var 2) (.lit (0))), true), ((.le (.var 3) (.lit (0))), false), ((.le (.var 3) (.lit (100000))), true), ((.eq (.var 5) (.lit (0))), false)] := ⟨f_le f1 rfl rfl, f_le f2 rfl rfl, f_le f3 rfl rfl, f_le f4 rfl rfl, f_nle f5 rfl rfl, f_le f6 rfl rfl, f_ne f7 rfl rfl, trivial⟩
              refine call_start (P := Try.prog) (K := orK (trueK 6) (orK (weK 5) (al0 true false))) (fl := []) (by kernel_rfl) (by kernel_rfl) hx hfar (orK_ok (trueK_ok awake_ok) (orK_ok (weK_ok (R := R) (C := C) (n := n) (s := s) rfl rfl rfl rfl rfl hn) (al0_ok (R := R) (C := C) (n := n) (m := m) (s := s) (p := p) rfl rfl rfl rfl rfl rfl (fun _ => by show (n : Int) = 0; omega) (fun h => by cases h) he hm0 hn))) (facD_ok hF) (fin_run (r := (.pl (.bool false))) (by kernel_rfl) rfl fun W' hbel => ⟨?_, hbel⟩)
              show Ending.returned (.bool false) = _
              exact absurd (by rw [← aErr_w (R := R) (C := C) (n := n) (s := s) (m := m) (p := p) f7]; exact he) f7
        · skip
          have f5 : ((n : Int) ≤ 100000) := by
            omega
          by_cases f6 : (m : Int) ≤ 0
          · skip
            by_cases f7 : (wrErr R C n s) = 0
            · skip
              have hF : Facts [((.le (.var 2) (.lit (70))), true), ((.le (.var 3) (.lit (30))), true), ((.le (.var 3) (.lit (202))), true), ((.le (.var 2) (.lit (0))), false), ((.le (.var 2) (.lit (100000))), true), ((.le (.var 3) (.lit (0))), true), ((.eq (.var 5) (.lit (0))), true)] := ⟨f_le f1 rfl rfl, f_le f2 rfl rfl, f_le f3 rfl rfl, f_nle f4 rfl rfl, f_le f5 rfl rfl, f_le f6 rfl rfl, f_eq f7 rfl rfl, trivial⟩
              refine call_start (P := Try.prog) (K := orK (orK (trueK 6) (orK (weK 5) (al0 false true))) (rl0)) (fl := []) (by kernel_rfl) (by kernel_rfl) hx hfar (orK_ok (orK_ok (trueK_ok awake_ok) (orK_ok (weK_ok (R := R) (C := C) (n := n) (s := s) rfl rfl rfl rfl rfl hn) (al0_ok (R := R) (C := C) (n := n) (m := m) (s := s) (p := p) rfl rfl rfl rfl rfl rfl (fun h => by cases h) (fun _ => by show (m : Int) = 0; omega) he hm0 hn))) (rl0_ok (R := R) (C := C) (n := n) (m := m) (s := s) (p := p) rfl rfl rfl rfl rfl rfl f7 (by rw [← aErr_r f7]; exact he) hm0 hn)) (facD_ok hF) (fin_run (r := (.pl (.bool true))) (by kernel_rfl) rfl fun W' hbel => ⟨?_, hbel⟩)
              show Ending.returned (.bool true) = _
              rfl
            · skip
              have hF : Facts [((.le (.var 2) (.lit (70))), true), ((.le (.var 3) (.lit (30))), true), ((.le (.var 3) (.lit (202))), true), ((.le (.var 2) (.lit (0))), false), ((.le (.var 2) (.lit (100000))), true), ((.le (.var 3) (.lit (0))), true), ((.eq (.var 5) (.lit (0))), false)] := ⟨f_le f1 rfl rfl, f_le f2 rfl rfl, f_le f3 rfl rfl, f_nle f4 rfl rfl, f_le f5 rfl rfl, f_le f6 rfl rfl, f_ne f7 rfl rfl, trivial⟩
              refine call_start (P := Try.prog) (K := orK (trueK 6) (orK (weK 5) (al0 false true))) (fl := []) (by kernel_rfl) (by kernel_rfl) hx hfar (orK_ok (trueK_ok awake_ok) (orK_ok (weK_ok (R := R) (C := C) (n := n) (s := s) rfl rfl rfl rfl rfl hn) (al0_ok (R := R) (C := C) (n := n) (m := m) (s := s) (p := p) rfl rfl rfl rfl rfl rfl (fun h => by cases h) (fun _ => by show (m : Int) = 0; omega) he hm0 hn))) (facD_ok hF) (fin_run (r := (.pl (.bool false))) (by kernel_rfl) rfl fun W' hbel => ⟨?_, hbel⟩)
              show Ending.returned (.bool false) = _
              exact absurd (by rw [← aErr_w (R := R) (C := C) (n := n) (s := s) (m := m) (p := p) f7]; exact he) f7
          · skip
            have f7 : ((m : Int) ≤ 100000) := by
              omega
            by_cases f8 : (wrErr R C n s) = 0
            · skip
              have hF : Facts [((.le (.var 2) (.lit (70))), true), ((.le (.var 3) (.lit (30))), true), ((.le (.var 3) (.lit (202))), true), ((.le (.var 2) (.lit (0))), false), ((.le (.var 2) (.lit (100000))), true), ((.le (.var 3) (.lit (0))), false), ((.le (.var 3) (.lit (100000))), true), ((.eq (.var 5) (.lit (0))), true)] := ⟨f_le f1 rfl rfl, f_le f2 rfl rfl, f_le f3 rfl rfl, f_nle f4 rfl rfl, f_le f5 rfl rfl, f_nle f6 rfl rfl, f_le f7 rfl rfl, f_eq f8 rfl rfl, trivial⟩
              refine call_start (P := Try.prog) (K := orK (orK (trueK 6) (orK (weK 5) (al0 false false))) (rl0)) (fl := []) (by kernel_rfl) (by kernel_rfl) hx hfar (orK_ok (orK_ok (trueK_ok awake_ok) (orK_ok (weK_ok (R := R) (C := C) (n := n) (s := s) rfl rfl rfl rfl rfl hn) (al0_ok (R := R) (C := C) (n := n) (m := m) (s := s) (p := p) rfl rfl rfl rfl rfl rfl (fun h => by cases h) (fun h => by cases h) he hm0 hn))) (rl0_ok (R := R) (C := C) (n := n) (m := m) (s := s) (p := p) rfl rfl rfl rfl rfl rfl f8 (by rw [← aErr_r f8]; exact he) hm0 hn)) (facD_ok hF) (fin_run (r := (.pl (.bool true))) (by kernel_rfl) rfl fun W' hbel => ⟨?_, hbel⟩)
              show Ending.returned (.bool true) = _
              rfl
            · skip
              have hF : Facts [((.le (.var 2) (.lit (70))), true), ((.le (.var 3) (.lit (30))), true), ((.le (.var 3) (.lit (202))), true), ((.le (.var 2) (.lit (0))), false), ((.le (.var 2) (.lit (100000))), true), ((.le (.var 3) (.lit (0))), false), ((.le (.var 3) (.lit (100000))), true), ((.eq (.var 5) (.lit (0))), false)] := ⟨f_le f1 rfl rfl, f_le f2 rfl rfl, f_le f3 rfl rfl, f_nle f4 rfl rfl, f_le f5 rfl rfl, f_nle f6 rfl rfl, f_le f7 rfl rfl, f_ne f8 rfl rfl, trivial⟩
              refine call_start (P := Try.prog) (K := orK (trueK 6) (orK (weK 5) (al0 false false))) (fl := []) (by kernel_rfl) (by kernel_rfl) hx hfar (orK_ok (trueK_ok awake_ok) (orK_ok (weK_ok (R := R) (C := C) (n := n) (s := s) rfl rfl rfl rfl rfl hn) (al0_ok (R := R) (C := C) (n := n) (m := m) (s := s) (p := p) rfl rfl rfl rfl rfl rfl (fun h => by cases h) (fun h => by cases h) he hm0 hn))) (facD_ok hF) (fin_run (r := (.pl (.bool false))) (by kernel_rfl) rfl fun W' hbel => ⟨?_, hbel⟩)
              show Ending.returned (.bool false) = _
              exact absurd (by rw [← aErr_w (R := R) (C := C) (n := n) (s := s) (m := m) (p := p) f8]; exact he) f8
      · skip
        have hF : Facts [((.le (.var 2) (.lit (70))), true), ((.le (.var 3) (.lit (30))), true), ((.le (.var 3) (.lit (202))), false)] := ⟨f_le f1 rfl rfl, f_le f2 rfl rfl, f_nle f3 rfl rfl, trivial⟩
        refine call_start (P := Try.prog) (K := trueK 6) (fl := []) (by kernel_rfl) (by kernel_rfl) hx hfar (trueK_ok awake_ok) (facD_ok hF) (fin_run (r := (.pl (.bool true))) (by kernel_rfl) rfl fun W' hbel => ⟨?_, hbel⟩)
        show Ending.returned (.bool true) = _
        rfl
    · skip
      by_cases f3 : (m : Int) ≤ 200
      · skip
        have hF : Facts [((.le (.var 2) (.lit (70))), true), ((.le (.var 3) (.lit (30))), false), ((.le (.var 3) (.lit (200))), true)] := ⟨f_le f1 rfl rfl, f_nle f2 rfl rfl, f_le f3 rfl rfl, trivial⟩
        refine call_start (P := Try.prog) (K := trueK 6) (fl := []) (by kernel_rfl) (by kernel_rfl) hx hfar (trueK_ok awake_ok) (facD_ok hF) (fin_run (r := (.pl (.bool true))) (by kernel_rfl) rfl fun W' hbel => ⟨?_, hbel⟩)
        show Ending.returned (.bool true) = _
        rfl
      · skip
        by_cases f4 : (m : Int) ≤ 202
        · skip
          by_cases f5 : (n : Int) ≤ 0
          · skip
            by_cases f6 : (m : Int) ≤ 0
            · skip
              by_cases f7 : (wrErr R C n s) = 0
              · skip
                have hF : Facts [((.le (.var 2) (.lit (70))), true), ((.le (.var 3) (.lit (30))), false), ((.le (.var 3) (.lit (200))), false), ((.le (.var 3) (.lit (202))), true), ((.le (.var 2) (.lit (0))), true), ((.le (.var 3) (.lit (0))), true), ((.eq (.var 5) (.lit (0))), true)] := ⟨f_le f1 rfl rfl, f_nle f2 rfl rfl, f_nle f3 rfl rfl, f_le f4 rfl rfl, f_le f5 rfl rfl, f_le f6 rfl rfl, f_eq f7 rfl rfl, trivial⟩
                refine call_start (P := Try.prog) (K := orK (orK (trueK 6) (orK (weK 5) (al0 true true))) (rl0)) (fl := []) (by kernel_rfl) (by kernel_rfl) hx hfar (orK_ok (orK_ok (trueK_ok awake_ok) (orK_ok (weK_ok (R := R) (C := C) (n := n) (s := s) rfl rfl rfl rfl rfl hn) (al0_ok (R := R) (C := C) (n := n) (m := m) (s := s) (p := p) rfl rfl rfl rfl rfl rfl (fun _ => by show (n : Int) = 0; omega) (fun _ => by show (m : Int) = 0; omega) he hm0 hn))) (rl0_ok (R := R) (C := C) (n := n) (m := m) (s := s) (p := p) rfl rfl rfl rfl rfl rfl f7 (by rw [← aErr_r f7]; exact he) hm0 hn)) (facD_ok hF) (fin_run (r := (.pl (.bool true))) (by kernel_rfl) rfl fun W' hbel => ⟨?_, hbel⟩)
                show Ending.returned (.bool true) = _
                rfl
              · skip
                have hF : Facts [((.le (.var 2) (.lit (70))), true), ((.le (.var 3) (.lit (30))), false), ((.le (.var 3) (.lit (200))), false), ((.le (.var 3) (.lit (202))), true), ((.le (.var 2) (.lit (0))), true), ((.le (.var 3) (.lit (0))), true), ((.eq (.var 5) (.lit (0))), false)] := ⟨f_le f1 rfl rfl, f_nle f2 rfl rfl, f_nle f3 rfl rfl, f_le f4 rfl rfl, f_le f5 rfl rfl, f_le f6 rfl rfl, f_ne f7 rfl rfl, trivial⟩
                refine call_start (P := Try.prog) (K := orK (trueK 6) (orK (weK 5) (al0 true true))) (fl := []) (by kernel_rfl) (by kernel_rfl) hx hfar (orK_ok (trueK_ok awake_ok) (orK_ok (weK_ok (R := R) (C := C) (n := n) (s := s) rfl rfl rfl rfl rfl hn) (al0_ok (R := R) (C := C) (n := n) (m := m) (s := s) (p := p) rfl rfl rfl rfl rfl rfl (fun _ => by show (n : Int) = 0; omega) (fun _ => by show (m : Int) = 0; omega) he hm0 hn))) (facD_ok hF) (fin_run (r := (.pl (.bool false))) (by kernel_rfl) rfl fun W' hbel => ⟨?_, hbel⟩)
                show Ending.returned (.bool false) = _
                exact absurd (by rw [← aErr_w (R := R) (C := C) (n := n) (s := s) (m := m) (p := p) f7]; exact he) f7
            · skip
              have f7 : ((m : Int) ≤ 100000) := by
                omega
              by_cases f8 : (wrErr R C n s) = 0
              · skip
                have hF : Facts [((.le (.var 2) (.lit (70))), true), ((.le (.var 3) (.lit (30))), false), ((.le (.var 3) (.lit (200))), false), ((.le (.var 3) (.lit (202))), true), ((.le (.var 2) (.lit (0))), true), ((.le (.var 3) (.lit (0))), false), ((.le (.var 3) (.lit (100000))), true), ((.eq (.var 5) (.lit (0))), true)] := ⟨f_le f1 rfl rfl, f_nle f2 rfl rfl, f_nle f3 rfl rfl, f_le f4 rfl rfl, f_le f5 rfl rfl, f_nle f6 rfl rfl, f_le f7 rfl rfl, f_eq f8 rfl rfl, trivial⟩
                refine call_start (P := Try.prog) (K := orK (orK (trueK 6) (orK (weK 5) (al0 true false))) (rl0)) (fl := []) (by kernel_rfl) (by kernel_rfl) hx hfar (orK_ok (orK_ok (trueK_ok awake_ok) (orK_ok (weK_ok (R := R) (C := C) (n := n) (s := s) rfl rfl rfl rfl rfl hn) (al0_ok (R := R) (C := C) (n := n) (m := m) (s := s) (p := p) rfl rfl rfl rfl rfl rfl (fun _ => by show (n : Int) = 0; omega) (fun h => by cases h) he hm0 hn))) (rl0_ok (R := R) (C := C) (n := n) (m := m) (s := s) (p := p) rfl rfl rfl rfl rfl rfl f8 (by rw [← aErr_r f8]; exact he) hm0 hn)) (facD_ok hF) (fin_run (r := (.pl (.bool true))) (by kernel_rfl) rfl fun W' hbel => ⟨?_, hbel⟩)
                show Ending.returned (.bool true) = _
                rfl
              · skip
                have hF : Facts [((.le (.var 2) (.lit (70))), true), ((.le (.var 3) (.lit (30))), false), ((.le (.var 3) (.lit (200))), false), ((.le (.var 3) (.lit (202))), true), ((.le (.var 2) (.lit (0))), true), ((.le (.var 3) (.lit (0))), false), ((.le (.var 3) (.lit (100000))), true), ((.eq (.var 5) (.lit (0))), false)] := ⟨f_le f1 rfl rfl, f_nle f2 rfl rfl, f_nle f3 rfl rfl, f_le f4 rfl rfl, f_le f5 rfl rfl, f_nle f6 rfl rfl, f_le f7 rfl rfl, f_ne f8 rfl rfl, trivial⟩
                refine call_start (P := Try.prog) (K := orK (trueK 6) (orK (weK 5) (al0 true false))) (fl := []) (by kernel_rfl) (by kernel_rfl) hx hfar (orK_ok (trueK_ok awake_ok) (orK_ok (weK_ok (R := R) (C := C) (n := n) (s := s) rfl rfl rfl rfl rfl hn) (al0_ok (R := R) (C := C) (n := n) (m := m) (s := s) (p := p) rfl rfl rfl rfl rfl rfl (fun _ => by show (n : Int) = 0; omega) (fun h => by cases h) he hm0 hn))) (facD_ok hF) (fin_run (r := (.pl (.bool false))) (by kernel_rfl) rfl fun W' hbel => ⟨?_, hbel⟩)
                show Ending.returned (.bool false) = _
                exact absurd (by rw [← aErr_w (R := R) (C := C) (n := n) (s := s) (m := m) (p := p) f8]; exact he) f8
          · skip
            have f6 : ((n : Int) ≤ 100000) := by
              omega
            by_cases f7 : (m : Int) ≤ 0
            · skip
              by_cases f8 : (wrErr R C n s) = 0
              · skip
                have hF : Facts [((.le (.var 2) (.lit (70))), true), ((.le (.var 3) (.lit (30))), false), ((.le (.var 3) (.lit (200))), false), ((.le (.var 3) (.lit (202))), true), ((.le (.var 2) (.lit (0))), false), ((.le (.var 2) (.lit (100000))), true), ((.le (.var 3) (.lit (0))), true), ((.eq (.var 5) (.lit (0))), true)] := ⟨f_le f1 rfl rfl, f_nle f2 rfl rfl, f_nle f3 rfl rfl, f_le f4 rfl rfl, f_nle f5 rfl rfl, f_le f6 rfl rfl, f_le f7 rfl rfl, f_eq f8 rfl rfl, trivial⟩
                refine call_start (P := Try.prog) (K := orK (orK (trueK 6) (orK (weK 5) (al0 false true))) (rl0)) (fl := []) (by kernel_rfl) (by kernel_rfl) hx hfar (orK_ok (orK_ok (trueK_ok awake_ok) (orK_ok (weK_ok (R := R) (C := C) (n := n) (s := s) rfl rfl rfl rfl rfl hn) (al0_ok (R := R) (C := C) (n := n) (m := m) (s := s) (p := p) rfl rfl rfl rfl rfl rfl (fun h => by cases h) (fun _ => by show (m : Int) = 0; omega) he hm0 hn))) (rl0_ok (R := R) (C := C) (n := n) (m := m) (s := s) (p := p) rfl rfl rfl rfl rfl rfl f8 (by rw [← aErr_r f8]; exact he) hm0 hn)) (facD_ok hF) (fin_run (r := (.pl (.bool true))) (by kernel_rfl) rfl fun W' hbel => ⟨?_, hbel⟩)
                show Ending.returned (.bool true) = _
                rfl
              · skip
                have hF : Facts [((.le (.var 2) (.lit (70))), true), ((.le (.var 3) (.lit (30))), false), ((.le (.var 3) (.lit (200))), false), ((.le (.var 3) (.lit (202))), true), ((.le (.var 2) (.lit (0))), false), ((.le (.var 2) (.lit (100000))), true), ((.le (.var 3) (.lit (0))), true), ((.eq (.var 5) (.lit (0))), false)] := ⟨f_le f1 rfl rfl, f_nle f2 rfl rfl, f_nle f3 rfl rfl, f_le f4 rfl rfl, f_nle f5 rfl rfl, f_le f6 rfl rfl, f_le f7 rfl rfl, f_ne f8 rfl rfl, trivial⟩
                refine call_start (P := Try.prog) (K := orK (trueK 6) (orK (weK 5) (al0 false true))) (fl := []) (by kernel_rfl) (by kernel_rfl) hx hfar (orK_ok (trueK_ok awake_ok) (orK_ok (weK_ok (R := R) (C := C) (n := n) (s := s) rfl rfl rfl rfl rfl hn) (al0_ok (R := R) (C := C) (n := n) (m := m) (s := s) (p := p) rfl rfl rfl rfl rfl rfl (fun h => by cases h) (fun _ => by show (m : Int) = 0; omega) he hm0 hn))) (facD_ok hF) (fin_run (r := (.pl (.bool false))) (by kernel_rfl) rfl fun W' hbel => ⟨?_, hbel⟩)
                show Ending.returned (.bool false) = _
                exact absurd (by rw [← aErr_w (R := R) (C := C) (n := n) (s := s) (m := m) (p := p) f8]; exact he) f8
            · skip
              have f8 : ((m : Int) ≤ 100000) := by
                omega
              by_cases f9 : (wrErr R C n s) = 0
              · skip
                have hF : Facts [((.le (.var 2) (.lit (70))), true), ((.le (.var 3) (.lit (30))), false), ((.le (.var 3) (.lit (200))), false), ((.le (.var 3) (.lit (202))), true), ((.le (.var 2) (.lit (0))), false), ((.le (.var 2) (.lit (100000))), true), ((.le (.var 3) (.lit (0))), false), ((.le (.var 3) (.lit (100000))), true), ((.eq (.var 5) (.lit (0))), true)] := ⟨f_le f1 rfl rfl, f_nle f2 rfl rfl, f_nle f3 rfl rfl, f_le f4 rfl rfl, f_nle f5 rfl rfl, f_le f6 rfl rfl, f_nle f7 rfl rfl, f_le f8 rfl rfl, f_eq f9 rfl rfl, trivial⟩
                refine call_start (P := Try.prog) (K := orK (orK (trueK 6) (orK (weK 5) (al0 false false))) (rl0)) (fl := []) (by kernel_rfl) (by kernel_rfl) hx hfar (orK_ok (orK_ok (trueK_ok awake_ok) (orK_ok (weK_ok (R := R) (C := C) (n := n) (s := s) rfl rfl rfl rfl rfl hn) (al0_ok (R := R) (C := C) (n := n) (m := m) (s := s) (p := p) rfl rfl rfl rfl rfl rfl (fun h => by cases h) (fun h => by cases h) he hm0 hn))) (rl0_ok (R := R) (C := C) (n := n) (m := m) (s := s) (p := p) rfl rfl rfl rfl rfl rfl f9 (by rw [← aErr_r f9]; exact he) hm0 hn)) (facD_ok hF) (fin_run (r := (.pl (.bool true))) (by kernel_rfl) rfl fun W' hbel => ⟨?_, hbel⟩)
                show Ending.returned (.bool true) = _
                rfl
              · skip
                have hF : Facts [((.le (.var 2) (.lit (70))), true), ((.le (.var 3) (.lit (30))), false), ((.le (.var 3) (.lit (200))), false), ((.le (.var 3) (.lit (202))), true), ((.le (.var 2) (.lit (0))), false), ((.le (.var 2) (.lit (100000))), true), ((.le (.var 3) (.lit (0))), false), ((.le (.var 3) (.lit (100000))), true), ((.eq (.var 5) (.lit (0))), false)] := ⟨f_le f1 rfl rfl, f_nle f2 rfl rfl, f_nle f3 rfl rfl, f_le f4 rfl rfl, f_nle f5 rfl rfl, f_le f6 rfl rfl, f_nle f7 rfl rfl, f_le f8 rfl rfl, f_ne f9 rfl rfl, trivial⟩
                refine call_start (P := Try.prog) (K := orK (trueK 6) (orK (weK 5) (al0 false false))) (fl := []) (by kernel_rfl) (by kernel_rfl) hx hfar (orK_ok (trueK_ok awake_ok) (orK_ok (weK_ok (R := R) (C := C) (n := n) (s := s) rfl rfl rfl rfl rfl hn) (al0_ok (R := R) (C := C) (n := n) (m := m) (s := s) (p := p) rfl rfl rfl rfl rfl rfl (fun h => by cases h) (fun h => by cases h) he hm0 hn))) (facD_ok hF) (fin_run (r := (.pl (.bool false))) (by kernel_rfl) rfl fun W' hbel => ⟨?_, hbel⟩)
                show Ending.returned (.bool false) = _
                exact absurd (by rw [← aErr_w (R := R) (C := C) (n := n) (s := s) (m := m) (p := p) f9]; exact he) f9
        · skip
          have hF : Facts [((.le (.var 2) (.lit (70))), true), ((.le (.var 3) (.lit (30))), false), ((.le (.var 3) (.lit (200))), false), ((.le (.var 3) (.lit (202))), false)] := ⟨f_le f1 rfl rfl, f_nle f2 rfl rfl, f_nle f3 rfl rfl, f_nle f4 rfl rfl, trivial⟩
          refine call_start (P := Try.prog) (K := trueK 6) (fl := []) (by kernel_rfl) (by kernel_rfl) hx hfar (trueK_ok awake_ok) (facD_ok hF) (fin_run (r := (.pl (.bool true))) (by kernel_rfl) rfl fun W' hbel => ⟨?_, hbel⟩)
          show Ending.returned (.bool true) = _
          rfl
  · skip
    have hF : Facts [((.le (.var 2) (.lit (70))), false)] := ⟨f_nle f1 rfl rfl, trivial⟩
    refine call_start (P := Try.prog) (K := trueK 6) (fl := []) (by kernel_rfl) (by kernel_rfl) hx hfar (trueK_ok awake_ok) (facD_ok hF) (fin_run (r := (.pl (.bool true))) (by kernel_rfl) rfl fun W' hbel => ⟨?_, hbel⟩)
    show Ending.returned (.bool true) = _
    rfl

end Go.Proofs.Ytmglofemnobakaa
