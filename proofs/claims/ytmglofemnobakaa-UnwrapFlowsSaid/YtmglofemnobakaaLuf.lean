/- The law: the value of a flow, or the first error, is as specified, for any ones. -/
import Derived.Test.YtmglofemnobakaaUvk
import Derived.Test.YtmglofemnobakaaEvu
import Derived.Test.YtmglofemnobakaaGar
namespace Go.Proofs.Ytmglofemnobakaa
open Go.RowKit
set_option maxHeartbeats 4000000
set_option maxRecDepth 100000
set_option linter.unusedSimpArgs false
set_option linter.unusedVariables false



theorem flows_all (N : Int) (A B : Option Addr) (n c m d : Nat) (S : Nat → Nat → Int) (f : Nat → Int) (W : World) (hS : RowR W A (n * 4) (flat4 S)) (hT : RowR W B m (flat1 f)) (hN : I64 N) (hc : n ≤ c) (hd : m ≤ d) (hn : n ≤ 9223372036854775807) :
    Calls Try.prog 4 #[.agg #[.int .i64 N, .slice A n c], .slice B m d] W fun e w' => e = .returned (.bool true) ∧ Below W.heap.size W w' := by
  skip
  have hrows : RowsIn W [⟨A, n * 4, flat4 S⟩, ⟨B, m, flat1 f⟩] := ⟨hS, hT, trivial⟩
  letI : Rho := rhoL W.heap.size ([N, (n : Int), (m : Int), (cfR N n S m f).1, (cfR N n S m f).2, (cnR N n S).2, (rfR N n S m f).1, (rfR N n S m f).2]) [⟨A, n * 4, flat4 S⟩, ⟨B, m, flat1 f⟩] [(fewF N n S)] []
  have hfar : Far W := far_list hrows
  have hx : RepL (fun _ => False) (fun _ => 0) (fun _ => 0) coC (#[.agg #[.int .i64 N, .slice A n c], .slice B m d] : Array Value).toList := by
    refine repL_cons'.2 ⟨?_, repL_one (by simp only [Rep]; exact fsl_row 1 1 hrows rfl (by simp [rowAt]) (by omega) rfl rfl hd)⟩
    simp only [Rep]
    exact ⟨_, rfl, repL_cons'.2 ⟨by simp only [Rep]; rfl, repL_one (by simp only [Rep]; exact fsl_row 0 4 hrows rfl rfl (by omega) rfl rfl hc)⟩⟩
  cases f1 : (fewF N n S)
  · skip
    have hF : Facts [((.bvar 0), false)] := ⟨f1, trivial⟩
    refine call_start (P := Try.prog) (K := orK (trueK 6) (fewK 0)) (fl := []) (by kernel_rfl) (by kernel_rfl) hx hfar (orK_ok (trueK_ok awake_ok) (fewK_ok (N := N) (n := n) (S := S) rfl rfl rfl rfl hN hn)) (facD_ok hF) (fin_run (r := (.pl (.bool true))) (by kernel_rfl) rfl fun W' hbel => ⟨?_, hbel⟩)
    show Ending.returned (.bool true) = _
    rfl
  · skip
    by_cases f2 : (m : Int) ≤ 20
    · skip
      by_cases f3 : (n : Int) ≤ 0
      · skip
        by_cases f4 : (m : Int) ≤ 0
        · skip
          by_cases f5 : (cnR N n S).2 = 0
          · skip
            by_cases f6 : (cfR N n S m f).2 = (rfR N n S m f).2
            · skip
              have hF : Facts [((.bvar 0), true), ((.le (.var 2) (.lit (20))), true), ((.le (.var 1) (.lit (0))), true), ((.le (.var 2) (.lit (0))), true), ((.eq (.var 5) (.lit (0))), true), ((.eq (.var 4) (.var 7)), true)] := ⟨f1, f_le f2 rfl rfl, f_le f3 rfl rfl, f_le f4 rfl rfl, f_eq f5 rfl rfl, f_eq f6 rfl rfl, trivial⟩
              refine call_start (P := Try.prog) (K := orK (orK (orK (trueK 6) (fewK 0)) (orK (cfK 3 true true) (reK 5))) (rfK 6 false false)) (fl := []) (by kernel_rfl) (by kernel_rfl) hx hfar (orK_ok (orK_ok (orK_ok (trueK_ok awake_ok) (fewK_ok (N := N) (n := n) (S := S) rfl rfl rfl rfl hN hn)) (orK_ok (cfK_ok (N := N) (n := n) (m := m) (S := S) (t := f) rfl rfl rfl rfl rfl (fun _ => by show (n : Int) = 0; omega) (fun _ => by show (m : Int) = 0; omega) rfl rfl hN hn (by omega)) (reK_ok (N := N) (n := n) (S := S) rfl rfl rfl rfl hN hn))) (rfK_ok (N := N) (n := n) (m := m) (S := S) (t := f) rfl rfl rfl rfl rfl (fun h => by cases h) (fun h => by cases h) rfl rfl (by omega) f5)) (facD_ok hF) (fin_run (r := (.sb (.eq (.var 3) (.var 6)))) (by kernel_rfl) rfl fun W' hbel => ⟨?_, hbel⟩)
              show Ending.returned (.bool (decide ((cfR N n S m f).1 = (rfR N n S m f).1))) = _
              have e : cfR N n S m f = rfR N n S m f := by unfold cfR; rw [if_pos f5]
              rw [e]
              simp
            · skip
              have hF : Facts [((.bvar 0), true), ((.le (.var 2) (.lit (20))), true), ((.le (.var 1) (.lit (0))), true), ((.le (.var 2) (.lit (0))), true), ((.eq (.var 5) (.lit (0))), true), ((.eq (.var 4) (.var 7)), false)] := ⟨f1, f_le f2 rfl rfl, f_le f3 rfl rfl, f_le f4 rfl rfl, f_eq f5 rfl rfl, f_ne f6 rfl rfl, trivial⟩
              refine call_start (P := Try.prog) (K := orK (orK (orK (trueK 6) (fewK 0)) (orK (cfK 3 true true) (reK 5))) (rfK 6 false false)) (fl := []) (by kernel_rfl) (by kernel_rfl) hx hfar (orK_ok (orK_ok (orK_ok (trueK_ok awake_ok) (fewK_ok (N := N) (n := n) (S := S) rfl rfl rfl rfl hN hn)) (orK_ok (cfK_ok (N := N) (n := n) (m := m) (S := S) (t := f) rfl rfl rfl rfl rfl (fun _ => by show (n : Int) = 0; omega) (fun _ => by show (m : Int) = 0; omega) rfl rfl hN hn (by omega)) (reK_ok (N := N) (n := n) (S := S) rfl rfl rfl rfl hN hn))) (rfK_ok (N := N) (n := n) (m := m) (S := S) (t := f) rfl rfl rfl rfl rfl (fun h => by cases h) (fun h => by cases h) rfl rfl (by omega) f5)) (facD_ok hF) (fin_run (r := (.pl (.bool false))) (by kernel_rfl) rfl fun W' hbel => ⟨?_, hbel⟩)
              show Ending.returned (.bool false) = _
              have e : cfR N n S m f = rfR N n S m f := by unfold cfR; rw [if_pos f5]
              rw [e] at f6
              exact absurd rfl f6
          · skip
            by_cases f6 : (cfR N n S m f).2 = (cnR N n S).2
            · skip
              have hF : Facts [((.bvar 0), true), ((.le (.var 2) (.lit (20))), true), ((.le (.var 1) (.lit (0))), true), ((.le (.var 2) (.lit (0))), true), ((.eq (.var 5) (.lit (0))), false), ((.eq (.var 4) (.var 5)), true)] := ⟨f1, f_le f2 rfl rfl, f_le f3 rfl rfl, f_le f4 rfl rfl, f_ne f5 rfl rfl, f_eq f6 rfl rfl, trivial⟩
              refine call_start (P := Try.prog) (K := orK (orK (trueK 6) (fewK 0)) (orK (cfK 3 true true) (reK 5))) (fl := []) (by kernel_rfl) (by kernel_rfl) hx hfar (orK_ok (orK_ok (trueK_ok awake_ok) (fewK_ok (N := N) (n := n) (S := S) rfl rfl rfl rfl hN hn)) (orK_ok (cfK_ok (N := N) (n := n) (m := m) (S := S) (t := f) rfl rfl rfl rfl rfl (fun _ => by show (n : Int) = 0; omega) (fun _ => by show (m : Int) = 0; omega) rfl rfl hN hn (by omega)) (reK_ok (N := N) (n := n) (S := S) rfl rfl rfl rfl hN hn))) (facD_ok hF) (fin_run (r := (.sb (.eq (.var 3) (.lit (0))))) (by kernel_rfl) rfl fun W' hbel => ⟨?_, hbel⟩)
              show Ending.returned (.bool (decide ((cfR N n S m f).1 = 0))) = _
              have e : cfR N n S m f = (0, (cnR N n S).2) := by unfold cfR; rw [if_neg f5]
              rw [e]
              simp
            · skip
              have hF : Facts [((.bvar 0), true), ((.le (.var 2) (.lit (20))), true), ((.le (.var 1) (.lit (0))), true), ((.le (.var 2) (.lit (0))), true), ((.eq (.var 5) (.lit (0))), false), ((.eq (.var 4) (.var 5)), false)] := ⟨f1, f_le f2 rfl rfl, f_le f3 rfl rfl, f_le f4 rfl rfl, f_ne f5 rfl rfl, f_ne f6 rfl rfl, trivial⟩
              refine call_start (P := Try.prog) (K := orK (orK (trueK 6) (fewK 0)) (orK (cfK 3 true true) (reK 5))) (fl := []) (by kernel_rfl) (by kernel_rfl) hx hfar (orK_ok (orK_ok (trueK_ok awake_ok) (fewK_ok (N := N) (n := n) (S := S) rfl rfl rfl rfl hN hn)) (orK_ok (cfK_ok (N := N) (n := n) (m := m) (S := S) (t := f) rfl rfl rfl rfl rfl (fun _ => by show (n : Int) = 0; omega) (fun _ => by show (m : Int) = 0; omega) rfl rfl hN hn (by omega)) (reK_ok (N := N) (n := n) (S := S) rfl rfl rfl rfl hN hn))) (facD_ok hF) (fin_run (r := (.pl (.bool false))) (by kernel_rfl) rfl fun W' hbel => ⟨?_, hbel⟩)
              show Ending.returned (.bool false) = _
              have e : cfR N n S m f = (0, (cnR N n S).2) := by unfold cfR; rw [if_neg f5]
              rw [e] at f6
              exact absurd rfl f6
        · skip
          have f5 : ((m : Int) ≤ 100000) := by
            first | omega | (have hq := fewF_n f1; omega)
          by_cases f6 : (cnR N n S).2 = 0
          · skip
            by_cases f7 : (cfR N n S m f).2 = (rfR N n S m f).2
            · skip
              have hF : Facts [((.bvar 0), true), ((.le (.var 2) (.lit (20))), true), ((.le (.var 1) (.lit (0))), true), ((.le (.var 2) (.lit (0))), false), ((.le (.var 2) (.lit (100000))), true), ((.eq (.var 5) (.lit (0))), true), ((.eq (.var 4) (.var 7)), true)] := ⟨f1, f_le f2 rfl rfl, f_le f3 rfl rfl, f_nle f4 rfl rfl, f_le f5 rfl rfl, f_eq f6 rfl rfl, f_eq f7 rfl rfl, trivial⟩
              refine call_start (P := Try.prog) (K := orK (orK (orK (trueK 6) (fewK 0)) (orK (cfK 3 true false) (reK 5))) (rfK 6 false false)) (fl := []) (by kernel_rfl) (by kernel_rfl) hx hfar (orK_ok (orK_ok (orK_ok (trueK_ok awake_ok) (fewK_ok (N := N) (n := n) (S := S) rfl rfl rfl rfl hN hn)) (orK_ok (cfK_ok (N := N) (n := n) (m := m) (S := S) (t := f) rfl rfl rfl rfl rfl (fun _ => by show (n : Int) = 0; omega) (fun h => by cases h) rfl rfl hN hn (by omega)) (reK_ok (N := N) (n := n) (S := S) rfl rfl rfl rfl hN hn))) (rfK_ok (N := N) (n := n) (m := m) (S := S) (t := f) rfl rfl rfl rfl rfl (fun h => by cases h) (fun h => by cases h) rfl rfl (by omega) f6)) (facD_ok hF) (fin_run (r := (.sb (.eq (.var 3) (.var 6)))) (by kernel_rfl) rfl fun W' hbel => ⟨?_, hbel⟩)
              show Ending.returned (.bool (decide ((cfR N n S m f).1 = (rfR N n S m f).1))) = _
              have e : cfR N n S m f = rfR N n S m f := by unfold cfR; rw [if_pos f6]
              rw [e]
              simp
            · skip
              have hF : Facts [((.bvar 0), true), ((.le (.var 2) (.lit (20))), true), ((.le (.var 1) (.lit (0))), true), ((.le (.var 2) (.lit (0))), false), ((.le (.var 2) (.lit (100000))), true), ((.eq (.var 5) (.lit (0))), true), ((.eq (.var 4) (.var 7)), false)] := ⟨f1, f_le f2 rfl rfl, f_le f3 rfl rfl, f_nle f4 rfl rfl, f_le f5 rfl rfl, f_eq f6 rfl rfl, f_ne f7 rfl rfl, trivial⟩
              refine call_start (P := Try.prog) (K := orK (orK (orK (trueK 6) (fewK 0)) (orK (cfK 3 true false) (reK 5))) (rfK 6 false false)) (fl := []) (by kernel_rfl) (by kernel_rfl) hx hfar (orK_ok (orK_ok (orK_ok (trueK_ok awake_ok) (fewK_ok (N := N) (n := n) (S := S) rfl rfl rfl rfl hN hn)) (orK_ok (cfK_ok (N := N) (n := n) (m := m) (S := S) (t := f) rfl rfl rfl rfl rfl (fun _ => by show (n : Int) = 0; omega) (fun h => by cases h) rfl rfl hN hn (by omega)) (reK_ok (N := N) (n := n) (S := S) rfl rfl rfl rfl hN hn))) (rfK_ok (N := N) (n := n) (m := m) (S := S) (t := f) rfl rfl rfl rfl rfl (fun h => by cases h) (fun h => by cases h) rfl rfl (by omega) f6)) (facD_ok hF) (fin_run (r := (.pl (.bool false))) (by kernel_rfl) rfl fun W' hbel => ⟨?_, hbel⟩)
              show Ending.returned (.bool false) = _
              have e : cfR N n S m f = rfR N n S m f := by unfold cfR; rw [if_pos f6]
              rw [e] at f7
              exact absurd rfl f7
          · skip
            by_cases f7 : (cfR N n S m f).2 = (cnR N n S).2
            · skip
              have hF : Facts [((.bvar 0), true), ((.le (.var 2) (.lit (20))), true), ((.le (.var 1) (.lit (0))), true), ((.le (.var 2) (.lit (0))), false), ((.le (.var 2) (.lit (100000))), true), ((.eq (.var 5) (.lit (0))), false), ((.eq (.var 4) (.var 5)), true)] := ⟨f1, f_le f2 rfl rfl, f_le f3 rfl rfl, f_nle f4 rfl rfl, f_le f5 rfl rfl, f_ne f6 rfl rfl, f_eq f7 rfl rfl, trivial⟩
              refine call_start (P := Try.prog) (K := orK (orK (trueK 6) (fewK 0)) (orK (cfK 3 true false) (reK 5))) (fl := []) (by kernel_rfl) (by kernel_rfl) hx hfar (orK_ok (orK_ok (trueK_ok awake_ok) (fewK_ok (N := N) (n := n) (S := S) rfl rfl rfl rfl hN hn)) (orK_ok (cfK_ok (N := N) (n := n) (m := m) (S := S) (t := f) rfl rfl rfl rfl rfl (fun _ => by show (n : Int) = 0; omega) (fun h => by cases h) rfl rfl hN hn (by omega)) (reK_ok (N := N) (n := n) (S := S) rfl rfl rfl rfl hN hn))) (facD_ok hF) (fin_run (r := (.sb (.eq (.var 3) (.lit (0))))) (by kernel_rfl) rfl fun W' hbel => ⟨?_, hbel⟩)
              show Ending.returned (.bool (decide ((cfR N n S m f).1 = 0))) = _
              have e : cfR N n S m f = (0, (cnR N n S).2) := by unfold cfR; rw [if_neg f6]
              rw [e]
              simp
            · skip
              have hF : Facts [((.bvar 0), true), ((.le (.var 2) (.lit (20))), true), ((.le (.var 1) (.lit (0))), true), ((.le (.var 2) (.lit (0))), false), ((.le (.var 2) (.lit (100000))), true), ((.eq (.var 5) (.lit (0))), false), ((.eq (.var 4) (.var 5)), false)] := ⟨f1, f_le f2 rfl rfl, f_le f3 rfl rfl, f_nle f4 rfl rfl, f_le f5 rfl rfl, f_ne f6 rfl rfl, f_ne f7 rfl rfl, trivial⟩
              refine call_start (P := Try.prog) (K := orK (orK (trueK 6) (fewK 0)) (orK (cfK 3 true false) (reK 5))) (fl := []) (by kernel_rfl) (by kernel_rfl) hx hfar (orK_ok (orK_ok (trueK_ok awake_ok) (fewK_ok (N := N) (n := n) (S := S) rfl rfl rfl rfl hN hn)) (orK_ok (cfK_ok (N := N) (n := n) (m := m) (S := S) (t := f) rfl rfl rfl rfl rfl (fun _ => by show (n : Int) = 0; omega) (fun h => by cases h) rfl rfl hN hn (by omega)) (reK_ok (N := N) (n := n) (S := S) rfl rfl rfl rfl hN hn))) (facD_ok hF) (fin_run (r := (.pl (.bool false))) (by kernel_rfl) rfl fun W' hbel => ⟨?_, hbel⟩)
              show Ending.returned (.bool false) = _
              have e : cfR N n S m f = (0, (cnR N n S).2) := by unfold cfR; rw [if_neg f6]
              rw [e] at f7
              exact absurd rfl f7
      · skip
        have f4 : ((n : Int) ≤ 100000) := by
          first | omega | (have hq := fewF_n f1; omega)
        by_cases f5 : (m : Int) ≤ 0
        · skip
          by_cases f6 : (cnR N n S).2 = 0
          · skip
            by_cases f7 : (cfR N n S m f).2 = (rfR N n S m f).2
            · skip
              have hF : Facts [((.bvar 0), true), ((.le (.var 2) (.lit (20))), true), ((.le (.var 1) (.lit (0))), false), ((.le (.var 1) (.lit (100000))), true), ((.le (.var 2) (.lit (0))), true), ((.eq (.var 5) (.lit (0))), true), ((.eq (.var 4) (.var 7)), true)] := ⟨f1, f_le f2 rfl rfl, f_nle f3 rfl rfl, f_le f4 rfl rfl, f_le f5 rfl rfl, f_eq f6 rfl rfl, f_eq f7 rfl rfl, trivial⟩
              refine call_start (P := Try.prog) (K := orK (orK (orK (trueK 6) (fewK 0)) (orK (cfK 3 false true) (reK 5))) (rfK 6 false false)) (fl := []) (by kernel_rfl) (by kernel_rfl) hx hfar (orK_ok (orK_ok (orK_ok (trueK_ok awake_ok) (fewK_ok (N := N) (n := n) (S := S) rfl rfl rfl rfl hN hn)) (orK_ok (cfK_ok (N := N) (n := n) (m := m) (S := S) (t := f) rfl rfl rfl rfl rfl (fun h => by cases h) (fun _ => by show (m : Int) = 0; omega) rfl rfl hN hn (by omega)) (reK_ok (N := N) (n := n) (S := S) rfl rfl rfl rfl hN hn))) (rfK_ok (N := N) (n := n) (m := m) (S := S) (t := f) rfl rfl rfl rfl rfl (fun h => by cases h) (fun h => by cases h) rfl rfl (by omega) f6)) (facD_ok hF) (fin_run (r := (.sb (.eq (.var 3) (.var 6)))) (by kernel_rfl) rfl fun W' hbel => ⟨?_, hbel⟩)
              show Ending.returned (.bool (decide ((cfR N n S m f).1 = (rfR N n S m f).1))) = _
              have e : cfR N n S m f = rfR N n S m f := by unfold cfR; rw [if_pos f6]
              rw [e]
              simp
            · skip
              have hF : Facts [((.bvar 0), true), ((.le (.var 2) (.lit (20))), true), ((.le (.var 1) (.lit (0))), false), ((.le (.var 1) (.lit (100000))), true), ((.le (.var 2) (.lit (0))), true), ((.eq (.var 5) (.lit (0))), true), ((.eq (.var 4) (.var 7)), false)] := ⟨f1, f_le f2 rfl rfl, f_nle f3 rfl rfl, f_le f4 rfl rfl, f_le f5 rfl rfl, f_eq f6 rfl rfl, f_ne f7 rfl rfl, trivial⟩
              refine call_start (P := Try.prog) (K := orK (orK (orK (trueK 6) (fewK 0)) (orK (cfK 3 false true) (reK 5))) (rfK 6 false false)) (fl := []) (by kernel_rfl) (by kernel_rfl) hx hfar (orK_ok (orK_ok (orK_ok (trueK_ok awake_ok) (fewK_ok (N := N) (n := n) (S := S) rfl rfl rfl rfl hN hn)) (orK_ok (cfK_ok (N := N) (n := n) (m := m) (S := S) (t := f) rfl rfl rfl rfl rfl (fun h => by cases h) (fun _ => by show (m : Int) = 0; omega) rfl rfl hN hn (by omega)) (reK_ok (N := N) (n := n) (S := S) rfl rfl rfl rfl hN hn))) (rfK_ok (N := N) (n := n) (m := m) (S := S) (t := f) rfl rfl rfl rfl rfl (fun h => by cases h) (fun h => by cases h) rfl rfl (by omega) f6)) (facD_ok hF) (fin_run (r := (.pl (.bool false))) (by kernel_rfl) rfl fun W' hbel => ⟨?_, hbel⟩)
              show Ending.returned (.bool false) = _
              have e : cfR N n S m f = rfR N n S m f := by unfold cfR; rw [if_pos f6]
              rw [e] at f7
              exact absurd rfl f7
          · skip
            by_cases f7 : (cfR N n S m f).2 = (cnR N n S).2
            · skip
              have hF : Facts [((.bvar 0), true), ((.le (.var 2) (.lit (20))), true), ((.le (.var 1) (.lit (0))), false), ((.le (.var 1) (.lit (100000))), true), ((.le (.var 2) (.lit (0))), true), ((.eq (.var 5) (.lit (0))), false), ((.eq (.var 4) (.var 5)), true)] := ⟨f1, f_le f2 rfl rfl, f_nle f3 rfl rfl, f_le f4 rfl rfl, f_le f5 rfl rfl, f_ne f6 rfl rfl, f_eq f7 rfl rfl, trivial⟩
              refine call_start (P := Try.prog) (K := orK (orK (trueK 6) (fewK 0)) (orK (cfK 3 false true) (reK 5))) (fl := []) (by kernel_rfl) (by kernel_rfl) hx hfar (orK_ok (orK_ok (trueK_ok awake_ok) (fewK_ok (N := N) (n := n) (S := S) rfl rfl rfl rfl hN hn)) (orK_ok (cfK_ok (N := N) (n := n) (m := m) (S := S) (t := f) rfl rfl rfl rfl rfl (fun h => by cases h) (fun _ => by show (m : Int) = 0; omega) rfl rfl hN hn (by omega)) (reK_ok (N := N) (n := n) (S := S) rfl rfl rfl rfl hN hn))) (facD_ok hF) (fin_run (r := (.sb (.eq (.var 3) (.lit (0))))) (by kernel_rfl) rfl fun W' hbel => ⟨?_, hbel⟩)
              show Ending.returned (.bool (decide ((cfR N n S m f).1 = 0))) = _
              have e : cfR N n S m f = (0, (cnR N n S).2) := by unfold cfR; rw [if_neg f6]
              rw [e]
              simp
            · skip
              have hF : Facts [((.bvar 0), true), ((.le (.var 2) (.lit (20))), true), ((.le (.var 1) (.lit (0))), false), ((.le (.var 1) (.lit (100000))), true), ((.le (.var 2) (.lit (0))), true), ((.eq (.var 5) (.lit (0))), false), ((.eq (.var 4) (.var 5)), false)] := ⟨f1, f_le f2 rfl rfl, f_nle f3 rfl rfl, f_le f4 rfl rfl, f_le f5 rfl rfl, f_ne f6 rfl rfl, f_ne f7 rfl rfl, trivial⟩
              refine call_start (P := Try.prog) (K := orK (orK (trueK 6) (fewK 0)) (orK (cfK 3 false true) (reK 5))) (fl := []) (by kernel_rfl) (by kernel_rfl) hx hfar (orK_ok (orK_ok (trueK_ok awake_ok) (fewK_ok (N := N) (n := n) (S := S) rfl rfl rfl rfl hN hn)) (orK_ok (cfK_ok (N := N) (n := n) (m := m) (S := S) (t := f) rfl rfl rfl rfl rfl (fun h => by cases h) (fun _ => by show (m : Int) = 0; omega) rfl rfl hN hn (by omega)) (reK_ok (N := N) (n := n) (S := S) rfl rfl rfl rfl hN hn))) (facD_ok hF) (fin_run (r := (.pl (.bool false))) (by kernel_rfl) rfl fun W' hbel => ⟨?_, hbel⟩)
              show Ending.returned (.bool false) = _
              have e : cfR N n S m f = (0, (cnR N n S).2) := by unfold cfR; rw [if_neg f6]
              rw [e] at f7
              exact absurd rfl f7
        · skip
          have f6 : ((m : Int) ≤ 100000) := by
            first | omega | (have hq := fewF_n f1; omega)
          by_cases f7 : (cnR N n S).2 = 0
          · skip
            by_cases f8 : (cfR N n S m f).2 = (rfR N n S m f).2
            · skip
              have hF : Facts [((.bvar 0), true), ((.le (.var 2) (.lit (20))), true), ((.le (.var 1) (.lit (0))), false), ((.le (.var 1) (.lit (100000))), true), ((.le (.var 2) (.lit (0))), false), ((.le (.var 2) (.lit (100000))), true), ((.eq (.var 5) (.lit (0))), true), ((.eq (.var 4) (.var 7)), true)] := ⟨f1, f_le f2 rfl rfl, f_nle f3 rfl rfl, f_le f4 rfl rfl, f_nle f5 rfl rfl, f_le f6 rfl rfl, f_eq f7 rfl rfl, f_eq f8 rfl rfl, trivial⟩
              refine call_start (P := Try.prog) (K := orK (orK (orK (trueK 6) (fewK 0)) (orK (cfK 3 false false) (reK 5))) (rfK 6 false false)) (fl := []) (by kernel_rfl) (by kernel_rfl) hx hfar (orK_ok (orK_ok (orK_ok (trueK_ok awake_ok) (fewK_ok (N := N) (n := n) (S := S) rfl rfl rfl rfl hN hn)) (orK_ok (cfK_ok (N := N) (n := n) (m := m) (S := S) (t := f) rfl rfl rfl rfl rfl (fun h => by cases h) (fun h => by cases h) rfl rfl hN hn (by omega)) (reK_ok (N := N) (n := n) (S := S) rfl rfl rfl rfl hN hn))) (rfK_ok (N := N) (n := n) (m := m) (S := S) (t := f) rfl rfl rfl rfl rfl (fun h => by cases h) (fun h => by cases h) rfl rfl (by omega) f7)) (facD_ok hF) (fin_run (r := (.sb (.eq (.var 3) (.var 6)))) (by kernel_rfl) rfl fun W' hbel => ⟨?_, hbel⟩)
              show Ending.returned (.bool (decide ((cfR N n S m f).1 = (rfR N n S m f).1))) = _
              have e : cfR N n S m f = rfR N n S m f := by unfold cfR; rw [if_pos f7]
              rw [e]
              simp
            · skip
              have hF : Facts [((.bvar 0), true), ((.le (.var 2) (.lit (20))), true), ((.le (.var 1) (.lit (0))), false), ((.le (.var 1) (.lit (100000))), true), ((.le (.var 2) (.lit (0))), false), ((.le (.var 2) (.lit (100000))), true), ((.eq (.var 5) (.lit (0))), true), ((.eq (.var 4) (.var 7)), false)] := ⟨f1, f_le f2 rfl rfl, f_nle f3 rfl rfl, f_le f4 rfl rfl, f_nle f5 rfl rfl, f_le f6 rfl rfl, f_eq f7 rfl rfl, f_ne f8 rfl rfl, trivial⟩
              refine call_start (P := Try.prog) (K := orK (orK (orK (trueK 6) (fewK 0)) (orK (cfK 3 false false) (reK 5))) (rfK 6 false false)) (fl := []) (by kernel_rfl) (by kernel_rfl) hx hfar (orK_ok (orK_ok (orK_ok (trueK_ok awake_ok) (fewK_ok (N := N) (n := n) (S := S) rfl rfl rfl rfl hN hn)) (orK_ok (cfK_ok (N := N) (n := n) (m := m) (S := S) (t := f) rfl rfl rfl rfl rfl (fun h => by cases h) (fun h => by cases h) rfl rfl hN hn (by omega)) (reK_ok (N := N) (n := n) (S := S) rfl rfl rfl rfl hN hn))) (rfK_ok (N := N) (n := n) (m := m) (S := S) (t := f) rfl rfl rfl rfl rfl (fun h => by cases h) (fun h => by cases h) rfl rfl (by omega) f7)) (facD_ok hF) (fin_run (r := (.pl (.bool false))) (by kernel_rfl) rfl fun W' hbel => ⟨?_, hbel⟩)
              show Ending.returned (.bool false) = _
              have e : cfR N n S m f = rfR N n S m f := by unfold cfR; rw [if_pos f7]
              rw [e] at f8
              exact absurd rfl f8
          · skip
            by_cases f8 : (cfR N n S m f).2 = (cnR N n S).2
            · skip
              have hF : Facts [((.bvar 0), true), ((.le (.var 2) (.lit (20))), true), ((.le (.var 1) (.lit (0))), false), ((.le (.var 1) (.lit (100000))), true), ((.le (.var 2) (.lit (0))), false), ((.le (.var 2) (.lit (100000))), true), ((.eq (.var 5) (.lit (0))), false), ((.eq (.var 4) (.var 5)), true)] := ⟨f1, f_le f2 rfl rfl, f_nle f3 rfl rfl, f_le f4 rfl rfl, f_nle f5 rfl rfl, f_le f6 rfl rfl, f_ne f7 rfl rfl, f_eq f8 rfl rfl, trivial⟩
              refine call_start (P := Try.prog) (K := orK (orK (trueK 6) (fewK 0)) (orK (cfK 3 false false) (reK 5))) (fl := []) (by kernel_rfl) (by kernel_rfl) hx hfar (orK_ok (orK_ok (trueK_ok awake_ok) (fewK_ok (N := N) (n := n) (S := S) rfl rfl rfl rfl hN hn)) (orK_ok (cfK_ok (N := N) (n := n) (m := m) (S := S) (t := f) rfl rfl rfl rfl rfl (fun h => by cases h) (fun h => by cases h) rfl rfl hN hn (by omega)) (reK_ok (N := N) (n := n) (S := S) rfl rfl rfl rfl hN hn))) (facD_ok hF) (fin_run (r := (.sb (.eq (.var 3) (.lit (0))))) (by kernel_rfl) rfl fun W' hbel => ⟨?_, hbel⟩)
              show Ending.returned (.bool (decide ((cfR N n S m f).1 = 0))) = _
              have e : cfR N n S m f = (0, (cnR N n S).2) := by unfold cfR; rw [if_neg f7]
              rw [e]
              simp
            · skip
              have hF : Facts [((.bvar 0), true), ((.le (.var 2) (.lit (20))), true), ((.le (.var 1) (.lit (0))), false), ((.le (.var 1) (.lit (100000))), true), ((.le (.var 2) (.lit (0))), false), ((.le (.var 2) (.lit (100000))), true), ((.eq (.var 5) (.lit (0))), false), ((.eq (.var 4) (.var 5)), false)] := ⟨f1, f_le f2 rfl rfl, f_nle f3 rfl rfl, f_le f4 rfl rfl, f_nle f5 rfl rfl, f_le f6 rfl rfl, f_ne f7 rfl rfl, f_ne f8 rfl rfl, trivial⟩
              refine call_start (P := Try.prog) (K := orK (orK (trueK 6) (fewK 0)) (orK (cfK 3 false false) (reK 5))) (fl := []) (by kernel_rfl) (by kernel_rfl) hx hfar (orK_ok (orK_ok (trueK_ok awake_ok) (fewK_ok (N := N) (n := n) (S := S) rfl rfl rfl rfl hN hn)) (orK_ok (cfK_ok (N := N) (n := n) (m := m) (S := S) (t := f) rfl rfl rfl rfl rfl (fun h => by cases h) (fun h => by cases h) rfl rfl hN hn (by omega)) (reK_ok (N := N) (n := n) (S := S) rfl rfl rfl rfl hN hn))) (facD_ok hF) (fin_run (r := (.pl (.bool false))) (by kernel_rfl) rfl fun W' hbel => ⟨?_, hbel⟩)
              show Ending.returned (.bool false) = _
              have e : cfR N n S m f = (0, (cnR N n S).2) := by unfold cfR; rw [if_neg f7]
              rw [e] at f8
              exact absurd rfl f8
    · skip
      have hF : Facts [((.bvar 0), true), ((.le (.var 2) (.lit (20))), false)] := ⟨f1, f_nle f2 rfl rfl, trivial⟩
      refine call_start (P := Try.prog) (K := orK (trueK 6) (fewK 0)) (fl := []) (by kernel_rfl) (by kernel_rfl) hx hfar (orK_ok (trueK_ok awake_ok) (fewK_ok (N := N) (n := n) (S := S) rfl rfl rfl rfl hN hn)) (facD_ok hF) (fin_run (r := (.pl (.bool true))) (by kernel_rfl) rfl fun W' hbel => ⟨?_, hbel⟩)
      show Ending.returned (.bool true) = _
      rfl
theorem flows_law {W : World} (N : Int) (hN : I64 N) (A : Option Addr) (n c : Nat) (F : Int → Int) (hS : RowR W A (n * 4) F) (hc : n ≤ c) (mc : c ≤ maxLen) (_ : ∀ j : Nat, j < n * 4 → I64 (F j)) (_ : A = none → c = 0)
    (B : Option Addr) (m d : Nat) (G : Int → Int) (hT : RowR W B (m * 1) G) (hd : m ≤ d) (_ : d ≤ maxLen) (_ : ∀ j : Nat, j < m * 1 → I64 (G j)) (_ : B = none → d = 0) :
    Calls Try.prog 4 #[.agg #[.int .i64 N, .slice A n c], .slice B m d] W fun e w' => e = .returned (.bool true) ∧ Below W.heap.size W w' :=
  flows_all N A B n c m d (fun i j => F ((i * 4 + j : Nat) : Int)) (fun i => G (i : Int)) W (row_flat4 hS) (by rw [Nat.mul_one] at hT; exact row_list hT) hN hc hd (by have h : maxLen = 9223372036854775807 := rfl; omega)

end Go.Proofs.Ytmglofemnobakaa
