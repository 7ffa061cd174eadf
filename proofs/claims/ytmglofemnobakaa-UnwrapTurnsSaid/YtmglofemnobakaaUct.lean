/- Contract: what is wrong with turns, or what they cost. -/
import Derived.Test.YtmglofemnobakaaUkn
namespace Go.Proofs.Ytmglofemnobakaa
open Go.RowKit
set_option maxHeartbeats 4000000
set_option maxRecDepth 100000
set_option linter.unusedSimpArgs false
set_option linter.unusedVariables false

/-- what is wrong with turns, or what they cost -/
def rtR (N : Int) (n : Nat) (S : Nat → Nat → Int) (m : Nat) (t : Nat → Int) : Int × Int := if (m : Int) = N then (if (trR m t).2 = 0 then (cost S t n, 0) else (0, (trR m t).2)) else (0, 10)
def ctR (N : Int) (n : Nat) (S : Nat → Nat → Int) (m : Nat) (t : Nat → Int) : Int × Int := if (cnR N n S).2 = 0 then rtR N n S m t else (0, (cnR N n S).2)


theorem checkTurns_any (N : Int) (A B : Option Addr) (n c m d : Nat) (S : Nat → Nat → Int) (t : Nat → Int) (W : World) (hS : RowR W A (n * 4) (flat4 S)) (hT : RowR W B m (flat1 t)) (hN : I64 N) (hc : n ≤ c) (hd : m ≤ d) (hn : n ≤ 9223372036854775807) (hm : m ≤ 1000000) :
    Calls Try.prog 8 #[.agg #[.int .i64 N, .slice A n c], .slice B m d] W fun e w' => e = .returned (.tuple #[.int .i64 (ctR N n S m t).1, .int .i64 (ctR N n S m t).2]) ∧ Below W.heap.size W w' := by
  skip
  have hrows : RowsIn W [⟨A, n * 4, flat4 S⟩, ⟨B, m, flat1 t⟩] := ⟨hS, hT, trivial⟩
  letI : Rho := rhoL W.heap.size ([N, (n : Int), (m : Int), (feR N n S).1, (feR N n S).2, (trR m t).1, (trR m t).2, (cost S t n)]) [⟨A, n * 4, flat4 S⟩, ⟨B, m, flat1 t⟩] [] []
  have hfar : Far W := far_list hrows
  have hx : RepL (fun _ => False) (fun _ => 0) (fun _ => 0) coC (#[.agg #[.int .i64 N, .slice A n c], .slice B m d] : Array Value).toList := by
    refine repL_cons'.2 ⟨?_, repL_one (by simp only [Rep]; exact fsl_row 1 1 hrows rfl (by simp [rowAt]) (by omega) rfl rfl hd)⟩
    simp only [Rep]
    exact ⟨_, rfl, repL_cons'.2 ⟨by simp only [Rep]; rfl, repL_one (by simp only [Rep]; exact fsl_row 0 4 hrows rfl rfl (by omega) rfl rfl hc)⟩⟩
  by_cases f1 : 0 ≤ N
  · skip
    by_cases f2 : N ≤ 200
    · skip
      by_cases f3 : (n : Int) ≤ 600
      · skip
        by_cases f4 : (m : Int) = N
        · skip
          by_cases f5 : (feR N n S).2 = 0
          · skip
            by_cases f6 : (trR m t).2 = 0
            · skip
              have hF : Facts [((.le (.lit (0)) (.var 0)), true), ((.le (.var 0) (.lit (200))), true), ((.le (.var 1) (.lit (600))), true), ((.eq (.var 2) (.var 0)), true), ((.eq (.var 4) (.lit (0))), true), ((.eq (.var 6) (.lit (0))), true)] := ⟨f_le f1 rfl rfl, f_le f2 rfl rfl, f_le f3 rfl rfl, f_eq f4 rfl rfl, f_eq f5 rfl rfl, f_eq f6 rfl rfl, trivial⟩
              refine call_start (P := Try.prog) (K := orK (feK 3) (orK (fiK 5) (coK 7))) (fl := []) (by kernel_rfl) (by kernel_rfl) hx hfar (orK_ok (feK_ok (N := N) (n := n) (S := S) rfl rfl rfl rfl rfl hN (by omega) (by omega)) (orK_ok (fiK_ok (m := m) (t := t) rfl rfl rfl rfl hm) (coK_ok (N := N) (n := n) (m := m) (S := S) (t := t) rfl rfl rfl rfl rfl rfl hN f4 (by rw [cn_edges (by omega) (by omega)]; exact f5) f6))) (facD_ok hF) (fin_run (r := (.tup [(.si .i64 (.var 7)), (.pl (.int .i64 (0)))])) (by kernel_rfl) rfl fun W' hbel => ⟨?_, hbel⟩)
              show Ending.returned (.tuple #[(.int .i64 (cost S t n)), (.int .i64 0)]) = _
              have hcn : cnR N n S = feR N n S := cn_edges (by omega) (by omega)
              unfold ctR
              rw [hcn]
              simp [rtR, f1, f2, f3, f4, f5, f6]
            · skip
              have hF : Facts [((.le (.lit (0)) (.var 0)), true), ((.le (.var 0) (.lit (200))), true), ((.le (.var 1) (.lit (600))), true), ((.eq (.var 2) (.var 0)), true), ((.eq (.var 4) (.lit (0))), true), ((.eq (.var 6) (.lit (0))), false)] := ⟨f_le f1 rfl rfl, f_le f2 rfl rfl, f_le f3 rfl rfl, f_eq f4 rfl rfl, f_eq f5 rfl rfl, f_ne f6 rfl rfl, trivial⟩
              refine call_start (P := Try.prog) (K := orK (feK 3) (fiK 5)) (fl := []) (by kernel_rfl) (by kernel_rfl) hx hfar (orK_ok (feK_ok (N := N) (n := n) (S := S) rfl rfl rfl rfl rfl hN (by omega) (by omega)) (fiK_ok (m := m) (t := t) rfl rfl rfl rfl hm)) (facD_ok hF) (fin_run (r := (.tup [(.pl (.int .i64 (0))), (.si .i64 (.var 6))])) (by kernel_rfl) rfl fun W' hbel => ⟨?_, hbel⟩)
              show Ending.returned (.tuple #[(.int .i64 0), (.int .i64 (trR m t).2)]) = _
              have hcn : cnR N n S = feR N n S := cn_edges (by omega) (by omega)
              unfold ctR
              rw [hcn]
              simp [rtR, f1, f2, f3, f4, f5, f6]
          · skip
            have hF : Facts [((.le (.lit (0)) (.var 0)), true), ((.le (.var 0) (.lit (200))), true), ((.le (.var 1) (.lit (600))), true), ((.eq (.var 2) (.var 0)), true), ((.eq (.var 4) (.lit (0))), false)] := ⟨f_le f1 rfl rfl, f_le f2 rfl rfl, f_le f3 rfl rfl, f_eq f4 rfl rfl, f_ne f5 rfl rfl, trivial⟩
            refine call_start (P := Try.prog) (K := orK (feK 3) (fiK 5)) (fl := []) (by kernel_rfl) (by kernel_rfl) hx hfar (orK_ok (feK_ok (N := N) (n := n) (S := S) rfl rfl rfl rfl rfl hN (by omega) (by omega)) (fiK_ok (m := m) (t := t) rfl rfl rfl rfl hm)) (facD_ok hF) (fin_run (r := (.tup [(.pl (.int .i64 (0))), (.si .i64 (.var 4))])) (by kernel_rfl) rfl fun W' hbel => ⟨?_, hbel⟩)
            show Ending.returned (.tuple #[(.int .i64 0), (.int .i64 (feR N n S).2)]) = _
            have hcn : cnR N n S = feR N n S := cn_edges (by omega) (by omega)
            unfold ctR
            rw [hcn]
            simp [rtR, f1, f2, f3, f4, f5]
        · skip
          by_cases f5 : (feR N n S).2 = 0
          · skip
            have hF : Facts [((.le (.lit (0)) (.var 0)), true), ((.le (.var 0) (.lit (200))), true), ((.le (.var 1) (.lit (600))), true), ((.eq (.var 2) (.var 0)), false), ((.eq (.var 4) (.lit (0))), true)] := ⟨f_le f1 rfl rfl, f_le f2 rfl rfl, f_le f3 rfl rfl, f_ne f4 rfl rfl, f_eq f5 rfl rfl, trivial⟩
            refine call_start (P := Try.prog) (K := orK (feK 3) (fiK 5)) (fl := []) (by kernel_rfl) (by kernel_rfl) hx hfar (orK_ok (feK_ok (N := N) (n := n) (S := S) rfl rfl rfl rfl rfl hN (by omega) (by omega)) (fiK_ok (m := m) (t := t) rfl rfl rfl rfl hm)) (facD_ok hF) (fin_run (r := (.tup [(.pl (.int .i64 (0))), (.pl (.int .i64 (10)))])) (by kernel_rfl) rfl fun W' hbel => ⟨?_, hbel⟩)
            show Ending.returned (.tuple #[(.int .i64 0), (.int .i64 10)]) = _
            have hcn : cnR N n S = feR N n S := cn_edges (by omega) (by omega)
            unfold ctR
            rw [hcn]
            simp [rtR, f1, f2, f3, f4, f5]
          · skip
            have hF : Facts [((.le (.lit (0)) (.var 0)), true), ((.le (.var 0) (.lit (200))), true), ((.le (.var 1) (.lit (600))), true), ((.eq (.var 2) (.var 0)), false), ((.eq (.var 4) (.lit (0))), false)] := ⟨f_le f1 rfl rfl, f_le f2 rfl rfl, f_le f3 rfl rfl, f_ne f4 rfl rfl, f_ne f5 rfl rfl, trivial⟩
            refine call_start (P := Try.prog) (K := orK (feK 3) (fiK 5)) (fl := []) (by kernel_rfl) (by kernel_rfl) hx hfar (orK_ok (feK_ok (N := N) (n := n) (S := S) rfl rfl rfl rfl rfl hN (by omega) (by omega)) (fiK_ok (m := m) (t := t) rfl rfl rfl rfl hm)) (facD_ok hF) (fin_run (r := (.tup [(.pl (.int .i64 (0))), (.si .i64 (.var 4))])) (by kernel_rfl) rfl fun W' hbel => ⟨?_, hbel⟩)
            show Ending.returned (.tuple #[(.int .i64 0), (.int .i64 (feR N n S).2)]) = _
            have hcn : cnR N n S = feR N n S := cn_edges (by omega) (by omega)
            unfold ctR
            rw [hcn]
            simp [rtR, f1, f2, f3, f4, f5]
      · skip
        by_cases f4 : (m : Int) = N
        · skip
          have hF : Facts [((.le (.lit (0)) (.var 0)), true), ((.le (.var 0) (.lit (200))), true), ((.le (.var 1) (.lit (600))), false), ((.eq (.var 2) (.var 0)), true)] := ⟨f_le f1 rfl rfl, f_le f2 rfl rfl, f_nle f3 rfl rfl, f_eq f4 rfl rfl, trivial⟩
          refine call_start (P := Try.prog) (K := fiK 5) (fl := []) (by kernel_rfl) (by kernel_rfl) hx hfar (fiK_ok (m := m) (t := t) rfl rfl rfl rfl hm) (facD_ok hF) (fin_run (r := (.tup [(.pl (.int .i64 (0))), (.pl (.int .i64 (8)))])) (by kernel_rfl) rfl fun W' hbel => ⟨?_, hbel⟩)
          show Ending.returned (.tuple #[(.int .i64 0), (.int .i64 8)]) = _
          have hcn : cnR N n S = (0, 8) := cn_large (by omega) (by omega)
          unfold ctR
          rw [hcn]
          simp [rtR, f1, f2, f3, f4]
        · skip
          have hF : Facts [((.le (.lit (0)) (.var 0)), true), ((.le (.var 0) (.lit (200))), true), ((.le (.var 1) (.lit (600))), false), ((.eq (.var 2) (.var 0)), false)] := ⟨f_le f1 rfl rfl, f_le f2 rfl rfl, f_nle f3 rfl rfl, f_ne f4 rfl rfl, trivial⟩
          refine call_start (P := Try.prog) (K := fiK 5) (fl := []) (by kernel_rfl) (by kernel_rfl) hx hfar (fiK_ok (m := m) (t := t) rfl rfl rfl rfl hm) (facD_ok hF) (fin_run (r := (.tup [(.pl (.int .i64 (0))), (.pl (.int .i64 (8)))])) (by kernel_rfl) rfl fun W' hbel => ⟨?_, hbel⟩)
          show Ending.returned (.tuple #[(.int .i64 0), (.int .i64 8)]) = _
          have hcn : cnR N n S = (0, 8) := cn_large (by omega) (by omega)
          unfold ctR
          rw [hcn]
          simp [rtR, f1, f2, f3, f4]
    · skip
      by_cases f3 : (m : Int) = N
      · skip
        have hF : Facts [((.le (.lit (0)) (.var 0)), true), ((.le (.var 0) (.lit (200))), false), ((.eq (.var 2) (.var 0)), true)] := ⟨f_le f1 rfl rfl, f_nle f2 rfl rfl, f_eq f3 rfl rfl, trivial⟩
        refine call_start (P := Try.prog) (K := fiK 5) (fl := []) (by kernel_rfl) (by kernel_rfl) hx hfar (fiK_ok (m := m) (t := t) rfl rfl rfl rfl hm) (facD_ok hF) (fin_run (r := (.tup [(.pl (.int .i64 (0))), (.pl (.int .i64 (2)))])) (by kernel_rfl) rfl fun W' hbel => ⟨?_, hbel⟩)
        show Ending.returned (.tuple #[(.int .i64 0), (.int .i64 2)]) = _
        have hcn : cnR N n S = (0, 2) := cn_range (by omega)
        unfold ctR
        rw [hcn]
        simp [rtR, f1, f2, f3]
      · skip
        have hF : Facts [((.le (.lit (0)) (.var 0)), true), ((.le (.var 0) (.lit (200))), false), ((.eq (.var 2) (.var 0)), false)] := ⟨f_le f1 rfl rfl, f_nle f2 rfl rfl, f_ne f3 rfl rfl, trivial⟩
        refine call_start (P := Try.prog) (K := fiK 5) (fl := []) (by kernel_rfl) (by kernel_rfl) hx hfar (fiK_ok (m := m) (t := t) rfl rfl rfl rfl hm) (facD_ok hF) (fin_run (r := (.tup [(.pl (.int .i64 (0))), (.pl (.int .i64 (2)))])) (by kernel_rfl) rfl fun W' hbel => ⟨?_, hbel⟩)
        show Ending.returned (.tuple #[(.int .i64 0), (.int .i64 2)]) = _
        have hcn : cnR N n S = (0, 2) := cn_range (by omega)
        unfold ctR
        rw [hcn]
        simp [rtR, f1, f2, f3]
  · skip
    by_cases f2 : (m : Int) = N
    · skip
      have hF : Facts [((.le (.lit (0)) (.var 0)), false), ((.eq (.var 2) (.var 0)), true)] := ⟨f_nle f1 rfl rfl, f_eq f2 rfl rfl, trivial⟩
      refine call_start (P := Try.prog) (K := fiK 5) (fl := []) (by kernel_rfl) (by kernel_rfl) hx hfar (fiK_ok (m := m) (t := t) rfl rfl rfl rfl hm) (facD_ok hF) (fin_run (r := (.tup [(.pl (.int .i64 (0))), (.pl (.int .i64 (2)))])) (by kernel_rfl) rfl fun W' hbel => ⟨?_, hbel⟩)
      show Ending.returned (.tuple #[(.int .i64 0), (.int .i64 2)]) = _
      have hcn : cnR N n S = (0, 2) := cn_range (by omega)
      unfold ctR
      rw [hcn]
      simp [rtR, f1, f2]
    · skip
      have hF : Facts [((.le (.lit (0)) (.var 0)), false), ((.eq (.var 2) (.var 0)), false)] := ⟨f_nle f1 rfl rfl, f_ne f2 rfl rfl, trivial⟩
      refine call_start (P := Try.prog) (K := fiK 5) (fl := []) (by kernel_rfl) (by kernel_rfl) hx hfar (fiK_ok (m := m) (t := t) rfl rfl rfl rfl hm) (facD_ok hF) (fin_run (r := (.tup [(.pl (.int .i64 (0))), (.pl (.int .i64 (2)))])) (by kernel_rfl) rfl fun W' hbel => ⟨?_, hbel⟩)
      show Ending.returned (.tuple #[(.int .i64 0), (.int .i64 2)]) = _
      have hcn : cnR N n S = (0, 2) := cn_range (by omega)
      unfold ctR
      rw [hcn]
      simp [rtR, f1, f2]

end Go.Proofs.Ytmglofemnobakaa
