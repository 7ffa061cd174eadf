/- Contract: whether a net is few. -/
import Derived.Test.YtmglofemnobakaaUer
namespace Go.Proofs.Ytmglofemnobakaa
open Go.RowKit
set_option maxHeartbeats 4000000
set_option maxRecDepth 100000
set_option linter.unusedSimpArgs false
set_option linter.unusedVariables false

def fcode (j w : Int) : Int := if w ≤ 20 ∧ -5 ≤ j ∧ j ≤ 5 then 0 else 1
def fcd (S : Nat → Nat → Int) (i : Nat) : Int := fcode (flat4 S ((i : Int) * 4 + 2)) (flat4 S ((i : Int) * 4 + 3))
/-- whether a net is few -/
def fewF (N : Int) (n : Nat) (S : Nat → Nat → Int) : Bool := if (cnR N n S).2 = 0 then (decide (N ≤ 10) && decide ((n : Int) ≤ 16) && decide ((fw (fcd S) n).2 = 0)) else (decide ((n : Int) ≤ 16) || (!decide ((n : Int) ≤ 600) && decide ((n : Int) ≤ 602)))
theorem fewF_n {N : Int} {n : Nat} {S : Nat → Nat → Int} (h : fewF N n S = true) : n ≤ 602 := by
  unfold fewF at h
  split at h
  · simp at h; omega
  · simp at h; omega


def few1_a : RA := { tmps := [[(.agg [(.si .i64 (.var 0)), (.fsl 0 4 (.lit (0)) (.var 1))]), (.ptr 0 0), (.pl (.bool false)), (.si .i64 (.var 3)), (.agg [(.si .i64 (.var 0)), (.fsl 0 4 (.lit (0)) (.var 1))]), (.si .i64 (.var 2)), (.sb (.not (.eq (.var 2) (.lit (0))))), (.pl (.tuple #[]))], [(.pl (.tuple #[])), (.pl (.tuple #[])), (.pl (.tuple #[])), (.pl (.tuple #[])), (.pl (.tuple #[])), (.pl (.tuple #[])), (.pl (.tuple #[])), (.pl (.tuple #[]))], [(.pl (.tuple #[])), (.pl (.tuple #[])), (.pl (.tuple #[])), (.pl (.tuple #[])), (.pl (.tuple #[])), (.pl (.tuple #[])), (.pl (.tuple #[])), (.ptr 0 0)], [(.si .i64 (.var 0)), (.sb (.not (.le (.var 0) (.lit (10))))), (.sb (.not (.le (.var 0) (.lit (10))))), (.ptr 0 1), (.fsl 0 4 (.lit (0)) (.var 1)), (.si .i64 (.var 1)), (.sb (.not (.le (.var 1) (.lit (16))))), (.sb (.not (.le (.var 1) (.lit (16)))))], [.unk, .unk, .unk, .unk, .unk, .unk, .unk, .unk], [.unk, .unk, .unk, .unk, .unk, .unk, .unk, .unk], [.unk, .unk, .unk, .unk, .unk, .unk, .unk, .unk], [(.pl (.tuple #[])), (.pl (.tuple #[])), (.pl (.tuple #[])), (.pl (.tuple #[])), (.pl (.tuple #[])), (.pl (.tuple #[])), (.pl (.tuple #[])), (.pl (.tuple #[]))]], sz := 56, dfs := [] }
def few1_h : RH := { bl := [some (.cells [(.si .i64 (.var 0)), (.fsl 0 4 (.lit (0)) (.var 1))] 24 false)], n := 1, base := 0, ch := [] }
theorem few_any (N : Int) (A : Option Addr) (n c : Nat) (S : Nat → Nat → Int) (W : World) (hS : RowR W A (n * 4) (flat4 S)) (hN : I64 N) (hc : n ≤ c) (hn : n ≤ 9223372036854775807) :
    Calls Try.prog 7 #[.agg #[.int .i64 N, .slice A n c]] W fun e w' => e = .returned (.bool (fewF N n S)) ∧ Below W.heap.size W w' := by
  skip
  have hrows : RowsIn W [⟨A, n * 4, flat4 S⟩] := ⟨hS, trivial⟩
  letI : Rho := rhoL W.heap.size ([N, (n : Int), (cnR N n S).2]) [⟨A, n * 4, flat4 S⟩] [] []
  have hfar : Far W := far_list hrows
  have hx : RepL (fun _ => False) (fun _ => 0) (fun _ => 0) netC (#[.agg #[.int .i64 N, .slice A n c]] : Array Value).toList := by
    refine repL_one ?_
    simp only [Rep]
    exact ⟨_, rfl, repL_cons'.2 ⟨by simp only [Rep]; rfl, repL_one (by simp only [Rep]; exact fsl_row 0 4 hrows rfl rfl (by omega) rfl rfl hc)⟩⟩
  by_cases f1 : (cnR N n S).2 = 0
  · skip
    by_cases f2 : N ≤ 10
    · skip
      by_cases f3 : (n : Int) ≤ 16
      · skip
        have hF : Facts [((.eq (.var 2) (.lit (0))), true), ((.le (.var 0) (.lit (10))), true), ((.le (.var 1) (.lit (16))), true)] := ⟨f_eq f1 rfl rfl, f_le f2 rfl rfl, f_le f3 rfl rfl, trivial⟩
        have hcn0 := f1
        have hN10 : N ≤ 10 := f2
        have hn16 : (n : Int) ≤ 16 := f3
        refine call_start (P := Try.prog) (K := reK 2) (fl := []) (by kernel_rfl) (by kernel_rfl) hx hfar (reK_ok (N := N) (n := n) (S := S) rfl rfl rfl rfl hN hn) (facD_ok hF) (enter_run (B := 3) (a' := few1_a) (h' := few1_h) (ρ' := rhoL W.heap.size ([N, (n : Int), (cnR N n S).2] ++ [0]) [⟨A, n * 4, flat4 S⟩] [] []) (ds := [.int (.lit (0)) (.var 3)]) (c := (loopIn (bodyC Try.prog 7) 0)) (by kernel_rfl) (by kernel_rfl) rfl (agree_list (l := [N, (n : Int), (cnR N n S).2]) (x := []) (Nat.le_refl _) rfl) ⟨rfl, trivial⟩ fun A1 W1 hs1 => ?_)
        refine loop_ok (Inv := fun ρ => ∃ (k : Nat), ((k ≤ n ∧ ∀ j, j < k → fcd S j = 0)) ∧ ρ = rhoL W.heap.size ([N, (n : Int), (cnR N n S).2] ++ [(k : Int)]) [⟨A, n * 4, flat4 S⟩] [] []) (μ := fun ρ => n - (@Rho.i ρ 3).toNat) (a := few1_a) (h := few1_h) ?_ _ ⟨0, ?_, rfl⟩ A1 W1 hs1
        rotate_left
        · exact ⟨Nat.zero_le _, fun j hj => absurd hj (Nat.not_lt_zero j)⟩
        first | clear hs1 hx | clear hs1
        rintro ρ ⟨k, hinv, rfl⟩ A2 W2 hs2
        letI : Rho := rhoL W.heap.size ([N, (n : Int), (cnR N n S).2] ++ [(k : Int)]) [⟨A, n * 4, flat4 S⟩] [] []
        obtain ⟨hk, hz⟩ := hinv
        have hR := (cn_right (N := N) (n := n) (S := S) hcn0).2.2
        by_cases f1 : (n : Int) ≤ (k : Int)
        · skip
          have hF : Facts [((.le (.var 1) (.var 3)), true)] := ⟨f_le f1 rfl rfl, trivial⟩
          refine out_run (P := Try.prog) (K := reK 2) (fl := []) (by kernel_rfl) (reK_ok (N := N) (n := n) (S := S) rfl rfl rfl rfl hN hn) (facD_ok hF) hs2 (fin_run (r := (.pl (.bool true))) (by kernel_rfl) rfl fun W' hbel => ⟨?_, hbel⟩)
          show Ending.returned (.bool true) = _
          have h1 : (fw (fcd S) n).2 = 0 := by rw [fw_none (fun j hj => hz j (by omega))]
          unfold fewF
          rw [if_pos hcn0, h1]
          simp [hN10, hn16]
        · skip
          have f2 : (0 ≤ (k : Int)) := by
            have hq := ec_right (hR k (by omega))
            omega
          by_cases f3 : (flat4 S (((k : Int) * 4) + 3)) ≤ 20
          · skip
            have f4 : (-9223372036854775808 : Int) ≤ (0 - (flat4 S (((k : Int) * 4) + 2))) ∧ (0 - (flat4 S (((k : Int) * 4) + 2))) ≤ 9223372036854775807 := by
              have hq := ec_right (hR k (by omega))
              omega
            by_cases f5 : (0 - (flat4 S (((k : Int) * 4) + 2))) ≤ (flat4 S (((k : Int) * 4) + 2))
            · skip
              by_cases f6 : (flat4 S (((k : Int) * 4) + 2)) ≤ 5
              · skip
                have f7 : (-9223372036854775808 : Int) ≤ ((k : Int) + 1) ∧ ((k : Int) + 1) ≤ 9223372036854775807 := by
                  have hq := ec_right (hR k (by omega))
                  omega
                have hF : Facts [((.le (.var 1) (.var 3)), false), ((.le (.lit (0)) (.var 3)), true), ((.le (.sel (.avar 0) (.add (.mul (.var 3) (.lit (4))) (.lit (3)))) (.lit (20))), true), ((.inr .i64 (.sub (.lit (0)) (.sel (.avar 0) (.add (.mul (.var 3) (.lit (4))) (.lit (2)))))), true), ((.le (.sub (.lit (0)) (.sel (.avar 0) (.add (.mul (.var 3) (.lit (4))) (.lit (2))))) (.sel (.avar 0) (.add (.mul (.var 3) (.lit (4))) (.lit (2))))), true), ((.le (.sel (.avar 0) (.add (.mul (.var 3) (.lit (4))) (.lit (2)))) (.lit (5))), true), ((.inr .i64 (.add (.var 3) (.lit (1)))), true)] := ⟨f_nle f1 rfl rfl, f_le f2 rfl rfl, f_le f3 rfl rfl, f_in f4 rfl, f_le f5 rfl rfl, f_le f6 rfl rfl, f_in f7 rfl, trivial⟩
                refine again_run (P := Try.prog) (K := reK 2) (fl := []) (B := 3) (a' := few1_a) (h' := few1_h) (ρ' := rhoL W.heap.size ([N, (n : Int), (cnR N n S).2] ++ [(((k + 1) : Nat) : Int)]) [⟨A, n * 4, flat4 S⟩] [] []) (ds := [.int (.add (.var 3) (.lit (1))) (.var 3)]) (by kernel_rfl) (reK_ok (N := N) (n := n) (S := S) rfl rfl rfl rfl hN hn) (facD_ok hF) (by kernel_rfl) (agree_list (l := [N, (n : Int), (cnR N n S).2]) (Nat.le_refl _) rfl) ⟨(show (((k : Int) + 1) : Int) = (((k + 1) : Nat) : Int) from by first | rfl | (push_cast; omega)), trivial⟩ hs2 fun A3 W3 hs3 => ⟨_, ⟨(k + 1), ?_, rfl⟩, ?_, hs3⟩
                · refine ⟨by omega, fun j hj => ?_⟩
                  rcases Nat.lt_or_ge j k with g | g
                  · exact hz j g
                  · obtain rfl : j = k := by omega
                    unfold fcd fcode
                    rw [if_pos (by omega)]
                · show n - ((k + 1 : Nat) : Int).toNat < n - ((k : Nat) : Int).toNat
                  omega
              · skip
                have hF : Facts [((.le (.var 1) (.var 3)), false), ((.le (.lit (0)) (.var 3)), true), ((.le (.sel (.avar 0) (.add (.mul (.var 3) (.lit (4))) (.lit (3)))) (.lit (20))), true), ((.inr .i64 (.sub (.lit (0)) (.sel (.avar 0) (.add (.mul (.var 3) (.lit (4))) (.lit (2)))))), true), ((.le (.sub (.lit (0)) (.sel (.avar 0) (.add (.mul (.var 3) (.lit (4))) (.lit (2))))) (.sel (.avar 0) (.add (.mul (.var 3) (.lit (4))) (.lit (2))))), true), ((.le (.sel (.avar 0) (.add (.mul (.var 3) (.lit (4))) (.lit (2)))) (.lit (5))), false)] := ⟨f_nle f1 rfl rfl, f_le f2 rfl rfl, f_le f3 rfl rfl, f_in f4 rfl, f_le f5 rfl rfl, f_nle f6 rfl rfl, trivial⟩
                refine out_run (P := Try.prog) (K := reK 2) (fl := []) (by kernel_rfl) (reK_ok (N := N) (n := n) (S := S) rfl rfl rfl rfl hN hn) (facD_ok hF) hs2 (fin_run (r := (.pl (.bool false))) (by kernel_rfl) rfl fun W' hbel => ⟨?_, hbel⟩)
                show Ending.returned (.bool false) = _
                have h1 : (fw (fcd S) n).2 ≠ 0 := by
                  have hc : fcd S k = 1 := by
                    unfold fcd fcode
                    rw [if_neg (by omega)]
                  rw [fw_hit (g := fcd S) (k := k) hz (by rw [hc]; decide) (by omega)]
                  simp only [hc]
                  decide
                unfold fewF
                rw [if_pos hcn0]
                simp [h1]
            · skip
              by_cases f6 : (0 - (flat4 S (((k : Int) * 4) + 2))) ≤ 5
              · skip
                have f7 : (-9223372036854775808 : Int) ≤ ((k : Int) + 1) ∧ ((k : Int) + 1) ≤ 9223372036854775807 := by
                  have hq := ec_right (hR k (by omega))
                  omega
                have hF : Facts [((.le (.var 1) (.var 3)), false), ((.le (.lit (0)) (.var 3)), true), ((.le (.sel (.avar 0) (.add (.mul (.var 3) (.lit (4))) (.lit (3)))) (.lit (20))), true), ((.inr .i64 (.sub (.lit (0)) (.sel (.avar 0) (.add (.mul (.var 3) (.lit (4))) (.lit (2)))))), true), ((.le (.sub (.lit (0)) (.sel (.avar 0) (.add (.mul (.var 3) (.lit (4))) (.lit (2))))) (.sel (.avar 0) (.add (.mul (.var 3) (.lit (4))) (.lit (2))))), false), ((.le (.sub (.lit (0)) (.sel (.avar 0) (.add (.mul (.var 3) (.lit (4))) (.lit (2))))) (.lit (5))), true), ((.inr .i64 (.add (.var 3) (.lit (1)))), true)] := ⟨f_nle f1 rfl rfl, f_le f2 rfl rfl, f_le f3 rfl rfl, f_in f4 rfl, f_nle f5 rfl rfl, f_le f6 rfl rfl, f_in f7 rfl, trivial⟩
                refine again_run (P := Try.prog) (K := reK 2) (fl := []) (B := 3) (a' := few1_a) (h' := few1_h) (ρ' := rhoL W.heap.size ([N, (n : Int), (cnR N n S).2] ++ [(((k + 1) : Nat) : Int)]) [⟨A, n * 4, flat4 S⟩] [] []) (ds := [.int (.add (.var 3) (.lit (1))) (.var 3)]) (by kernel_rfl) (reK_ok (N := N) (n := n) (S := S) rfl rfl rfl rfl hN hn) (facD_ok hF) (by kernel_rfl) (agree_list (l := [N, (n : Int), (cnR N n S).2]) (Nat.le_refl _) rfl) ⟨(show (((k : Int) + 1) : Int) = (((k + 1) : Nat) : Int) from by first | rfl | (push_cast; omega)), trivial⟩ hs2 fun A3 W3 hs3 => ⟨_, ⟨(k + 1), ?_, rfl⟩, ?_, hs3⟩
                · refine ⟨by omega, fun j hj => ?_⟩
                  rcases Nat.lt_or_ge j k with g | g
                  · exact hz j g
                  · obtain rfl : j = k := by omega
                    unfold fcd fcode
                    rw [if_pos (by omega)]
                · show n - ((k + 1 : Nat) : Int).toNat < n - ((k : Nat) : Int).toNat
                  omega
              · skip
                have hF : Facts [((.le (.var 1) (.var 3)), false), ((.le (.lit (0)) (.var 3)), true), ((.le (.sel (.avar 0) (.add (.mul (.var 3) (.lit (4))) (.lit (3)))) (.lit (20))), true), ((.inr .i64 (.sub (.lit (0)) (.sel (.avar 0) (.add (.mul (.var 3) (.lit (4))) (.lit (2)))))), true), ((.le (.sub (.lit (0)) (.sel (.avar 0) (.add (.mul (.var 3) (.lit (4))) (.lit (2))))) (.sel (.avar 0) (.add (.mul (.var 3) (.lit (4))) (.lit (2))))), false), ((.le (.sub (.lit (0)) (.sel (.avar 0) (.add (.mul (.var 3) (.lit (4))) (.lit (2))))) (.lit (5))), false)] := ⟨f_nle f1 rfl rfl, f_le f2 rfl rfl, f_le f3 rfl rfl, f_in f4 rfl, f_nle f5 rfl rfl, f_nle f6 rfl rfl, trivial⟩
                refine out_run (P := Try.prog) (K := reK 2) (fl := []) (by kernel_rfl) (reK_ok (N := N) (n := n) (S := S) rfl rfl rfl rfl hN hn) (facD_ok hF) hs2 (fin_run (r := (.pl (.bool false))) (by kernel_rfl) rfl fun W' hbel => ⟨?_, hbel⟩)
                show Ending.returned (.bool false) = _
                have h1 : (fw (fcd S) n).2 ≠ 0 := by
                  have hc : fcd S k = 1 := by
                    unfold fcd fcode
                    rw [if_neg (by omega)]
                  rw [fw_hit (g := fcd S) (k := k) hz (by rw [hc]; decide) (by omega)]
                  simp only [hc]
                  decide
                unfold fewF
                rw [if_pos hcn0]
                simp [h1]
          · skip
            have hF : Facts [((.le (.var 1) (.var 3)), false), ((.le (.lit (0)) (.var 3)), true), ((.le (.sel (.avar 0) (.add (.mul (.var 3) (.lit (4))) (.lit (3)))) (.lit (20))), false)] := ⟨f_nle f1 rfl rfl, f_le f2 rfl rfl, f_nle f3 rfl rfl, trivial⟩
            refine out_run (P := Try.prog) (K := reK 2) (fl := []) (by kernel_rfl) (reK_ok (N := N) (n := n) (S := S) rfl rfl rfl rfl hN hn) (facD_ok hF) hs2 (fin_run (r := (.pl (.bool false))) (by kernel_rfl) rfl fun W' hbel => ⟨?_, hbel⟩)
            show Ending.returned (.bool false) = _
            have h1 : (fw (fcd S) n).2 ≠ 0 := by
              have hc : fcd S k = 1 := by
                unfold fcd fcode
                rw [if_neg (by omega)]
              rw [fw_hit (g := fcd S) (k := k) hz (by rw [hc]; decide) (by omega)]
              simp only [hc]
              decide
            unfold fewF
            rw [if_pos hcn0]
            simp [h1]
      · skip
        have hF : Facts [((.eq (.var 2) (.lit (0))), true), ((.le (.var 0) (.lit (10))), true), ((.le (.var 1) (.lit (16))), false)] := ⟨f_eq f1 rfl rfl, f_le f2 rfl rfl, f_nle f3 rfl rfl, trivial⟩
        refine call_start (P := Try.prog) (K := reK 2) (fl := []) (by kernel_rfl) (by kernel_rfl) hx hfar (reK_ok (N := N) (n := n) (S := S) rfl rfl rfl rfl hN hn) (facD_ok hF) (fin_run (r := (.pl (.bool false))) (by kernel_rfl) rfl fun W' hbel => ⟨?_, hbel⟩)
        show Ending.returned (.bool false) = _
        unfold fewF
        rw [if_pos f1]
        simp [f1, f2, f3]
    · skip
      have hF : Facts [((.eq (.var 2) (.lit (0))), true), ((.le (.var 0) (.lit (10))), false)] := ⟨f_eq f1 rfl rfl, f_nle f2 rfl rfl, trivial⟩
      refine call_start (P := Try.prog) (K := reK 2) (fl := []) (by kernel_rfl) (by kernel_rfl) hx hfar (reK_ok (N := N) (n := n) (S := S) rfl rfl rfl rfl hN hn) (facD_ok hF) (fin_run (r := (.pl (.bool false))) (by kernel_rfl) rfl fun W' hbel => ⟨?_, hbel⟩)
      show Ending.returned (.bool false) = _
      unfold fewF
      rw [if_pos f1]
      simp [f1, f2]
  · skip
    by_cases f2 : (n : Int) ≤ 16
    · skip
      have hF : Facts [((.eq (.var 2) (.lit (0))), false), ((.le (.var 1) (.lit (16))), true)] := ⟨f_ne f1 rfl rfl, f_le f2 rfl rfl, trivial⟩
      refine call_start (P := Try.prog) (K := reK 2) (fl := []) (by kernel_rfl) (by kernel_rfl) hx hfar (reK_ok (N := N) (n := n) (S := S) rfl rfl rfl rfl hN hn) (facD_ok hF) (fin_run (r := (.pl (.bool true))) (by kernel_rfl) rfl fun W' hbel => ⟨?_, hbel⟩)
      show Ending.returned (.bool true) = _
      unfold fewF
      rw [if_neg f1]
      simp [f1, f2]
    · skip
      by_cases f3 : (n : Int) ≤ 600
      · skip
        have hF : Facts [((.eq (.var 2) (.lit (0))), false), ((.le (.var 1) (.lit (16))), false), ((.le (.var 1) (.lit (600))), true)] := ⟨f_ne f1 rfl rfl, f_nle f2 rfl rfl, f_le f3 rfl rfl, trivial⟩
        refine call_start (P := Try.prog) (K := reK 2) (fl := []) (by kernel_rfl) (by kernel_rfl) hx hfar (reK_ok (N := N) (n := n) (S := S) rfl rfl rfl rfl hN hn) (facD_ok hF) (fin_run (r := (.pl (.bool false))) (by kernel_rfl) rfl fun W' hbel => ⟨?_, hbel⟩)
        show Ending.returned (.bool false) = _
        unfold fewF
        rw [if_neg f1]
        simp [f1, f2, f3]
      · skip
        have hF : Facts [((.eq (.var 2) (.lit (0))), false), ((.le (.var 1) (.lit (16))), false), ((.le (.var 1) (.lit (600))), false)] := ⟨f_ne f1 rfl rfl, f_nle f2 rfl rfl, f_nle f3 rfl rfl, trivial⟩
        refine call_start (P := Try.prog) (K := reK 2) (fl := []) (by kernel_rfl) (by kernel_rfl) hx hfar (reK_ok (N := N) (n := n) (S := S) rfl rfl rfl rfl hN hn) (facD_ok hF) (fin_run (r := (.sb (.le (.var 1) (.lit (602))))) (by kernel_rfl) rfl fun W' hbel => ⟨?_, hbel⟩)
        show Ending.returned (.bool (decide ((n : Int) ≤ 602))) = _
        unfold fewF
        rw [if_neg f1]
        simp [f1, f2, f3]
noncomputable def fewK (v : Nat) : Know := canK 7 netC (.sb (.bvar v))
theorem fewK_ok [Rho] {v : Nat} {N : Int} {n : Nat} {S : Nat → Nat → Int} (ha : Rho.a 0 = flat4 S) (h0 : Rho.i 0 = N) (h1 : Rho.i 1 = (n : Int)) (h2 : Rho.b v = fewF N n S) (hN : I64 N) (hn : n ≤ 9223372036854775807) : KOk Try.prog (fewK v) := canK_ok fun xs W hx hf => by
  obtain ⟨A, c, rfl, y1, y2⟩ := netC_open ha h0 h1 hx hf
  refine (few_any N A n c S W y1 hN y2 hn).mono ?_
  rintro e w' ⟨rfl, hb⟩
  refine ⟨⟨_, rfl, ?_⟩, hb⟩
  simp only [Rep]
  show _ = Value.bool (Rho.b v)
  rw [h2]

end Go.Proofs.Ytmglofemnobakaa
