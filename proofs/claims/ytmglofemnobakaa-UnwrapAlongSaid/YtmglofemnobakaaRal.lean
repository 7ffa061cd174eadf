/- Contract: the reference says the phases along a path, or what is wrong. -/
import Derived.Test.YtmglofemnobakaaUal
namespace Go.Proofs.Ytmglofemnobakaa
open Go.RowKit
set_option maxHeartbeats 4000000
set_option maxRecDepth 100000
set_option linter.unusedSimpArgs false
set_option linter.unusedVariables false

def sz (x : Int) : Int := if 0 - x ≤ x then x else 0 - x
def nbR (C a b : Int) : Prop := sz (a.tdiv C - b.tdiv C) + sz (a.tmod C - b.tmod C) = 1
theorem td_bound {a C : Int} (ha : 0 ≤ a) (hC : 1 ≤ C) : 0 ≤ a.tdiv C ∧ a.tdiv C ≤ a ∧ 0 ≤ a.tmod C ∧ a.tmod C < C := by
  rw [Int.tdiv_eq_ediv_of_nonneg ha, Int.tmod_eq_emod_of_nonneg ha]
  have h1 := Int.ediv_mul_le a (b := C) (by omega)
  have h2 : 0 ≤ a / C := Int.ediv_nonneg ha (by omega)
  have h3 : a / C * 1 ≤ a / C * C := Int.mul_le_mul_of_nonneg_left hC h2
  have h4 := Int.emod_nonneg a (b := C) (by omega)
  have h5 := Int.emod_lt_of_pos a (b := C) (by omega)
  exact ⟨h2, by omega, h4, h5⟩
theorem nb_iff {C a b : Int} (hC : 1 ≤ C) (ha : 0 ≤ a) (hb : 0 ≤ b) : nb C a b ↔ nbR C a b := by
  unfold nb nbR
  have h1 := td_bound ha hC
  have h2 := td_bound hb hC
  have e1 := Int.mul_tdiv_add_tmod a C
  have e2 := Int.mul_tdiv_add_tmod b C
  generalize a.tdiv C = q1 at *
  generalize b.tdiv C = q2 at *
  generalize a.tmod C = r1 at *
  generalize b.tmod C = r2 at *
  have key : q2 = q1 ∨ q2 = q1 + 1 ∨ q2 = q1 - 1 ∨ q1 + 2 ≤ q2 ∨ q2 + 2 ≤ q1 := by omega
  rcases key with rfl | rfl | rfl | g | g
  · unfold sz
    repeat' split
    all_goals omega
  · rw [Int.mul_add, Int.mul_one] at e2
    unfold sz
    repeat' split
    all_goals omega
  · rw [Int.mul_sub, Int.mul_one] at e2
    unfold sz
    repeat' split
    all_goals omega
  · have m1 : C * (q1 + 2) ≤ C * q2 := Int.mul_le_mul_of_nonneg_left g (by omega)
    rw [Int.mul_add] at m1
    unfold sz
    repeat' split
    all_goals omega
  · have m1 : C * (q2 + 2) ≤ C * q1 := Int.mul_le_mul_of_nonneg_left g (by omega)
    rw [Int.mul_add] at m1
    unfold sz
    repeat' split
    all_goals omega
/-- what is wrong with a path on a right map -/
def rErr (C : Int) (n : Nat) (s : Nat → Int) (m : Nat) (p : Nat → Int) : Int := if (m : Int) ≤ 200 then (fw (acode C n (flat1 s) (flat1 p)) m).2 else 8
theorem rErr_in {C : Int} {n m : Nat} {s p : Nat → Int} (h2 : (m : Int) ≤ 200) : rErr C n s m p = (fw (acode C n (flat1 s) (flat1 p)) m).2 := by unfold rErr; rw [if_pos h2]
theorem aErr_r {R C : Int} {n m : Nat} {s p : Nat → Int} (h : wrErr R C n s = 0) : aErr R C n s m p = rErr C n s m p := by unfold aErr rErr; rw [if_pos h]
theorem wr_right {R C : Int} {n : Nat} {s : Nat → Int} (h : wrErr R C n s = 0) : (prR n s).2 = 0 ∧ 1 ≤ C ∧ C ≤ 64 ∧ (n : Int) ≤ 4096 := by
  unfold wrErr at h
  split at h
  · rename_i h1
    unfold szErr at h1
    split at h1
    · rename_i h2
      split at h1
      · rename_i h3
        have := mul_64 h2.1 h2.2.1 h2.2.2.1 h2.2.2.2
        exact ⟨h, h2.2.2.1, h2.2.2.2, by omega⟩
      · cases h1
    · cases h1
  · rename_i h1; exact absurd h h1


def ral1_a : RA := { tmps := [[(.agg [(.si .i64 (.var 0)), (.si .i64 (.var 1)), (.fsl 0 1 (.lit (0)) (.var 2))]), (.fsl 1 1 (.lit (0)) (.var 3)), (.ptr 0 0), (.pl (.tuple #[])), (.pl (.slice none 0 0)), (.pl (.int .i64 (0))), (.pl (.slice none 0 0)), (.pl (.int .i64 (0)))], [(.pl (.tuple #[])), (.fsl 1 1 (.lit (0)) (.var 3)), (.si .i64 (.var 3)), (.sb (.not (.le (.var 3) (.lit (200))))), (.pl (.tuple #[])), (.pl (.tuple #[])), (.pl (.tuple #[])), (.pl (.tuple #[]))], [(.pl (.tuple #[])), (.pl (.tuple #[])), (.pl (.tuple #[])), (.pl (.tuple #[])), (.pl (.tuple #[])), (.pl (.tuple #[])), (.pl (.tuple #[])), (.pl (.tuple #[]))], [(.pl (.tuple #[])), (.pl (.tuple #[])), (.pl (.tuple #[])), (.pl (.tuple #[])), (.pl (.tuple #[])), (.pl (.tuple #[])), (.pl (.tuple #[])), (.pl (.tuple #[]))], [(.pl (.tuple #[])), (.pl (.tuple #[])), (.pl (.tuple #[])), (.pl (.tuple #[])), (.pl (.tuple #[])), (.pl (.tuple #[])), (.pl (.tuple #[])), (.pl (.tuple #[]))], [(.pl (.tuple #[])), (.pl (.tuple #[])), (.pl (.tuple #[])), (.pl (.tuple #[])), (.pl (.tuple #[])), (.pl (.tuple #[])), (.pl (.tuple #[])), (.pl (.tuple #[]))], [(.pl (.tuple #[])), (.pl (.tuple #[])), (.pl (.tuple #[])), (.pl (.tuple #[])), (.pl (.tuple #[])), (.pl (.tuple #[])), (.pl (.tuple #[])), (.pl (.tuple #[]))], [(.pl (.tuple #[])), (.pl (.tuple #[])), (.pl (.tuple #[])), (.pl (.tuple #[])), (.pl (.tuple #[])), (.pl (.tuple #[])), (.pl (.tuple #[])), (.pl (.tuple #[]))], [(.pl (.tuple #[])), (.pl (.tuple #[])), (.pl (.tuple #[])), (.pl (.tuple #[])), (.pl (.tuple #[])), (.pl (.tuple #[])), (.pl (.tuple #[])), (.pl (.tuple #[]))], [(.pl (.tuple #[])), (.pl (.tuple #[])), (.pl (.tuple #[])), (.pl (.tuple #[])), (.pl (.tuple #[])), (.pl (.tuple #[])), (.pl (.tuple #[])), (.pl (.tuple #[]))]], sz := 77, dfs := [] }
def ral1_h : RH := { bl := [some (.cells [(.si .i64 (.var 0)), (.si .i64 (.var 1)), (.fsl 0 1 (.lit (0)) (.var 2))] 40 false)], n := 1, base := 0, ch := [] }
def ral1_1_a : RA := { tmps := [[(.agg [(.si .i64 (.var 0)), (.si .i64 (.var 1)), (.fsl 0 1 (.lit (0)) (.var 2))]), (.fsl 1 1 (.lit (0)) (.var 3)), (.ptr 0 0), (.pl (.tuple #[])), (.pl (.slice none 0 0)), (.pl (.int .i64 (0))), (.osl 2 1 (.var 4)), (.si .i64 (.var 5))], [.unk, (.fsl 1 1 (.lit (0)) (.var 3)), (.si .i64 (.var 3)), (.sb (.not (.le (.var 3) (.lit (200))))), .unk, .unk, .unk, .unk], [.unk, .unk, .unk, .unk, .unk, .unk, .unk, .unk], [.unk, .unk, .unk, .unk, .unk, .unk, .unk, .unk], [.unk, .unk, .unk, .unk, .unk, .unk, .unk, .unk], [.unk, .unk, .unk, .unk, .unk, .unk, .unk, .unk], [.unk, .unk, .unk, .unk, .unk, .unk, .unk, .unk], [.unk, .unk, .unk, .unk, .unk, .unk, .unk, .unk], [.unk, .unk, .unk, .unk, .unk, .unk, .unk, .unk], [.unk, .unk, .unk, .unk, (.pl (.tuple #[])), (.pl (.tuple #[])), (.pl (.tuple #[])), (.pl (.tuple #[]))]], sz := 77, dfs := [] }
def ral1_1_h : RH := { bl := [some (.row (.avar 50) (.var 4) 3 1), some (.cells [(.si .i64 (.sel (.avar 0) (.sel (.avar 1) (.lit (0)))))] 3 false), some (.cells [(.si .i64 (.var 0)), (.si .i64 (.var 1)), (.fsl 0 1 (.lit (0)) (.var 2))] 40 false)], n := 3, base := 0, ch := [] }
theorem refAlong_any (R C : Int) (A B : Option Addr) (n c m d : Nat) (s p : Nat → Int) (W : World) (hS : RowR W A n (flat1 s)) (hT : RowR W B m (flat1 p)) (hc : n ≤ c) (hd : m ≤ d) (hn : n ≤ 9223372036854775807) (hm : m ≤ 1000000) (hwr : wrErr R C n s = 0) :
    Calls Try.prog 19 #[.agg #[.int .i64 R, .int .i64 C, .slice A n c], .slice B m d] W fun e w' => (rErr C n s m p ≠ 0 ∧ e = .returned (.tuple #[.slice none 0 0, .int .i64 (rErr C n s m p)]) ∨ rErr C n s m p = 0 ∧ m = 0 ∧ e = .returned (.tuple #[.slice none 0 0, .int .i64 0]) ∨ rErr C n s m p = 0 ∧ 0 < m ∧ ∃ b k arr, e = .returned (.tuple #[.slice (some ⟨b, 0, none⟩) m k, .int .i64 0]) ∧ m ≤ k ∧ W.heap.size ≤ b ∧ w'.heap[b]? = some (.cells arr 3 (0, 0)) ∧ arr.size = k * 1 ∧ ∀ j : Nat, j < m * 1 → arr[j]? = some (.int .i64 (aval (flat1 s) (flat1 p) j))) ∧ Below W.heap.size W w' := by
 skip
 have hrows : RowsIn W [⟨A, n, flat1 s⟩, ⟨B, m, flat1 p⟩] := ⟨hS, hT, trivial⟩
 letI : Rho := rhoL W.heap.size ([R, C, (n : Int), (m : Int)]) [⟨A, n, flat1 s⟩, ⟨B, m, flat1 p⟩] [] []
 have hfar : Far W := far_list hrows
 have hx : RepL (fun _ => False) (fun _ => 0) (fun _ => 0) [.agg [.si .i64 (.var 0), .si .i64 (.var 1), .fsl 0 1 (.lit 0) (.var 2)], .fsl 1 1 (.lit 0) (.var 3)] (#[.agg #[.int .i64 R, .int .i64 C, .slice A n c], .slice B m d] : Array Value).toList := by
  refine repL_cons'.2 ⟨?_, repL_one (by simp only [Rep]; exact fsl_row 1 1 hrows rfl (by simp [rowAt]) (by omega) rfl rfl hd)⟩
  simp only [Rep]
  exact ⟨_, rfl, repL_cons'.2 ⟨by simp only [Rep]; rfl, repL_cons'.2 ⟨by simp only [Rep]; rfl, repL_one (by simp only [Rep]; exact fsl_row 0 1 hrows rfl (by simp [rowAt]) (by omega) rfl rfl hc)⟩⟩⟩
 by_cases f1 : (m : Int) ≤ 200
 ·
  have hF : Facts [((.le (.var 3) (.lit (200))), true)] := ⟨f_le f1 rfl rfl, trivial⟩
  obtain ⟨hpr, hC1, hC64, hn4⟩ := wr_right hwr
  have hm200 : (m : Int) ≤ 200 := f1
  refine call_start (P := Try.prog) (K := noK) (fl := []) (by kernel_rfl) (by kernel_rfl) hx hfar noK_ok (facD_ok hF) (enter_run (B := 4) (a' := ral1_a) (h' := ral1_h) (ρ' := rhoL W.heap.size ([R, C, (n : Int), (m : Int)] ++ [0, 0]) [⟨A, n, flat1 s⟩, ⟨B, m, flat1 p⟩] [] [(fun _ : Int => 0)]) (ds := []) (c := (loopIn (bodyC Try.prog 19) 0)) (by kernel_rfl) (by kernel_rfl) rfl (agree_list (l := [R, C, (n : Int), (m : Int)]) (x := []) (Nat.le_refl _) rfl) trivial fun A1 W1 hs1 => ?_)
  refine loop_okS (Inv := fun ρ a h => ∃ (L : Nat) (k : Nat) (F : Int → Int), (k ≤ m ∧ L = k ∧ (∀ j : Nat, j < k → acode C n (flat1 s) (flat1 p) j = 0) ∧ (∀ j : Nat, j < k → F (j : Int) = aval (flat1 s) (flat1 p) j)) ∧ ρ = rhoL W.heap.size ([R, C, (n : Int), (m : Int)] ++ [(L : Int), (k : Int)]) [⟨A, n, flat1 s⟩, ⟨B, m, flat1 p⟩] [] [F] ∧ ((a = ral1_a ∧ h = ral1_h ∧ (k = 0)) ∨ (a = ral1_1_a ∧ h = ral1_1_h ∧ (1 ≤ k)))) (μ := fun ρ => m - (@Rho.i ρ 5).toNat) ?_ _ _ _ ⟨0, 0, (fun _ : Int => 0), ?_, rfl, .inl ⟨rfl, rfl, ?_⟩⟩ A1 W1 hs1
  rotate_left
  · exact ⟨Nat.zero_le _, rfl, fun j hj => absurd hj (Nat.not_lt_zero j), fun j hj => absurd hj (Nat.not_lt_zero j)⟩
  · rfl
  first | clear hs1 hx | clear hs1
  rintro ρ a h ⟨L, k, F, hinv, rfl, hhead⟩ A2 W2 hs2
  letI : Rho := rhoL W.heap.size ([R, C, (n : Int), (m : Int)] ++ [(L : Int), (k : Int)]) [⟨A, n, flat1 s⟩, ⟨B, m, flat1 p⟩] [] [F]
  obtain ⟨hk, hL, hz, hFe⟩ := hinv
  rcases hhead with ⟨rfl, rfl, hcond⟩ | ⟨rfl, rfl, hcond⟩
  ·
   have e0 : (k : Int) = 0 := by omega
   by_cases f1 : (m : Int) ≤ 0
   ·
    have hF : Facts [((.le (.var 3) (.lit (0))), true)] := ⟨f_le f1 rfl rfl, trivial⟩
    refine out_run (P := Try.prog) (K := noK) (fl := []) (by kernel_rfl) noK_ok (facD_ok hF) hs2 (fin_gen (r := (.tup [(.pl (.slice none 0 0)), (.pl (.int .i64 (0)))])) (h' := { bl := [some (.cells [(.si .i64 (.var 0)), (.si .i64 (.var 1)), (.fsl 0 1 (.lit (0)) (.var 2))] 40 false)], n := 1, base := 0, ch := [] }) (by kernel_rfl) fun V mb gb v W' hv hw hbel => ?_)
    obtain rfl := rep_den _ (.tuple #[.slice none 0 0, .int .i64 0]) _ rfl hv
    have e : rErr C n s m p = 0 := by rw [rErr_in hm200, fw_none (fun j hj => hz j (by omega))]
    exact ⟨.inr (.inl ⟨e, by omega, rfl⟩), hbel⟩
   ·
    have f2 : (-9223372036854775808 : Int) ≤ ((n : Int) + (-1)) ∧ ((n : Int) + (-1)) ≤ 9223372036854775807 := by
     first | omega | (have h := hob (by assumption) (by assumption) (by assumption); have q6 := td_bound (a := flat1 p ((k : Int) + -1)) hp1 hC1; have q7 := td_bound (a := flat1 p (k : Int)) (by assumption) hC1; omega)
    by_cases f3 : 0 ≤ (flat1 p 0)
    ·
     by_cases f4 : (flat1 p 0) ≤ ((n : Int) + (-1))
     ·
      have f5 : ¬ ((n : Int) ≤ (flat1 p 0)) := by
       first | omega | (have h := hob (by assumption) (by assumption) (by assumption); have q6 := td_bound (a := flat1 p ((k : Int) + -1)) hp1 hC1; have q7 := td_bound (a := flat1 p (k : Int)) (by assumption) hC1; omega)
      by_cases f6 : (flat1 s (flat1 p 0)) = 1000000000000
      ·
       have hF : Facts [((.le (.var 3) (.lit (0))), false), ((.inr .i64 (.add (.var 2) (.lit (-1)))), true), ((.le (.lit (0)) (.sel (.avar 1) (.lit (0)))), true), ((.le (.sel (.avar 1) (.lit (0))) (.add (.var 2) (.lit (-1)))), true), ((.le (.var 2) (.sel (.avar 1) (.lit (0)))), false), ((.eq (.sel (.avar 0) (.sel (.avar 1) (.lit (0)))) (.lit (1000000000000))), true)] := ⟨f_nle f1 rfl rfl, f_in f2 rfl, f_le f3 rfl rfl, f_le f4 rfl rfl, f_nle f5 rfl rfl, f_eq f6 rfl rfl, trivial⟩
       refine out_run (P := Try.prog) (K := noK) (fl := []) (by kernel_rfl) noK_ok (facD_ok hF) hs2 (fin_gen (r := (.tup [(.pl (.slice none 0 0)), (.pl (.int .i64 (31)))])) (h' := { bl := [some (.cells [(.si .i64 (.var 0)), (.si .i64 (.var 1)), (.fsl 0 1 (.lit (0)) (.var 2))] 40 false)], n := 1, base := 0, ch := [] }) (by kernel_rfl) fun V mb gb v W' hv hw hbel => ?_)
       obtain rfl := rep_den _ (.tuple #[.slice none 0 0, .int .i64 31]) _ rfl hv
       first
         | (exfalso; omega)
         | (have hc : acode C n (flat1 s) (flat1 p) k = 31 := by
             unfold acode
             simp [f1, f3, f4, f5, f6, hcond]
             try omega
            have e : rErr C n s m p = 31 := by rw [rErr_in hm200, fw_hit (k := k) hz (by rw [hc]; decide) (by omega), hc]
            exact ⟨.inl ⟨by rw [e]; decide, by rw [e]⟩, hbel⟩)
      ·
       have hF : Facts [((.le (.var 3) (.lit (0))), false), ((.inr .i64 (.add (.var 2) (.lit (-1)))), true), ((.le (.lit (0)) (.sel (.avar 1) (.lit (0)))), true), ((.le (.sel (.avar 1) (.lit (0))) (.add (.var 2) (.lit (-1)))), true), ((.le (.var 2) (.sel (.avar 1) (.lit (0)))), false), ((.eq (.sel (.avar 0) (.sel (.avar 1) (.lit (0)))) (.lit (1000000000000))), false)] := ⟨f_nle f1 rfl rfl, f_in f2 rfl, f_le f3 rfl rfl, f_le f4 rfl rfl, f_nle f5 rfl rfl, f_ne f6 rfl rfl, trivial⟩
       refine again_runP (P := Try.prog) (K := noK) (fl := []) (B := 4) (l := [.row 2 1 1]) (a' := ral1_1_a) (h' := ral1_1_h) (ρ' := rhoL W.heap.size ([R, C, (n : Int), (m : Int)] ++ [(((L + 1) : Nat) : Int), (((k + 1) : Nat) : Int)]) [⟨A, n, flat1 s⟩, ⟨B, m, flat1 p⟩] [] [(fun j : Int => if j = 0 then (flat1 s (flat1 p 0)) else (fun _ : Int => 0) j)]) (ds := [.int (.lit (1)) (.var 4), .int (.lit (1)) (.var 5), .row (.upd .azero (.lit (0)) (.sel (.avar 0) (.sel (.avar 1) (.lit (0))))) (.avar 50), .int (.lit (1)) (.var 4)]) (by kernel_rfl) noK_ok (facD_ok hF) (by kernel_rfl) (agree_list (l := [R, C, (n : Int), (m : Int)]) (Nat.le_refl _) rfl) ⟨(show (1 : Int) = (((L + 1) : Nat) : Int) from by first | rfl | (push_cast; omega)), (show (1 : Int) = (((k + 1) : Nat) : Int) from by first | rfl | (push_cast; omega)), rfl, (show (1 : Int) = (((L + 1) : Nat) : Int) from by first | rfl | (push_cast; omega)), trivial⟩ hs2 fun A3 W3 hs3 => ⟨_, _, _, ⟨(L + 1), (k + 1), (fun j : Int => if j = 0 then (flat1 s (flat1 p 0)) else (fun _ : Int => 0) j), ?_, rfl, .inr ⟨rfl, rfl, ?_⟩⟩, ?_, hs3⟩
       · refine ⟨by omega, by omega, fun j hj => ?_, fun j hj => ?_⟩
         · obtain rfl : j = 0 := by omega
           have e0 : ((0 : Nat) : Int) = 0 := rfl
           unfold acode
           simp only [e0]
           simp [f1, f3, f4, f5, f6]
         · obtain rfl : j = 0 := by omega
           exact if_pos (by simp)
       · omega
       · show m - ((k + 1 : Nat) : Int).toNat < m - ((k : Nat) : Int).toNat
         omega
     ·
      have hF : Facts [((.le (.var 3) (.lit (0))), false), ((.inr .i64 (.add (.var 2) (.lit (-1)))), true), ((.le (.lit (0)) (.sel (.avar 1) (.lit (0)))), true), ((.le (.sel (.avar 1) (.lit (0))) (.add (.var 2) (.lit (-1)))), false)] := ⟨f_nle f1 rfl rfl, f_in f2 rfl, f_le f3 rfl rfl, f_nle f4 rfl rfl, trivial⟩
      refine out_run (P := Try.prog) (K := noK) (fl := []) (by kernel_rfl) noK_ok (facD_ok hF) hs2 (fin_gen (r := (.tup [(.pl (.slice none 0 0)), (.pl (.int .i64 (6)))])) (h' := { bl := [some (.cells [(.si .i64 (.var 0)), (.si .i64 (.var 1)), (.fsl 0 1 (.lit (0)) (.var 2))] 40 false)], n := 1, base := 0, ch := [] }) (by kernel_rfl) fun V mb gb v W' hv hw hbel => ?_)
      obtain rfl := rep_den _ (.tuple #[.slice none 0 0, .int .i64 6]) _ rfl hv
      first
        | (exfalso; omega)
        | (have hc : acode C n (flat1 s) (flat1 p) k = 6 := by
            unfold acode
            simp [f1, f3, f4, hcond]
            try omega
           have e : rErr C n s m p = 6 := by rw [rErr_in hm200, fw_hit (k := k) hz (by rw [hc]; decide) (by omega), hc]
           exact ⟨.inl ⟨by rw [e]; decide, by rw [e]⟩, hbel⟩)
    ·
     have hF : Facts [((.le (.var 3) (.lit (0))), false), ((.inr .i64 (.add (.var 2) (.lit (-1)))), true), ((.le (.lit (0)) (.sel (.avar 1) (.lit (0)))), false)] := ⟨f_nle f1 rfl rfl, f_in f2 rfl, f_nle f3 rfl rfl, trivial⟩
     refine out_run (P := Try.prog) (K := noK) (fl := []) (by kernel_rfl) noK_ok (facD_ok hF) hs2 (fin_gen (r := (.tup [(.pl (.slice none 0 0)), (.pl (.int .i64 (6)))])) (h' := { bl := [some (.cells [(.si .i64 (.var 0)), (.si .i64 (.var 1)), (.fsl 0 1 (.lit (0)) (.var 2))] 40 false)], n := 1, base := 0, ch := [] }) (by kernel_rfl) fun V mb gb v W' hv hw hbel => ?_)
     obtain rfl := rep_den _ (.tuple #[.slice none 0 0, .int .i64 6]) _ rfl hv
     first
       | (exfalso; omega)
       | (have hc : acode C n (flat1 s) (flat1 p) k = 6 := by
           unfold acode
           simp [f1, f3, hcond]
           try omega
          have e : rErr C n s m p = 6 := by rw [rErr_in hm200, fw_hit (k := k) hz (by rw [hc]; decide) (by omega), hc]
          exact ⟨.inl ⟨by rw [e]; decide, by rw [e]⟩, hbel⟩)
  ·
   have hF1 : F ((k : Int) + -1) = aval (flat1 s) (flat1 p) (k - 1) := by
     have := hFe (k - 1) (by omega)
     rw [show ((k - 1 : Nat) : Int) = (k : Int) + -1 by omega] at this
     exact this
   have h00 : -2048 ≤ flat1 s (flat1 p 0) ∧ flat1 s (flat1 p 0) ≤ 2047 := by
     have h := ac_zero (hz 0 (by omega))
     exact ph_at hpr h.1 h.2.1 h.2.2
   have hob := fun a b c => ob_round (C := C) (n := n) (k := k) (s := s) (p := p) (F1 := F ((k : Int) + -1)) hpr hcond hz h00 hF1 a b c
   have hp1 : 0 ≤ flat1 p ((k : Int) + -1) := by
     have h1 := ac_zero (hz (k - 1) (by omega))
     rw [show ((k - 1 : Nat) : Int) = (k : Int) + -1 by omega] at h1
     exact h1.1
   by_cases f1 : (m : Int) ≤ (k : Int)
   ·
    have hF : Facts [((.le (.var 3) (.var 5)), true)] := ⟨f_le f1 rfl rfl, trivial⟩
    refine out_run (P := Try.prog) (K := noK) (fl := []) (by kernel_rfl) noK_ok (facD_ok hF) hs2 (fin_gen (r := (.tup [(.osl 2 1 (.var 4)), (.pl (.int .i64 (0)))])) (h' := { bl := [some (.row (.avar 50) (.var 4) 3 1), some (.cells [(.si .i64 (.sel (.avar 0) (.sel (.avar 1) (.lit (0)))))] 3 false), some (.cells [(.si .i64 (.var 0)), (.si .i64 (.var 1)), (.fsl 0 1 (.lit (0)) (.var 2))] 40 false)], n := 3, base := 0, ch := [] }) (by kernel_rfl) fun V mb gb v W' hv hw hbel => ?_)
    obtain ⟨v1, v2, rfl, h1, h2⟩ := tup2_open hv
    simp only [Rep] at h2
    subst h2
    obtain ⟨b, L', kk, cc, rfl, e1, e2, e3, e4, e5, e6⟩ := osl_block h1 hw rfl
    have e : rErr C n s m p = 0 := by rw [rErr_in hm200, fw_none (fun j hj => hz j (by omega))]
    have eL : L' = m := by
      have : (L : Int) = (L' : Int) := e1
      omega
    subst eL
    exact ⟨.inr (.inr ⟨e, by omega, b, kk, cc, rfl, e2, e3, e4, e5, fun j hj => by rw [← hFe j (by omega)]; exact e6 j hj⟩), hbel⟩
   ·
    have f2 : (0 ≤ (k : Int)) := by
     first | omega | (have h := hob (by assumption) (by assumption) (by assumption); have q6 := td_bound (a := flat1 p ((k : Int) + -1)) hp1 hC1; have q7 := td_bound (a := flat1 p (k : Int)) (by assumption) hC1; omega)
    have f3 : (-9223372036854775808 : Int) ≤ ((n : Int) + (-1)) ∧ ((n : Int) + (-1)) ≤ 9223372036854775807 := by
     first | omega | (have h := hob (by assumption) (by assumption) (by assumption); have q6 := td_bound (a := flat1 p ((k : Int) + -1)) hp1 hC1; have q7 := td_bound (a := flat1 p (k : Int)) (by assumption) hC1; omega)
    by_cases f4 : 0 ≤ (flat1 p (k : Int))
    ·
     by_cases f5 : (flat1 p (k : Int)) ≤ ((n : Int) + (-1))
     ·
      have f6 : ¬ ((n : Int) ≤ (flat1 p (k : Int))) := by
       first | omega | (have h := hob (by assumption) (by assumption) (by assumption); have q6 := td_bound (a := flat1 p ((k : Int) + -1)) hp1 hC1; have q7 := td_bound (a := flat1 p (k : Int)) (by assumption) hC1; omega)
      by_cases f7 : (flat1 s (flat1 p (k : Int))) = 1000000000000
      ·
       have hF : Facts [((.le (.var 3) (.var 5)), false), ((.le (.lit (0)) (.var 5)), true), ((.inr .i64 (.add (.var 2) (.lit (-1)))), true), ((.le (.lit (0)) (.sel (.avar 1) (.var 5))), true), ((.le (.sel (.avar 1) (.var 5)) (.add (.var 2) (.lit (-1)))), true), ((.le (.var 2) (.sel (.avar 1) (.var 5))), false), ((.eq (.sel (.avar 0) (.sel (.avar 1) (.var 5))) (.lit (1000000000000))), true)] := ⟨f_nle f1 rfl rfl, f_le f2 rfl rfl, f_in f3 rfl, f_le f4 rfl rfl, f_le f5 rfl rfl, f_nle f6 rfl rfl, f_eq f7 rfl rfl, trivial⟩
       refine out_run (P := Try.prog) (K := noK) (fl := []) (by kernel_rfl) noK_ok (facD_ok hF) hs2 (fin_gen (r := (.tup [(.pl (.slice none 0 0)), (.pl (.int .i64 (31)))])) (h' := { bl := [some (.row (.avar 50) (.var 4) 3 1), some (.cells [(.si .i64 (.sel (.avar 0) (.sel (.avar 1) (.lit (0)))))] 3 false), some (.cells [(.si .i64 (.var 0)), (.si .i64 (.var 1)), (.fsl 0 1 (.lit (0)) (.var 2))] 40 false)], n := 3, base := 0, ch := [] }) (by kernel_rfl) fun V mb gb v W' hv hw hbel => ?_)
       obtain rfl := rep_den _ (.tuple #[.slice none 0 0, .int .i64 31]) _ rfl hv
       first
         | (exfalso; omega)
         | (have hc : acode C n (flat1 s) (flat1 p) k = 31 := by
             unfold acode
             simp [f1, f2, f4, f5, f6, f7]
             try omega
            have e : rErr C n s m p = 31 := by rw [rErr_in hm200, fw_hit (k := k) hz (by rw [hc]; decide) (by omega), hc]
            exact ⟨.inl ⟨by rw [e]; decide, by rw [e]⟩, hbel⟩)
      ·
       by_cases f8 : (k : Int) = 0
       ·
        have f9 : ((L : Int) ≤ 99999) := by
         first | omega | (have h := hob (by assumption) (by assumption) (by assumption); have q6 := td_bound (a := flat1 p ((k : Int) + -1)) hp1 hC1; have q7 := td_bound (a := flat1 p (k : Int)) (by assumption) hC1; omega)
        have f10 : (-9223372036854775808 : Int) ≤ ((k : Int) + 1) ∧ ((k : Int) + 1) ≤ 9223372036854775807 := by
         first | omega | (have h := hob (by assumption) (by assumption) (by assumption); have q6 := td_bound (a := flat1 p ((k : Int) + -1)) hp1 hC1; have q7 := td_bound (a := flat1 p (k : Int)) (by assumption) hC1; omega)
        have hF : Facts [((.le (.var 3) (.var 5)), false), ((.le (.lit (0)) (.var 5)), true), ((.inr .i64 (.add (.var 2) (.lit (-1)))), true), ((.le (.lit (0)) (.sel (.avar 1) (.var 5))), true), ((.le (.sel (.avar 1) (.var 5)) (.add (.var 2) (.lit (-1)))), true), ((.le (.var 2) (.sel (.avar 1) (.var 5))), false), ((.eq (.sel (.avar 0) (.sel (.avar 1) (.var 5))) (.lit (1000000000000))), false), ((.eq (.var 5) (.lit (0))), true), ((.le (.var 4) (.lit (99999))), true), ((.inr .i64 (.add (.var 5) (.lit (1)))), true)] := ⟨f_nle f1 rfl rfl, f_le f2 rfl rfl, f_in f3 rfl, f_le f4 rfl rfl, f_le f5 rfl rfl, f_nle f6 rfl rfl, f_ne f7 rfl rfl, f_eq f8 rfl rfl, f_le f9 rfl rfl, f_in f10 rfl, trivial⟩
        refine again_runP (P := Try.prog) (K := noK) (fl := []) (B := 4) (l := [.mov 2 4]) (a' := ral1_1_a) (h' := ral1_1_h) (ρ' := rhoL W.heap.size ([R, C, (n : Int), (m : Int)] ++ [(((L + 1) : Nat) : Int), (((k + 1) : Nat) : Int)]) [⟨A, n, flat1 s⟩, ⟨B, m, flat1 p⟩] [] [(fun j : Int => if j = (L : Int) then (flat1 s (flat1 p (k : Int))) else F j)]) (ds := [.int (.add (.var 4) (.lit (1))) (.var 4), .int (.add (.var 5) (.lit (1))) (.var 5), .row (.upd (.avar 50) (.var 4) (.sel (.avar 0) (.sel (.avar 1) (.var 5)))) (.avar 50), .int (.add (.var 4) (.lit (1))) (.var 4)]) (by kernel_rfl) noK_ok (facD_ok hF) (by kernel_rfl) (agree_list (l := [R, C, (n : Int), (m : Int)]) (Nat.le_refl _) rfl) ⟨(show (((L : Int) + 1) : Int) = (((L + 1) : Nat) : Int) from by first | rfl | (push_cast; omega)), (show (((k : Int) + 1) : Int) = (((k + 1) : Nat) : Int) from by first | rfl | (push_cast; omega)), rfl, (show (((L : Int) + 1) : Int) = (((L + 1) : Nat) : Int) from by first | rfl | (push_cast; omega)), trivial⟩ hs2 fun A3 W3 hs3 => ⟨_, _, _, ⟨(L + 1), (k + 1), (fun j : Int => if j = (L : Int) then (flat1 s (flat1 p (k : Int))) else F j), ?_, rfl, .inr ⟨rfl, rfl, ?_⟩⟩, ?_, hs3⟩
        · first
            | (exfalso; omega)
            | (have hnb : nb C (flat1 p ((k : Int) + -1)) (flat1 p (k : Int)) := by
                rw [nb_iff hC1 (by assumption) (by assumption)]
                unfold nbR sz
                simp only [f1, f2, f4, f5, f6, f7, f8, f9, if_true, if_false]
                try omega
               refine ⟨by omega, by omega, fun j hj => ?_, fun j hj => ?_⟩
               · rcases Nat.lt_or_ge j k with g | g
                 · exact hz j g
                 · obtain rfl : j = k := by omega
                   unfold acode
                   simp [f1, f2, f4, f5, f6, f7, f8, f9, hnb]
                   try omega
               · dsimp only
                 rcases Nat.lt_or_ge j k with g | g
                 · rw [if_neg (by omega)]
                   exact hFe j g
                 · obtain rfl : j = k := by omega
                   rw [if_pos (by omega), aval_step hcond, hF1]
                   unfold stp wrp
                   simp only [f1, f2, f4, f5, f6, f7, f8, f9, if_true, if_false]
                   try omega)
        · omega
        · show m - ((k + 1 : Nat) : Int).toNat < m - ((k : Nat) : Int).toNat
          omega
       ·
        have f9 : (-9223372036854775808 : Int) ≤ ((k : Int) + (-1)) ∧ ((k : Int) + (-1)) ≤ 9223372036854775807 := by
         first | omega | (have h := hob (by assumption) (by assumption) (by assumption); have q6 := td_bound (a := flat1 p ((k : Int) + -1)) hp1 hC1; have q7 := td_bound (a := flat1 p (k : Int)) (by assumption) hC1; omega)
        have f10 : (0 ≤ ((k : Int) + (-1))) := by
         first | omega | (have h := hob (by assumption) (by assumption) (by assumption); have q6 := td_bound (a := flat1 p ((k : Int) + -1)) hp1 hC1; have q7 := td_bound (a := flat1 p (k : Int)) (by assumption) hC1; omega)
        have f11 : ¬ ((m : Int) ≤ ((k : Int) + (-1))) := by
         first | omega | (have h := hob (by assumption) (by assumption) (by assumption); have q6 := td_bound (a := flat1 p ((k : Int) + -1)) hp1 hC1; have q7 := td_bound (a := flat1 p (k : Int)) (by assumption) hC1; omega)
        have f12 : ¬ (C = 0) := by
         first | omega | (have h := hob (by assumption) (by assumption) (by assumption); have q6 := td_bound (a := flat1 p ((k : Int) + -1)) hp1 hC1; have q7 := td_bound (a := flat1 p (k : Int)) (by assumption) hC1; omega)
        have f13 : (-9223372036854775808 : Int) ≤ (Int.tdiv (flat1 p ((k : Int) + (-1))) C) ∧ (Int.tdiv (flat1 p ((k : Int) + (-1))) C) ≤ 9223372036854775807 := by
         first | omega | (have h := hob (by assumption) (by assumption) (by assumption); have q6 := td_bound (a := flat1 p ((k : Int) + -1)) hp1 hC1; have q7 := td_bound (a := flat1 p (k : Int)) (by assumption) hC1; omega)
        have f14 : (-9223372036854775808 : Int) ≤ (Int.tdiv (flat1 p (k : Int)) C) ∧ (Int.tdiv (flat1 p (k : Int)) C) ≤ 9223372036854775807 := by
         first | omega | (have h := hob (by assumption) (by assumption) (by assumption); have q6 := td_bound (a := flat1 p ((k : Int) + -1)) hp1 hC1; have q7 := td_bound (a := flat1 p (k : Int)) (by assumption) hC1; omega)
        have f15 : (-9223372036854775808 : Int) ≤ ((Int.tdiv (flat1 p ((k : Int) + (-1))) C) - (Int.tdiv (flat1 p (k : Int)) C)) ∧ ((Int.tdiv (flat1 p ((k : Int) + (-1))) C) - (Int.tdiv (flat1 p (k : Int)) C)) ≤ 9223372036854775807 := by
         first | omega | (have h := hob (by assumption) (by assumption) (by assumption); have q6 := td_bound (a := flat1 p ((k : Int) + -1)) hp1 hC1; have q7 := td_bound (a := flat1 p (k : Int)) (by assumption) hC1; omega)
        have f16 : (-9223372036854775808 : Int) ≤ (0 - ((Int.tdiv (flat1 p ((k : Int) + (-1))) C) - (Int.tdiv (flat1 p (k : Int)) C))) ∧ (0 - ((Int.tdiv (flat1 p ((k : Int) + (-1))) C) - (Int.tdiv (flat1 p (k : Int)) C))) ≤ 9223372036854775807 := by
         first | omega | (have h := hob (by assumption) (by assumption) (by assumption); have q6 := td_bound (a := flat1 p ((k : Int) + -1)) hp1 hC1; have q7 := td_bound (a := flat1 p (k : Int)) (by assumption) hC1; omega)
        by_cases f17 : (0 - ((Int.tdiv (flat1 p ((k : Int) + (-1))) C) - (Int.tdiv (flat1 p (k : Int)) C))) ≤ ((Int.tdiv (flat1 p ((k : Int) + (-1))) C) - (Int.tdiv (flat1 p (k : Int)) C))
        ·
         have f18 : (-9223372036854775808 : Int) ≤ ((Int.tmod (flat1 p ((k : Int) + (-1))) C) - (Int.tmod (flat1 p (k : Int)) C)) ∧ ((Int.tmod (flat1 p ((k : Int) + (-1))) C) - (Int.tmod (flat1 p (k : Int)) C)) ≤ 9223372036854775807 := by
          first | omega | (have h := hob (by assumption) (by assumption) (by assumption); have q6 := td_bound (a := flat1 p ((k : Int) + -1)) hp1 hC1; have q7 := td_bound (a := flat1 p (k : Int)) (by assumption) hC1; omega)
         have f19 : (-9223372036854775808 : Int) ≤ (0 - ((Int.tmod (flat1 p ((k : Int) + (-1))) C) - (Int.tmod (flat1 p (k : Int)) C))) ∧ (0 - ((Int.tmod (flat1 p ((k : Int) + (-1))) C) - (Int.tmod (flat1 p (k : Int)) C))) ≤ 9223372036854775807 := by
          first | omega | (have h := hob (by assumption) (by assumption) (by assumption); have q6 := td_bound (a := flat1 p ((k : Int) + -1)) hp1 hC1; have q7 := td_bound (a := flat1 p (k : Int)) (by assumption) hC1; omega)
         by_cases f20 : (0 - ((Int.tmod (flat1 p ((k : Int) + (-1))) C) - (Int.tmod (flat1 p (k : Int)) C))) ≤ ((Int.tmod (flat1 p ((k : Int) + (-1))) C) - (Int.tmod (flat1 p (k : Int)) C))
         ·
          have f21 : (-9223372036854775808 : Int) ≤ (((Int.tdiv (flat1 p ((k : Int) + (-1))) C) - (Int.tdiv (flat1 p (k : Int)) C)) + ((Int.tmod (flat1 p ((k : Int) + (-1))) C) - (Int.tmod (flat1 p (k : Int)) C))) ∧ (((Int.tdiv (flat1 p ((k : Int) + (-1))) C) - (Int.tdiv (flat1 p (k : Int)) C)) + ((Int.tmod (flat1 p ((k : Int) + (-1))) C) - (Int.tmod (flat1 p (k : Int)) C))) ≤ 9223372036854775807 := by
           first | omega | (have h := hob (by assumption) (by assumption) (by assumption); have q6 := td_bound (a := flat1 p ((k : Int) + -1)) hp1 hC1; have q7 := td_bound (a := flat1 p (k : Int)) (by assumption) hC1; omega)
          by_cases f22 : (((Int.tdiv (flat1 p ((k : Int) + (-1))) C) - (Int.tdiv (flat1 p (k : Int)) C)) + ((Int.tmod (flat1 p ((k : Int) + (-1))) C) - (Int.tmod (flat1 p (k : Int)) C))) = 1
          ·
           by_cases f23 : (flat1 p ((k : Int) + (-1))) ≤ (flat1 p (k : Int))
           ·
            have f24 : (0 ≤ (flat1 p ((k : Int) + (-1)))) := by
             first | omega | (have h := hob (by assumption) (by assumption) (by assumption); have q6 := td_bound (a := flat1 p ((k : Int) + -1)) hp1 hC1; have q7 := td_bound (a := flat1 p (k : Int)) (by assumption) hC1; omega)
            have f25 : ¬ ((n : Int) ≤ (flat1 p ((k : Int) + (-1)))) := by
             first | omega | (have h := hob (by assumption) (by assumption) (by assumption); have q6 := td_bound (a := flat1 p ((k : Int) + -1)) hp1 hC1; have q7 := td_bound (a := flat1 p (k : Int)) (by assumption) hC1; omega)
            have f26 : (-9223372036854775808 : Int) ≤ ((flat1 s (flat1 p (k : Int))) - (flat1 s (flat1 p ((k : Int) + (-1))))) ∧ ((flat1 s (flat1 p (k : Int))) - (flat1 s (flat1 p ((k : Int) + (-1))))) ≤ 9223372036854775807 := by
             first | omega | (have h := hob (by assumption) (by assumption) (by assumption); have q6 := td_bound (a := flat1 p ((k : Int) + -1)) hp1 hC1; have q7 := td_bound (a := flat1 p (k : Int)) (by assumption) hC1; omega)
            have f27 : (-9223372036854775808 : Int) ≤ (((flat1 s (flat1 p (k : Int))) - (flat1 s (flat1 p ((k : Int) + (-1))))) + 2048) ∧ (((flat1 s (flat1 p (k : Int))) - (flat1 s (flat1 p ((k : Int) + (-1))))) + 2048) ≤ 9223372036854775807 := by
             first | omega | (have h := hob (by assumption) (by assumption) (by assumption); have q6 := td_bound (a := flat1 p ((k : Int) + -1)) hp1 hC1; have q7 := td_bound (a := flat1 p (k : Int)) (by assumption) hC1; omega)
            by_cases f28 : 0 ≤ (Int.tmod (((flat1 s (flat1 p (k : Int))) - (flat1 s (flat1 p ((k : Int) + (-1))))) + 2048) 4096)
            ·
             have f29 : (-9223372036854775808 : Int) ≤ ((Int.tmod (((flat1 s (flat1 p (k : Int))) - (flat1 s (flat1 p ((k : Int) + (-1))))) + 2048) 4096) + (-2048)) ∧ ((Int.tmod (((flat1 s (flat1 p (k : Int))) - (flat1 s (flat1 p ((k : Int) + (-1))))) + 2048) 4096) + (-2048)) ≤ 9223372036854775807 := by
              first | omega | (have h := hob (by assumption) (by assumption) (by assumption); have q6 := td_bound (a := flat1 p ((k : Int) + -1)) hp1 hC1; have q7 := td_bound (a := flat1 p (k : Int)) (by assumption) hC1; omega)
             have f30 : ¬ ((L : Int) ≤ ((k : Int) + (-1))) := by
              first | omega | (have h := hob (by assumption) (by assumption) (by assumption); have q6 := td_bound (a := flat1 p ((k : Int) + -1)) hp1 hC1; have q7 := td_bound (a := flat1 p (k : Int)) (by assumption) hC1; omega)
             have f31 : (-9223372036854775808 : Int) ≤ ((F ((k : Int) + (-1))) + ((Int.tmod (((flat1 s (flat1 p (k : Int))) - (flat1 s (flat1 p ((k : Int) + (-1))))) + 2048) 4096) + (-2048))) ∧ ((F ((k : Int) + (-1))) + ((Int.tmod (((flat1 s (flat1 p (k : Int))) - (flat1 s (flat1 p ((k : Int) + (-1))))) + 2048) 4096) + (-2048))) ≤ 9223372036854775807 := by
              first | omega | (have h := hob (by assumption) (by assumption) (by assumption); have q6 := td_bound (a := flat1 p ((k : Int) + -1)) hp1 hC1; have q7 := td_bound (a := flat1 p (k : Int)) (by assumption) hC1; omega)
             have f32 : ((L : Int) ≤ 99999) := by
              first | omega | (have h := hob (by assumption) (by assumption) (by assumption); have q6 := td_bound (a := flat1 p ((k : Int) + -1)) hp1 hC1; have q7 := td_bound (a := flat1 p (k : Int)) (by assumption) hC1; omega)
             have f33 : (-9223372036854775808 : Int) ≤ ((k : Int) + 1) ∧ ((k : Int) + 1) ≤ 9223372036854775807 := by
              first | omega | (have h := hob (by assumption) (by assumption) (by assumption); have q6 := td_bound (a := flat1 p ((k : Int) + -1)) hp1 hC1; have q7 := td_bound (a := flat1 p (k : Int)) (by assumption) hC1; omega)
             have hF : Facts [((.le (.var 3) (.var 5)), false), ((.le (.lit (0)) (.var 5)), true), ((.inr .i64 (.add (.var 2) (.lit (-1)))), true), ((.le (.lit (0)) (.sel (.avar 1) (.var 5))), true), ((.le (.sel (.avar 1) (.var 5)) (.add (.var 2) (.lit (-1)))), true), ((.le (.var 2) (.sel (.avar 1) (.var 5))), false), ((.eq (.sel (.avar 0) (.sel (.avar 1) (.var 5))) (.lit (1000000000000))), false), ((.eq (.var 5) (.lit (0))), false), ((.inr .i64 (.add (.var 5) (.lit (-1)))), true), ((.le (.lit (0)) (.add (.var 5) (.lit (-1)))), true), ((.le (.var 3) (.add (.var 5) (.lit (-1)))), false), ((.eq (.var 1) (.lit (0))), false), ((.inr .i64 (.quo (.sel (.avar 1) (.add (.var 5) (.lit (-1)))) (.var 1))), true), ((.inr .i64 (.quo (.sel (.avar 1) (.var 5)) (.var 1))), true), ((.inr .i64 (.sub (.quo (.sel (.avar 1) (.add (.var 5) (.lit (-1)))) (.var 1)) (.quo (.sel (.avar 1) (.var 5)) (.var 1)))), true), ((.inr .i64 (.sub (.lit (0)) (.sub (.quo (.sel (.avar 1) (.add (.var 5) (.lit (-1)))) (.var 1)) (.quo (.sel (.avar 1) (.var 5)) (.var 1))))), true), ((.le (.sub (.lit (0)) (.sub (.quo (.sel (.avar 1) (.add (.var 5) (.lit (-1)))) (.var 1)) (.quo (.sel (.avar 1) (.var 5)) (.var 1)))) (.sub (.quo (.sel (.avar 1) (.add (.var 5) (.lit (-1)))) (.var 1)) (.quo (.sel (.avar 1) (.var 5)) (.var 1)))), true), ((.inr .i64 (.sub (.rem (.sel (.avar 1) (.add (.var 5) (.lit (-1)))) (.var 1)) (.rem (.sel (.avar 1) (.var 5)) (.var 1)))), true), ((.inr .i64 (.sub (.lit (0)) (.sub (.rem (.sel (.avar 1) (.add (.var 5) (.lit (-1)))) (.var 1)) (.rem (.sel (.avar 1) (.var 5)) (.var 1))))), true), ((.le (.sub (.lit (0)) (.sub (.rem (.sel (.avar 1) (.add (.var 5) (.lit (-1)))) (.var 1)) (.rem (.sel (.avar 1) (.var 5)) (.var 1)))) (.sub (.rem (.sel (.avar 1) (.add (.var 5) (.lit (-1)))) (.var 1)) (.rem (.sel (.avar 1) (.var 5)) (.var 1)))), true), ((.inr .i64 (.add (.sub (.quo (.sel (.avar 1) (.add (.var 5) (.lit (-1)))) (.var 1)) (.quo (.sel (.avar 1) (.var 5)) (.var 1))) (.sub (.rem (.sel (.avar 1) (.add (.var 5) (.lit (-1)))) (.var 1)) (.rem (.sel (.avar 1) (.var 5)) (.var 1))))), true), ((.eq (.add (.sub (.quo (.sel (.avar 1) (.add (.var 5) (.lit (-1)))) (.var 1)) (.quo (.sel (.avar 1) (.var 5)) (.var 1))) (.sub (.rem (.sel (.avar 1) (.add (.var 5) (.lit (-1)))) (.var 1)) (.rem (.sel (.avar 1) (.var 5)) (.var 1)))) (.lit (1))), true), ((.le (.sel (.avar 1) (.add (.var 5) (.lit (-1)))) (.sel (.avar 1) (.var 5))), true), ((.le (.lit (0)) (.sel (.avar 1) (.add (.var 5) (.lit (-1))))), true), ((.le (.var 2) (.sel (.avar 1) (.add (.var 5) (.lit (-1))))), false), ((.inr .i64 (.sub (.sel (.avar 0) (.sel (.avar 1) (.var 5))) (.sel (.avar 0) (.sel (.avar 1) (.add (.var 5) (.lit (-1))))))), true), ((.inr .i64 (.add (.sub (.sel (.avar 0) (.sel (.avar 1) (.var 5))) (.sel (.avar 0) (.sel (.avar 1) (.add (.var 5) (.lit (-1)))))) (.lit (2048)))), true), ((.le (.lit (0)) (.rem (.add (.sub (.sel (.avar 0) (.sel (.avar 1) (.var 5))) (.sel (.avar 0) (.sel (.avar 1) (.add (.var 5) (.lit (-1)))))) (.lit (2048))) (.lit (4096)))), true), ((.inr .i64 (.add (.rem (.add (.sub (.sel (.avar 0) (.sel (.avar 1) (.var 5))) (.sel (.avar 0) (.sel (.avar 1) (.add (.var 5) (.lit (-1)))))) (.lit (2048))) (.lit (4096))) (.lit (-2048)))), true), ((.le (.var 4) (.add (.var 5) (.lit (-1)))), false), ((.inr .i64 (.add (.sel (.avar 50) (.add (.var 5) (.lit (-1)))) (.add (.rem (.add (.sub (.sel (.avar 0) (.sel (.avar 1) (.var 5))) (.sel (.avar 0) (.sel (.avar 1) (.add (.var 5) (.lit (-1)))))) (.lit (2048))) (.lit (4096))) (.lit (-2048))))), true), ((.le (.var 4) (.lit (99999))), true), ((.inr .i64 (.add (.var 5) (.lit (1)))), true)] := ⟨f_nle f1 rfl rfl, f_le f2 rfl rfl, f_in f3 rfl, f_le f4 rfl rfl, f_le f5 rfl rfl, f_nle f6 rfl rfl, f_ne f7 rfl rfl, f_ne f8 rfl rfl, f_in f9 rfl, f_le f10 rfl rfl, f_nle f11 rfl rfl, f_ne f12 rfl rfl, f_in f13 rfl, f_in f14 rfl, f_in f15 rfl, f_in f16 rfl, f_le f17 rfl rfl, f_in f18 rfl, f_in f19 rfl, f_le f20 rfl rfl, f_in f21 rfl, f_eq f22 rfl rfl, f_le f23 rfl rfl, f_le f24 rfl rfl, f_nle f25 rfl rfl, f_in f26 rfl, f_in f27 rfl, f_le f28 rfl rfl, f_in f29 rfl, f_nle f30 rfl rfl, f_in f31 rfl, f_le f32 rfl rfl, f_in f33 rfl, trivial⟩
             refine again_runP (P := Try.prog) (K := noK) (fl := []) (B := 4) (l := [.mov 2 4]) (a' := ral1_1_a) (h' := ral1_1_h) (ρ' := rhoL W.heap.size ([R, C, (n : Int), (m : Int)] ++ [(((L + 1) : Nat) : Int), (((k + 1) : Nat) : Int)]) [⟨A, n, flat1 s⟩, ⟨B, m, flat1 p⟩] [] [(fun j : Int => if j = (L : Int) then ((F ((k : Int) + (-1))) + ((Int.tmod (((flat1 s (flat1 p (k : Int))) - (flat1 s (flat1 p ((k : Int) + (-1))))) + 2048) 4096) + (-2048))) else F j)]) (ds := [.int (.add (.var 4) (.lit (1))) (.var 4), .int (.add (.var 5) (.lit (1))) (.var 5), .row (.upd (.avar 50) (.var 4) (.add (.sel (.avar 50) (.add (.var 5) (.lit (-1)))) (.add (.rem (.add (.sub (.sel (.avar 0) (.sel (.avar 1) (.var 5))) (.sel (.avar 0) (.sel (.avar 1) (.add (.var 5) (.lit (-1)))))) (.lit (2048))) (.lit (4096))) (.lit (-2048))))) (.avar 50), .int (.add (.var 4) (.lit (1))) (.var 4)]) (by kernel_rfl) noK_ok (facD_ok hF) (by kernel_rfl) (agree_list (l := [R, C, (n : Int), (m : Int)]) (Nat.le_refl _) rfl) ⟨(show (((L : Int) + 1) : Int) = (((L + 1) : Nat) : Int) from by first | rfl | (push_cast; omega)), (show (((k : Int) + 1) : Int) = (((k + 1) : Nat) : Int) from by first | rfl | (push_cast; omega)), rfl, (show (((L : Int) + 1) : Int) = (((L + 1) : Nat) : Int) from by first | rfl | (push_cast; omega)), trivial⟩ hs2 fun A3 W3 hs3 => ⟨_, _, _, ⟨(L + 1), (k + 1), (fun j : Int => if j = (L : Int) then ((F ((k : Int) + (-1))) + ((Int.tmod (((flat1 s (flat1 p (k : Int))) - (flat1 s (flat1 p ((k : Int) + (-1))))) + 2048) 4096) + (-2048))) else F j), ?_, rfl, .inr ⟨rfl, rfl, ?_⟩⟩, ?_, hs3⟩
             · first
                 | (exfalso; omega)
                 | (have hnb : nb C (flat1 p ((k : Int) + -1)) (flat1 p (k : Int)) := by
                     rw [nb_iff hC1 (by assumption) (by assumption)]
                     unfold nbR sz
                     simp only [f1, f2, f4, f5, f6, f7, f8, f10, f11, f12, f17, f20, f22, f23, f24, f25, f28, f30, f32, if_true, if_false]
                     try omega
                    refine ⟨by omega, by omega, fun j hj => ?_, fun j hj => ?_⟩
                    · rcases Nat.lt_or_ge j k with g | g
                      · exact hz j g
                      · obtain rfl : j = k := by omega
                        unfold acode
                        simp [f1, f2, f4, f5, f6, f7, f8, f10, f11, f12, f17, f20, f22, f23, f24, f25, f28, f30, f32, hnb]
                        try omega
                    · dsimp only
                      rcases Nat.lt_or_ge j k with g | g
                      · rw [if_neg (by omega)]
                        exact hFe j g
                      · obtain rfl : j = k := by omega
                        rw [if_pos (by omega), aval_step hcond, hF1]
                        unfold stp wrp
                        simp only [f1, f2, f4, f5, f6, f7, f8, f10, f11, f12, f17, f20, f22, f23, f24, f25, f28, f30, f32, if_true, if_false]
                        try omega)
             · omega
             · show m - ((k + 1 : Nat) : Int).toNat < m - ((k : Nat) : Int).toNat
               omega
            ·
             have f29 : (-9223372036854775808 : Int) ≤ ((Int.tmod (((flat1 s (flat1 p (k : Int))) - (flat1 s (flat1 p ((k : Int) + (-1))))) + 2048) 4096) + 4096) ∧ ((Int.tmod (((flat1 s (flat1 p (k : Int))) - (flat1 s (flat1 p ((k : Int) + (-1))))) + 2048) 4096) + 4096) ≤ 9223372036854775807 := by
              first | omega | (have h := hob (by assumption) (by assumption) (by assumption); have q6 := td_bound (a := flat1 p ((k : Int) + -1)) hp1 hC1; have q7 := td_bound (a := flat1 p (k : Int)) (by assumption) hC1; omega)
             have f30 : (-9223372036854775808 : Int) ≤ ((Int.tmod (((flat1 s (flat1 p (k : Int))) - (flat1 s (flat1 p ((k : Int) + (-1))))) + 2048) 4096) + 2048) ∧ ((Int.tmod (((flat1 s (flat1 p (k : Int))) - (flat1 s (flat1 p ((k : Int) + (-1))))) + 2048) 4096) + 2048) ≤ 9223372036854775807 := by
              first | omega | (have h := hob (by assumption) (by assumption) (by assumption); have q6 := td_bound (a := flat1 p ((k : Int) + -1)) hp1 hC1; have q7 := td_bound (a := flat1 p (k : Int)) (by assumption) hC1; omega)
             have f31 : ¬ ((L : Int) ≤ ((k : Int) + (-1))) := by
              first | omega | (have h := hob (by assumption) (by assumption) (by assumption); have q6 := td_bound (a := flat1 p ((k : Int) + -1)) hp1 hC1; have q7 := td_bound (a := flat1 p (k : Int)) (by assumption) hC1; omega)
             have f32 : (-9223372036854775808 : Int) ≤ ((F ((k : Int) + (-1))) + ((Int.tmod (((flat1 s (flat1 p (k : Int))) - (flat1 s (flat1 p ((k : Int) + (-1))))) + 2048) 4096) + 2048)) ∧ ((F ((k : Int) + (-1))) + ((Int.tmod (((flat1 s (flat1 p (k : Int))) - (flat1 s (flat1 p ((k : Int) + (-1))))) + 2048) 4096) + 2048)) ≤ 9223372036854775807 := by
              first | omega | (have h := hob (by assumption) (by assumption) (by assumption); have q6 := td_bound (a := flat1 p ((k : Int) + -1)) hp1 hC1; have q7 := td_bound (a := flat1 p (k : Int)) (by assumption) hC1; omega)
             have f33 : ((L : Int) ≤ 99999) := by
              first | omega | (have h := hob (by assumption) (by assumption) (by assumption); have q6 := td_bound (a := flat1 p ((k : Int) + -1)) hp1 hC1; have q7 := td_bound (a := flat1 p (k : Int)) (by assumption) hC1; omega)
             have f34 : (-9223372036854775808 : Int) ≤ ((k : Int) + 1) ∧ ((k : Int) + 1) ≤ 9223372036854775807 := by
              first | omega | (have h := hob (by assumption) (by assumption) (by assumption); have q6 := td_bound (a := flat1 p ((k : Int) + -1)) hp1 hC1; have q7 := td_bound (a := flat1 p (k : Int)) (by assumption) hC1; omega)
             have hF : Facts [((.le (.var 3) (.var 5)), false), ((.le (.lit (0)) (.var 5)), true), ((.inr .i64 (.add (.var 2) (.lit (-1)))), true), ((.le (.lit (0)) (.sel (.avar 1) (.var 5))), true), ((.le (.sel (.avar 1) (.var 5)) (.add (.var 2) (.lit (-1)))), true), ((.le (.var 2) (.sel (.avar 1) (.var 5))), false), ((.eq (.sel (.avar 0) (.sel (.avar 1) (.var 5))) (.lit (1000000000000))), false), ((.eq (.var 5) (.lit (0))), false), ((.inr .i64 (.add (.var 5) (.lit (-1)))), true), ((.le (.lit (0)) (.add (.var 5) (.lit (-1)))), true), ((.le (.var 3) (.add (.var 5) (.lit (-1)))), false), ((.eq (.var 1) (.lit (0))), false), ((.inr .i64 (.quo (.sel (.avar 1) (.add (.var 5) (.lit (-1)))) (.var 1))), true), ((.inr .i64 (.quo (.sel (.avar 1) (.var 5)) (.var 1))), true), ((.inr .i64 (.sub (.quo (.sel (.avar 1) (.add (.var 5) (.lit (-1)))) (.var 1)) (.quo (.sel (.avar 1) (.var 5)) (.var 1)))), true), ((.inr .i64 (.sub (.lit (0)) (.sub (.quo (.sel (.avar 1) (.add (.var 5) (.lit (-1)))) (.var 1)) (.quo (.sel (.avar 1) (.var 5)) (.var 1))))), true), ((.le (.sub (.lit (0)) (.sub (.quo (.sel (.avar 1) (.add (.var 5) (.lit (-1)))) (.var 1)) (.quo (.sel (.avar 1) (.var 5)) (.var 1)))) (.sub (.quo (.sel (.avar 1) (.add (.var 5) (.lit (-1)))) (.var 1)) (.quo (.sel (.avar 1) (.var 5)) (.var 1)))), true), ((.inr .i64 (.sub (.rem (.sel (.avar 1) (.add (.var 5) (.lit (-1)))) (.var 1)) (.rem (.sel (.avar 1) (.var 5)) (.var 1)))), true), ((.inr .i64 (.sub (.lit (0)) (.sub (.rem (.sel (.avar 1) (.add (.var 5) (.lit (-1)))) (.var 1)) (.rem (.sel (.avar 1) (.var 5)) (.var 1))))), true), ((.le (.sub (.lit (0)) (.sub (.rem (.sel (.avar 1) (.add (.var 5) (.lit (-1)))) (.var 1)) (.rem (.sel (.avar 1) (.var 5)) (.var 1)))) (.sub (.rem (.sel (.avar 1) (.add (.var 5) (.lit (-1)))) (.var 1)) (.rem (.sel (.avar 1) (.var 5)) (.var 1)))), true), ((.inr .i64 (.add (.sub (.quo (.sel (.avar 1) (.add (.var 5) (.lit (-1)))) (.var 1)) (.quo (.sel (.avar 1) (.var 5)) (.var 1))) (.sub (.rem (.sel (.avar 1) (.add (.var 5) (.lit (-1)))) (.var 1)) (.rem (.sel (.avar 1) (.var 5)) (.var 1))))), true), ((.eq (.add (.sub (.quo (.sel (.avar 1) (.add (.var 5) (.lit (-1)))) (.var 1)) (.quo (.sel (.avar 1) (.var 5)) (.var 1))) (.sub (.rem (.sel (.avar 1) (.add (.var 5) (.lit (-1)))) (.var 1)) (.rem (.sel (.avar 1) (.var 5)) (.var 1)))) (.lit (1))), true), ((.le (.sel (.avar 1) (.add (.var 5) (.lit (-1)))) (.sel (.avar 1) (.var 5))), true), ((.le (.lit (0)) (.sel (.avar 1) (.add (.var 5) (.lit (-1))))), true), ((.le (.var 2) (.sel (.avar 1) (.add (.var 5) (.lit (-1))))), false), ((.inr .i64 (.sub (.sel (.avar 0) (.sel (.avar 1) (.var 5))) (.sel (.avar 0) (.sel (.avar 1) (.add (.var 5) (.lit (-1))))))), true), ((.inr .i64 (.add (.sub (.sel (.avar 0) (.sel (.avar 1) (.var 5))) (.sel (.avar 0) (.sel (.avar 1) (.add (.var 5) (.lit (-1)))))) (.lit (2048)))), true), ((.le (.lit (0)) (.rem (.add (.sub (.sel (.avar 0) (.sel (.avar 1) (.var 5))) (.sel (.avar 0) (.sel (.avar 1) (.add (.var 5) (.lit (-1)))))) (.lit (2048))) (.lit (4096)))), false), ((.inr .i64 (.add (.rem (.add (.sub (.sel (.avar 0) (.sel (.avar 1) (.var 5))) (.sel (.avar 0) (.sel (.avar 1) (.add (.var 5) (.lit (-1)))))) (.lit (2048))) (.lit (4096))) (.lit (4096)))), true), ((.inr .i64 (.add (.rem (.add (.sub (.sel (.avar 0) (.sel (.avar 1) (.var 5))) (.sel (.avar 0) (.sel (.avar 1) (.add (.var 5) (.lit (-1)))))) (.lit (2048))) (.lit (4096))) (.lit (2048)))), true), ((.le (.var 4) (.add (.var 5) (.lit (-1)))), false), ((.inr .i64 (.add (.sel (.avar 50) (.add (.var 5) (.lit (-1)))) (.add (.rem (.add (.sub (.sel (.avar 0) (.sel (.avar 1) (.var 5))) (.sel (.avar 0) (.sel (.avar 1) (.add (.var 5) (.lit (-1)))))) (.lit (2048))) (.lit (4096))) (.lit (2048))))), true), ((.le (.var 4) (.lit (99999))), true), ((.inr .i64 (.add (.var 5) (.lit (1)))), true)] := ⟨f_nle f1 rfl rfl, f_le f2 rfl rfl, f_in f3 rfl, f_le f4 rfl rfl, f_le f5 rfl rfl, f_nle f6 rfl rfl, f_ne f7 rfl rfl, f_ne f8 rfl rfl, f_in f9 rfl, f_le f10 rfl rfl, f_nle f11 rfl rfl, f_ne f12 rfl rfl, f_in f13 rfl, f_in f14 rfl, f_in f15 rfl, f_in f16 rfl, f_le f17 rfl rfl, f_in f18 rfl, f_in f19 rfl, f_le f20 rfl rfl, f_in f21 rfl, f_eq f22 rfl rfl, f_le f23 rfl rfl, f_le f24 rfl rfl, f_nle f25 rfl rfl, f_in f26 rfl, f_in f27 rfl, f_nle f28 rfl rfl, f_in f29 rfl, f_in f30 rfl, f_nle f31 rfl rfl, f_in f32 rfl, f_le f33 rfl rfl, f_in f34 rfl, trivial⟩
             refine again_runP (P := Try.prog) (K := noK) (fl := []) (B := 4) (l := [.mov 2 4]) (a' := ral1_1_a) (h' := ral1_1_h) (ρ' := rhoL W.heap.size ([R, C, (n : Int), (m : Int)] ++ [(((L + 1) : Nat) : Int), (((k + 1) : Nat) : Int)]) [⟨A, n, flat1 s⟩, ⟨B, m, flat1 p⟩] [] [(fun j : Int => if j = (L : Int) then ((F ((k : Int) + (-1))) + ((Int.tmod (((flat1 s (flat1 p (k : Int))) - (flat1 s (flat1 p ((k : Int) + (-1))))) + 2048) 4096) + 2048)) else F j)]) (ds := [.int (.add (.var 4) (.lit (1))) (.var 4), .int (.add (.var 5) (.lit (1))) (.var 5), .row (.upd (.avar 50) (.var 4) (.add (.sel (.avar 50) (.add (.var 5) (.lit (-1)))) (.add (.rem (.add (.sub (.sel (.avar 0) (.sel (.avar 1) (.var 5))) (.sel (.avar 0) (.sel (.avar 1) (.add (.var 5) (.lit (-1)))))) (.lit (2048))) (.lit (4096))) (.lit (2048))))) (.avar 50), .int (.add (.var 4) (.lit (1))) (.var 4)]) (by kernel_rfl) noK_ok (facD_ok hF) (by kernel_rfl) (agree_list (l := [R, C, (n : Int), (m : Int)]) (Nat.le_refl _) rfl) ⟨(show (((L : Int) + 1) : Int) = (((L + 1) : Nat) : Int) from by first | rfl | (push_cast; omega)), (show (((k : Int) + 1) : Int) = (((k + 1) : Nat) : Int) from by first | rfl | (push_cast; omega)), rfl, (show (((L : Int) + 1) : Int) = (((L + 1) : Nat) : Int) from by first | rfl | (push_cast; omega)), trivial⟩ hs2 fun A3 W3 hs3 => ⟨_, _, _, ⟨(L + 1), (k + 1), (fun j : Int => if j = (L : Int) then ((F ((k : Int) + (-1))) + ((Int.tmod (((flat1 s (flat1 p (k : Int))) - (flat1 s (flat1 p ((k : Int) + (-1))))) + 2048) 4096) + 2048)) else F j), ?_, rfl, .inr ⟨rfl, rfl, ?_⟩⟩, ?_, hs3⟩
             · first
                 | (exfalso; omega)
                 | (have hnb : nb C (flat1 p ((k : Int) + -1)) (flat1 p (k : Int)) := by
                     rw [nb_iff hC1 (by assumption) (by assumption)]
                     unfold nbR sz
                     simp only [f1, f2, f4, f5, f6, f7, f8, f10, f11, f12, f17, f20, f22, f23, f24, f25, f28, f31, f33, if_true, if_false]
                     try omega
                    refine ⟨by omega, by omega, fun j hj => ?_, fun j hj => ?_⟩
                    · rcases Nat.lt_or_ge j k with g | g
                      · exact hz j g
                      · obtain rfl : j = k := by omega
                        unfold acode
                        simp [f1, f2, f4, f5, f6, f7, f8, f10, f11, f12, f17, f20, f22, f23, f24, f25, f28, f31, f33, hnb]
                        try omega
                    · dsimp only
                      rcases Nat.lt_or_ge j k with g | g
                      · rw [if_neg (by omega)]
                        exact hFe j g
                      · obtain rfl : j = k := by omega
                        rw [if_pos (by omega), aval_step hcond, hF1]
                        unfold stp wrp
                        simp only [f1, f2, f4, f5, f6, f7, f8, f10, f11, f12, f17, f20, f22, f23, f24, f25, f28, f31, f33, if_true, if_false]
                        try omega)
             · omega
             · show m - ((k + 1 : Nat) : Int).toNat < m - ((k : Nat) : Int).toNat
               omega
           ·
            have f24 : ((flat1 p (k : Int)) ≤ (flat1 p ((k : Int) + (-1)))) := by
             first | omega | (have h := hob (by assumption) (by assumption) (by assumption); have q6 := td_bound (a := flat1 p ((k : Int) + -1)) hp1 hC1; have q7 := td_bound (a := flat1 p (k : Int)) (by assumption) hC1; omega)
            have f25 : (0 ≤ (flat1 p ((k : Int) + (-1)))) := by
             first | omega | (have h := hob (by assumption) (by assumption) (by assumption); have q6 := td_bound (a := flat1 p ((k : Int) + -1)) hp1 hC1; have q7 := td_bound (a := flat1 p (k : Int)) (by assumption) hC1; omega)
            have f26 : ¬ ((n : Int) ≤ (flat1 p ((k : Int) + (-1)))) := by
             first | omega | (have h := hob (by assumption) (by assumption) (by assumption); have q6 := td_bound (a := flat1 p ((k : Int) + -1)) hp1 hC1; have q7 := td_bound (a := flat1 p (k : Int)) (by assumption) hC1; omega)
            have f27 : (-9223372036854775808 : Int) ≤ ((flat1 s (flat1 p ((k : Int) + (-1)))) - (flat1 s (flat1 p (k : Int)))) ∧ ((flat1 s (flat1 p ((k : Int) + (-1)))) - (flat1 s (flat1 p (k : Int)))) ≤ 9223372036854775807 := by
             first | omega | (have h := hob (by assumption) (by assumption) (by assumption); have q6 := td_bound (a := flat1 p ((k : Int) + -1)) hp1 hC1; have q7 := td_bound (a := flat1 p (k : Int)) (by assumption) hC1; omega)
            have f28 : (-9223372036854775808 : Int) ≤ (((flat1 s (flat1 p ((k : Int) + (-1)))) - (flat1 s (flat1 p (k : Int)))) + 2048) ∧ (((flat1 s (flat1 p ((k : Int) + (-1)))) - (flat1 s (flat1 p (k : Int)))) + 2048) ≤ 9223372036854775807 := by
             first | omega | (have h := hob (by assumption) (by assumption) (by assumption); have q6 := td_bound (a := flat1 p ((k : Int) + -1)) hp1 hC1; have q7 := td_bound (a := flat1 p (k : Int)) (by assumption) hC1; omega)
            by_cases f29 : 0 ≤ (Int.tmod (((flat1 s (flat1 p ((k : Int) + (-1)))) - (flat1 s (flat1 p (k : Int)))) + 2048) 4096)
            ·
             have f30 : (-9223372036854775808 : Int) ≤ ((Int.tmod (((flat1 s (flat1 p ((k : Int) + (-1)))) - (flat1 s (flat1 p (k : Int)))) + 2048) 4096) + (-2048)) ∧ ((Int.tmod (((flat1 s (flat1 p ((k : Int) + (-1)))) - (flat1 s (flat1 p (k : Int)))) + 2048) 4096) + (-2048)) ≤ 9223372036854775807 := by
              first | omega | (have h := hob (by assumption) (by assumption) (by assumption); have q6 := td_bound (a := flat1 p ((k : Int) + -1)) hp1 hC1; have q7 := td_bound (a := flat1 p (k : Int)) (by assumption) hC1; omega)
             have f31 : (-9223372036854775808 : Int) ≤ (0 - ((Int.tmod (((flat1 s (flat1 p ((k : Int) + (-1)))) - (flat1 s (flat1 p (k : Int)))) + 2048) 4096) + (-2048))) ∧ (0 - ((Int.tmod (((flat1 s (flat1 p ((k : Int) + (-1)))) - (flat1 s (flat1 p (k : Int)))) + 2048) 4096) + (-2048))) ≤ 9223372036854775807 := by
              first | omega | (have h := hob (by assumption) (by assumption) (by assumption); have q6 := td_bound (a := flat1 p ((k : Int) + -1)) hp1 hC1; have q7 := td_bound (a := flat1 p (k : Int)) (by assumption) hC1; omega)
             have f32 : ¬ ((L : Int) ≤ ((k : Int) + (-1))) := by
              first | omega | (have h := hob (by assumption) (by assumption) (by assumption); have q6 := td_bound (a := flat1 p ((k : Int) + -1)) hp1 hC1; have q7 := td_bound (a := flat1 p (k : Int)) (by assumption) hC1; omega)
             have f33 : (-9223372036854775808 : Int) ≤ ((F ((k : Int) + (-1))) + (0 - ((Int.tmod (((flat1 s (flat1 p ((k : Int) + (-1)))) - (flat1 s (flat1 p (k : Int)))) + 2048) 4096) + (-2048)))) ∧ ((F ((k : Int) + (-1))) + (0 - ((Int.tmod (((flat1 s (flat1 p ((k : Int) + (-1)))) - (flat1 s (flat1 p (k : Int)))) + 2048) 4096) + (-2048)))) ≤ 9223372036854775807 := by
              first | omega | (have h := hob (by assumption) (by assumption) (by assumption); have q6 := td_bound (a := flat1 p ((k : Int) + -1)) hp1 hC1; have q7 := td_bound (a := flat1 p (k : Int)) (by assumption) hC1; omega)
             have f34 : ((L : Int) ≤ 99999) := by
              first | omega | (have h := hob (by assumption) (by assumption) (by assumption); have q6 := td_bound (a := flat1 p ((k : Int) + -1)) hp1 hC1; have q7 := td_bound (a := flat1 p (k : Int)) (by assumption) hC1; omega)
             have f35 : (-9223372036854775808 : Int) ≤ ((k : Int) + 1) ∧ ((k : Int) + 1) ≤ 9223372036854775807 := by
              first | omega | (have h := hob (by assumption) (by assumption) (by assumption); have q6 := td_bound (a := flat1 p ((k : Int) + -1)) hp1 hC1; have q7 := td_bound (a := flat1 p (k : Int)) (by assumption) hC1; omega)
             have hF : Facts [((.le (.var 3) (.var 5)), false), ((.le (.lit (0)) (.var 5)), true), ((.inr .i64 (.add (.var 2) (.lit (-1)))), true), ((.le (.lit (0)) (.sel (.avar 1) (.var 5))), true), ((.le (.sel (.avar 1) (.var 5)) (.add (.var 2) (.lit (-1)))), true), ((.le (.var 2) (.sel (.avar 1) (.var 5))), false), ((.eq (.sel (.avar 0) (.sel (.avar 1) (.var 5))) (.lit (1000000000000))), false), ((.eq (.var 5) (.lit (0))), false), ((.inr .i64 (.add (.var 5) (.lit (-1)))), true), ((.le (.lit (0)) (.add (.var 5) (.lit (-1)))), true), ((.le (.var 3) (.add (.var 5) (.lit (-1)))), false), ((.eq (.var 1) (.lit (0))), false), ((.inr .i64 (.quo (.sel (.avar 1) (.add (.var 5) (.lit (-1)))) (.var 1))), true), ((.inr .i64 (.quo (.sel (.avar 1) (.var 5)) (.var 1))), true), ((.inr .i64 (.sub (.quo (.sel (.avar 1) (.add (.var 5) (.lit (-1)))) (.var 1)) (.quo (.sel (.avar 1) (.var 5)) (.var 1)))), true), ((.inr .i64 (.sub (.lit (0)) (.sub (.quo (.sel (.avar 1) (.add (.var 5) (.lit (-1)))) (.var 1)) (.quo (.sel (.avar 1) (.var 5)) (.var 1))))), true), ((.le (.sub (.lit (0)) (.sub (.quo (.sel (.avar 1) (.add (.var 5) (.lit (-1)))) (.var 1)) (.quo (.sel (.avar 1) (.var 5)) (.var 1)))) (.sub (.quo (.sel (.avar 1) (.add (.var 5) (.lit (-1)))) (.var 1)) (.quo (.sel (.avar 1) (.var 5)) (.var 1)))), true), ((.inr .i64 (.sub (.rem (.sel (.avar 1) (.add (.var 5) (.lit (-1)))) (.var 1)) (.rem (.sel (.avar 1) (.var 5)) (.var 1)))), true), ((.inr .i64 (.sub (.lit (0)) (.sub (.rem (.sel (.avar 1) (.add (.var 5) (.lit (-1)))) (.var 1)) (.rem (.sel (.avar 1) (.var 5)) (.var 1))))), true), ((.le (.sub (.lit (0)) (.sub (.rem (.sel (.avar 1) (.add (.var 5) (.lit (-1)))) (.var 1)) (.rem (.sel (.avar 1) (.var 5)) (.var 1)))) (.sub (.rem (.sel (.avar 1) (.add (.var 5) (.lit (-1)))) (.var 1)) (.rem (.sel (.avar 1) (.var 5)) (.var 1)))), true), ((.inr .i64 (.add (.sub (.quo (.sel (.avar 1) (.add (.var 5) (.lit (-1)))) (.var 1)) (.quo (.sel (.avar 1) (.var 5)) (.var 1))) (.sub (.rem (.sel (.avar 1) (.add (.var 5) (.lit (-1)))) (.var 1)) (.rem (.sel (.avar 1) (.var 5)) (.var 1))))), true), ((.eq (.add (.sub (.quo (.sel (.avar 1) (.add (.var 5) (.lit (-1)))) (.var 1)) (.quo (.sel (.avar 1) (.var 5)) (.var 1))) (.sub (.rem (.sel (.avar 1) (.add (.var 5) (.lit (-1)))) (.var 1)) (.rem (.sel (.avar 1) (.var 5)) (.var 1)))) (.lit (1))), true), ((.le (.sel (.avar 1) (.add (.var 5) (.lit (-1)))) (.sel (.avar 1) (.var 5))), false), ((.le (.sel (.avar 1) (.var 5)) (.sel (.avar 1) (.add (.var 5) (.lit (-1))))), true), ((.le (.lit (0)) (.sel (.avar 1) (.add (.var 5) (.lit (-1))))), true), ((.le (.var 2) (.sel (.avar 1) (.add (.var 5) (.lit (-1))))), false), ((.inr .i64 (.sub (.sel (.avar 0) (.sel (.avar 1) (.add (.var 5) (.lit (-1))))) (.sel (.avar 0) (.sel (.avar 1) (.var 5))))), true), ((.inr .i64 (.add (.sub (.sel (.avar 0) (.sel (.avar 1) (.add (.var 5) (.lit (-1))))) (.sel (.avar 0) (.sel (.avar 1) (.var 5)))) (.lit (2048)))), true), ((.le (.lit (0)) (.rem (.add (.sub (.sel (.avar 0) (.sel (.avar 1) (.add (.var 5) (.lit (-1))))) (.sel (.avar 0) (.sel (.avar 1) (.var 5)))) (.lit (2048))) (.lit (4096)))), true), ((.inr .i64 (.add (.rem (.add (.sub (.sel (.avar 0) (.sel (.avar 1) (.add (.var 5) (.lit (-1))))) (.sel (.avar 0) (.sel (.avar 1) (.var 5)))) (.lit (2048))) (.lit (4096))) (.lit (-2048)))), true), ((.inr .i64 (.sub (.lit (0)) (.add (.rem (.add (.sub (.sel (.avar 0) (.sel (.avar 1) (.add (.var 5) (.lit (-1))))) (.sel (.avar 0) (.sel (.avar 1) (.var 5)))) (.lit (2048))) (.lit (4096))) (.lit (-2048))))), true), ((.le (.var 4) (.add (.var 5) (.lit (-1)))), false), ((.inr .i64 (.add (.sel (.avar 50) (.add (.var 5) (.lit (-1)))) (.sub (.lit (0)) (.add (.rem (.add (.sub (.sel (.avar 0) (.sel (.avar 1) (.add (.var 5) (.lit (-1))))) (.sel (.avar 0) (.sel (.avar 1) (.var 5)))) (.lit (2048))) (.lit (4096))) (.lit (-2048)))))), true), ((.le (.var 4) (.lit (99999))), true), ((.inr .i64 (.add (.var 5) (.lit (1)))), true)] := ⟨f_nle f1 rfl rfl, f_le f2 rfl rfl, f_in f3 rfl, f_le f4 rfl rfl, f_le f5 rfl rfl, f_nle f6 rfl rfl, f_ne f7 rfl rfl, f_ne f8 rfl rfl, f_in f9 rfl, f_le f10 rfl rfl, f_nle f11 rfl rfl, f_ne f12 rfl rfl, f_in f13 rfl, f_in f14 rfl, f_in f15 rfl, f_in f16 rfl, f_le f17 rfl rfl, f_in f18 rfl, f_in f19 rfl, f_le f20 rfl rfl, f_in f21 rfl, f_eq f22 rfl rfl, f_nle f23 rfl rfl, f_le f24 rfl rfl, f_le f25 rfl rfl, f_nle f26 rfl rfl, f_in f27 rfl, f_in f28 rfl, f_le f29 rfl rfl, f_in f30 rfl, f_in f31 rfl, f_nle f32 rfl rfl, f_in f33 rfl, f_le f34 rfl rfl, f_in f35 rfl, trivial⟩
             refine again_runP (P := Try.prog) (K := noK) (fl := []) (B := 4) (l := [.mov 2 4]) (a' := ral1_1_a) (h' := ral1_1_h) (ρ' := rhoL W.heap.size ([R, C, (n : Int), (m : Int)] ++ [(((L + 1) : Nat) : Int), (((k + 1) : Nat) : Int)]) [⟨A, n, flat1 s⟩, ⟨B, m, flat1 p⟩] [] [(fun j : Int => if j = (L : Int) then ((F ((k : Int) + (-1))) + (0 - ((Int.tmod (((flat1 s (flat1 p ((k : Int) + (-1)))) - (flat1 s (flat1 p (k : Int)))) + 2048) 4096) + (-2048)))) else F j)]) (ds := [.int (.add (.var 4) (.lit (1))) (.var 4), .int (.add (.var 5) (.lit (1))) (.var 5), .row (.upd (.avar 50) (.var 4) (.add (.sel (.avar 50) (.add (.var 5) (.lit (-1)))) (.sub (.lit (0)) (.add (.rem (.add (.sub (.sel (.avar 0) (.sel (.avar 1) (.add (.var 5) (.lit (-1))))) (.sel (.avar 0) (.sel (.avar 1) (.var 5)))) (.lit (2048))) (.lit (4096))) (.lit (-2048)))))) (.avar 50), .int (.add (.var 4) (.lit (1))) (.var 4)]) (by kernel_rfl) noK_ok (facD_ok hF) (by kernel_rfl) (agree_list (l := [R, C, (n : Int), (m : Int)]) (Nat.le_refl _) rfl) ⟨(show (((L : Int) + 1) : Int) = (((L + 1) : Nat) : Int) from by first | rfl | (push_cast; omega)), (show (((k : Int) + 1) : Int) = (((k + 1) : Nat) : Int) from by first | rfl | (push_cast; omega)), rfl, (show (((L : Int) + 1) : Int) = (((L + 1) : Nat) : Int) from by first | rfl | (push_cast; omega)), trivial⟩ hs2 fun A3 W3 hs3 => ⟨_, _, _, ⟨(L + 1), (k + 1), (fun j : Int => if j = (L : Int) then ((F ((k : Int) + (-1))) + (0 - ((Int.tmod (((flat1 s (flat1 p ((k : Int) + (-1)))) - (flat1 s (flat1 p (k : Int)))) + 2048) 4096) + (-2048)))) else F j), ?_, rfl, .inr ⟨rfl, rfl, ?_⟩⟩, ?_, hs3⟩
             · first
                 | (exfalso; omega)
                 | (have hnb : nb C (flat1 p ((k : Int) + -1)) (flat1 p (k : Int)) := by
                     rw [nb_iff hC1 (by assumption) (by assumption)]
                     unfold nbR sz
                     simp only [f1, f2, f4, f5, f6, f7, f8, f10, f11, f12, f17, f20, f22, f23, f24, f25, f26, f29, f32, f34, if_true, if_false]
                     try omega
                    refine ⟨by omega, by omega, fun j hj => ?_, fun j hj => ?_⟩
                    · rcases Nat.lt_or_ge j k with g | g
                      · exact hz j g
                      · obtain rfl : j = k := by omega
                        unfold acode
                        simp [f1, f2, f4, f5, f6, f7, f8, f10, f11, f12, f17, f20, f22, f23, f24, f25, f26, f29, f32, f34, hnb]
                        try omega
                    · dsimp only
                      rcases Nat.lt_or_ge j k with g | g
                      · rw [if_neg (by omega)]
                        exact hFe j g
                      · obtain rfl : j = k := by omega
                        rw [if_pos (by omega), aval_step hcond, hF1]
                        unfold stp wrp
                        simp only [f1, f2, f4, f5, f6, f7, f8, f10, f11, f12, f17, f20, f22, f23, f24, f25, f26, f29, f32, f34, if_true, if_false]
                        try omega)
             · omega
             · show m - ((k + 1 : Nat) : Int).toNat < m - ((k : Nat) : Int).toNat
               omega
            ·
             have f30 : (-9223372036854775808 : Int) ≤ ((Int.tmod (((flat1 s (flat1 p ((k : Int) + (-1)))) - (flat1 s (flat1 p (k : Int)))) + 2048) 4096) + 4096) ∧ ((Int.tmod (((flat1 s (flat1 p ((k : Int) + (-1)))) - (flat1 s (flat1 p (k : Int)))) + 2048) 4096) + 4096) ≤ 9223372036854775807 := by
              first | omega | (have h := hob (by assumption) (by assumption) (by assumption); have q6 := td_bound (a := flat1 p ((k : Int) + -1)) hp1 hC1; have q7 := td_bound (a := flat1 p (k : Int)) (by assumption) hC1; omega)
             have f31 : (-9223372036854775808 : Int) ≤ ((Int.tmod (((flat1 s (flat1 p ((k : Int) + (-1)))) - (flat1 s (flat1 p (k : Int)))) + 2048) 4096) + 2048) ∧ ((Int.tmod (((flat1 s (flat1 p ((k : Int) + (-1)))) - (flat1 s (flat1 p (k : Int)))) + 2048) 4096) + 2048) ≤ 9223372036854775807 := by
              first | omega | (have h := hob (by assumption) (by assumption) (by assumption); have q6 := td_bound (a := flat1 p ((k : Int) + -1)) hp1 hC1; have q7 := td_bound (a := flat1 p (k : Int)) (by assumption) hC1; omega)
             have f32 : (-9223372036854775808 : Int) ≤ (0 - ((Int.tmod (((flat1 s (flat1 p ((k : Int) + (-1)))) - (flat1 s (flat1 p (k : Int)))) + 2048) 4096) + 2048)) ∧ (0 - ((Int.tmod (((flat1 s (flat1 p ((k : Int) + (-1)))) - (flat1 s (flat1 p (k : Int)))) + 2048) 4096) + 2048)) ≤ 9223372036854775807 := by
              first | omega | (have h := hob (by assumption) (by assumption) (by assumption); have q6 := td_bound (a := flat1 p ((k : Int) + -1)) hp1 hC1; have q7 := td_bound (a := flat1 p (k : Int)) (by assumption) hC1; omega)
             have f33 : ¬ ((L : Int) ≤ ((k : Int) + (-1))) := by
              first | omega | (have h := hob (by assumption) (by assumption) (by assumption); have q6 := td_bound (a := flat1 p ((k : Int) + -1)) hp1 hC1; have q7 := td_bound (a := flat1 p (k : Int)) (by assumption) hC1; omega)
             have f34 : (-9223372036854775808 : Int) ≤ ((F ((k : Int) + (-1))) + (0 - ((Int.tmod (((flat1 s (flat1 p ((k : Int) + (-1)))) - (flat1 s (flat1 p (k : Int)))) + 2048) 4096) + 2048))) ∧ ((F ((k : Int) + (-1))) + (0 - ((Int.tmod (((flat1 s (flat1 p ((k : Int) + (-1)))) - (flat1 s (flat1 p (k : Int)))) + 2048) 4096) + 2048))) ≤ 9223372036854775807 := by
              first | omega | (have h := hob (by assumption) (by assumption) (by assumption); have q6 := td_bound (a := flat1 p ((k : Int) + -1)) hp1 hC1; have q7 := td_bound (a := flat1 p (k : Int)) (by assumption) hC1; omega)
             have f35 : ((L : Int) ≤ 99999) := by
              first | omega | (have h := hob (by assumption) (by assumption) (by assumption); have q6 := td_bound (a := flat1 p ((k : Int) + -1)) hp1 hC1; have q7 := td_bound (a := flat1 p (k : Int)) (by assumption) hC1; omega)
             have f36 : (-9223372036854775808 : Int) ≤ ((k : Int) + 1) ∧ ((k : Int) + 1) ≤ 9223372036854775807 := by
              first | omega | (have h := hob (by assumption) (by assumption) (by assumption); have q6 := td_bound (a := flat1 p ((k : Int) + -1)) hp1 hC1; have q7 := td_bound (a := flat1 p (k : Int)) (by assumption) hC1; omega)
             have hF : Facts [((.le (.var 3) (.var 5)), false), ((.le (.lit (0)) (.var 5)), true), ((.inr .i64 (.add (.var 2) (.lit (-1)))), true), ((.le (.lit (0)) (.sel (.avar 1) (.var 5))), true), ((.le (.sel (.avar 1) (.var 5)) (.add (.var 2) (.lit (-1)))), true), ((.le (.var 2) (.sel (.avar 1) (.var 5))), false), ((.eq (.sel (.avar 0) (.sel (.avar 1) (.var 5))) (.lit (1000000000000))), false), ((.eq (.var 5) (.lit (0))), false), ((.inr .i64 (.add (.var 5) (.lit (-1)))), true), ((.le (.lit (0)) (.add (.var 5) (.lit (-1)))), true), ((.le (.var 3) (.add (.var 5) (.lit (-1)))), false), ((.eq (.var 1) (.lit (0))), false), ((.inr .i64 (.quo (.sel (.avar 1) (.add (.var 5) (.lit (-1)))) (.var 1))), true), ((.inr .i64 (.quo (.sel (.avar 1) (.var 5)) (.var 1))), true), ((.inr .i64 (.sub (.quo (.sel (.avar 1) (.add (.var 5) (.lit (-1)))) (.var 1)) (.quo (.sel (.avar 1) (.var 5)) (.var 1)))), true), ((.inr .i64 (.sub (.lit (0)) (.sub (.quo (.sel (.avar 1) (.add (.var 5) (.lit (-1)))) (.var 1)) (.quo (.sel (.avar 1) (.var 5)) (.var 1))))), true), ((.le (.sub (.lit (0)) (.sub (.quo (.sel (.avar 1) (.add (.var 5) (.lit (-1)))) (.var 1)) (.quo (.sel (.avar 1) (.var 5)) (.var 1)))) (.sub (.quo (.sel (.avar 1) (.add (.var 5) (.lit (-1)))) (.var 1)) (.quo (.sel (.avar 1) (.var 5)) (.var 1)))), true), ((.inr .i64 (.sub (.rem (.sel (.avar 1) (.add (.var 5) (.lit (-1)))) (.var 1)) (.rem (.sel (.avar 1) (.var 5)) (.var 1)))), true), ((.inr .i64 (.sub (.lit (0)) (.sub (.rem (.sel (.avar 1) (.add (.var 5) (.lit (-1)))) (.var 1)) (.rem (.sel (.avar 1) (.var 5)) (.var 1))))), true), ((.le (.sub (.lit (0)) (.sub (.rem (.sel (.avar 1) (.add (.var 5) (.lit (-1)))) (.var 1)) (.rem (.sel (.avar 1) (.var 5)) (.var 1)))) (.sub (.rem (.sel (.avar 1) (.add (.var 5) (.lit (-1)))) (.var 1)) (.rem (.sel (.avar 1) (.var 5)) (.var 1)))), true), ((.inr .i64 (.add (.sub (.quo (.sel (.avar 1) (.add (.var 5) (.lit (-1)))) (.var 1)) (.quo (.sel (.avar 1) (.var 5)) (.var 1))) (.sub (.rem (.sel (.avar 1) (.add (.var 5) (.lit (-1)))) (.var 1)) (.rem (.sel (.avar 1) (.var 5)) (.var 1))))), true), ((.eq (.add (.sub (.quo (.sel (.avar 1) (.add (.var 5) (.lit (-1)))) (.var 1)) (.quo (.sel (.avar 1) (.var 5)) (.var 1))) (.sub (.rem (.sel (.avar 1) (.add (.var 5) (.lit (-1)))) (.var 1)) (.rem (.sel (.avar 1) (.var 5)) (.var 1)))) (.lit (1))), true), ((.le (.sel (.avar 1) (.add (.var 5) (.lit (-1)))) (.sel (.avar 1) (.var 5))), false), ((.le (.sel (.avar 1) (.var 5)) (.sel (.avar 1) (.add (.var 5) (.lit (-1))))), true), ((.le (.lit (0)) (.sel (.avar 1) (.add (.var 5) (.lit (-1))))), true), ((.le (.var 2) (.sel (.avar 1) (.add (.var 5) (.lit (-1))))), false), ((.inr .i64 (.sub (.sel (.avar 0) (.sel (.avar 1) (.add (.var 5) (.lit (-1))))) (.sel (.avar 0) (.sel (.avar 1) (.var 5))))), true), ((.inr .i64 (.add (.sub (.sel (.avar 0) (.sel (.avar 1) (.add (.var 5) (.lit (-1))))) (.sel (.avar 0) (.sel (.avar 1) (.var 5)))) (.lit (2048)))), true), ((.le (.lit (0)) (.rem (.add (.sub (.sel (.avar 0) (.sel (.avar 1) (.add (.var 5) (.lit (-1))))) (.sel (.avar 0) (.sel (.avar 1) (.var 5)))) (.lit (2048))) (.lit (4096)))), false), ((.inr .i64 (.add (.rem (.add (.sub (.sel (.avar 0) (.sel (.avar 1) (.add (.var 5) (.lit (-1))))) (.sel (.avar 0) (.sel (.avar 1) (.var 5)))) (.lit (2048))) (.lit (4096))) (.lit (4096)))), true), ((.inr .i64 (.add (.rem (.add (.sub (.sel (.avar 0) (.sel (.avar 1) (.add (.var 5) (.lit (-1))))) (.sel (.avar 0) (.sel (.avar 1) (.var 5)))) (.lit (2048))) (.lit (4096))) (.lit (2048)))), true), ((.inr .i64 (.sub (.lit (0)) (.add (.rem (.add (.sub (.sel (.avar 0) (.sel (.avar 1) (.add (.var 5) (.lit (-1))))) (.sel (.avar 0) (.sel (.avar 1) (.var 5)))) (.lit (2048))) (.lit (4096))) (.lit (2048))))), true), ((.le (.var 4) (.add (.var 5) (.lit (-1)))), false), ((.inr .i64 (.add (.sel (.avar 50) (.add (.var 5) (.lit (-1)))) (.sub (.lit (0)) (.add (.rem (.add (.sub (.sel (.avar 0) (.sel (.avar 1) (.add (.var 5) (.lit (-1))))) (.sel (.avar 0) (.sel (.avar 1) (.var 5)))) (.lit (2048))) (.lit (4096))) (.lit (2048)))))), true), ((.le (.var 4) (.lit (99999))), true), ((.inr .i64 (.add (.var 5) (.lit (1)))), true)] := ⟨f_nle f1 rfl rfl, f_le f2 rfl rfl, f_in f3 rfl, f_le f4 rfl rfl, f_le f5 rfl rfl, f_nle f6 rfl rfl, f_ne f7 rfl rfl, f_ne f8 rfl rfl, f_in f9 rfl, f_le f10 rfl rfl, f_nle f11 rfl rfl, f_ne f12 rfl rfl, f_in f13 rfl, f_in f14 rfl, f_in f15 rfl, f_in f16 rfl, f_le f17 rfl rfl, f_in f18 rfl, f_in f19 rfl, f_le f20 rfl rfl, f_in f21 rfl, f_eq f22 rfl rfl, f_nle f23 rfl rfl, f_le f24 rfl rfl, f_le f25 rfl rfl, f_nle f26 rfl rfl, f_in f27 rfl, f_in f28 rfl, f_nle f29 rfl rfl, f_in f30 rfl, f_in f31 rfl, f_in f32 rfl, f_nle f33 rfl rfl, f_in f34 rfl, f_le f35 rfl rfl, f_in f36 rfl, trivial⟩
             refine again_runP (P := Try.prog) (K := noK) (fl := []) (B := 4) (l := [.mov 2 4]) (a' := ral1_1_a) (h' := ral1_1_h) (ρ' := rhoL W.heap.size ([R, C, (n : Int), (m : Int)] ++ [(((L + 1) : Nat) : Int), (((k + 1) : Nat) : Int)]) [⟨A, n, flat1 s⟩, ⟨B, m, flat1 p⟩] [] [(fun j : Int => if j = (L : Int) then ((F ((k : Int) + (-1))) + (0 - ((Int.tmod (((flat1 s (flat1 p ((k : Int) + (-1)))) - (flat1 s (flat1 p (k : Int)))) + 2048) 4096) + 2048))) else F j)]) (ds := [.int (.add (.var 4) (.lit (1))) (.var 4), .int (.add (.var 5) (.lit (1))) (.var 5), .row (.upd (.avar 50) (.var 4) (.add (.sel (.avar 50) (.add (.var 5) (.lit (-1)))) (.sub (.lit (0)) (.add (.rem (.add (.sub (.sel (.avar 0) (.sel (.avar 1) (.add (.var 5) (.lit (-1))))) (.sel (.avar 0) (.sel (.avar 1) (.var 5)))) (.lit (2048))) (.lit (4096))) (.lit (2048)))))) (.avar 50), .int (.add (.var 4) (.lit (1))) (.var 4)]) (by kernel_rfl) noK_ok (facD_ok hF) (by kernel_rfl) (agree_list (l := [R, C, (n : Int), (m : Int)]) (Nat.le_refl _) rfl) ⟨(show (((L : Int) + 1) : Int) = (((L + 1) : Nat) : Int) from by first | rfl | (push_cast; omega)), (show (((k : Int) + 1) : Int) = (((k + 1) : Nat) : Int) from by first | rfl | (push_cast; omega)), rfl, (show (((L : Int) + 1) : Int) = (((L + 1) : Nat) : Int) from by first | rfl | (push_cast; omega)), trivial⟩ hs2 fun A3 W3 hs3 => ⟨_, _, _, ⟨(L + 1), (k + 1), (fun j : Int => if j = (L : Int) then ((F ((k : Int) + (-1))) + (0 - ((Int.tmod (((flat1 s (flat1 p ((k : Int) + (-1)))) - (flat1 s (flat1 p (k : Int)))) + 2048) 4096) + 2048))) else F j), ?_, rfl, .inr ⟨rfl, rfl, ?_⟩⟩, ?_, hs3⟩
             · first
                 | (exfalso; omega)
                 | (have hnb : nb C (flat1 p ((k : Int) + -1)) (flat1 p (k : Int)) := by
                     rw [nb_iff hC1 (by assumption) (by assumption)]
                     unfold nbR sz
                     simp only [f1, f2, f4, f5, f6, f7, f8, f10, f11, f12, f17, f20, f22, f23, f24, f25, f26, f29, f33, f35, if_true, if_false]
                     try omega
                    refine ⟨by omega, by omega, fun j hj => ?_, fun j hj => ?_⟩
                    · rcases Nat.lt_or_ge j k with g | g
                      · exact hz j g
                      · obtain rfl : j = k := by omega
                        unfold acode
                        simp [f1, f2, f4, f5, f6, f7, f8, f10, f11, f12, f17, f20, f22, f23, f24, f25, f26, f29, f33, f35, hnb]
                        try omega
                    · dsimp only
                      rcases Nat.lt_or_ge j k with g | g
                      · rw [if_neg (by omega)]
                        exact hFe j g
                      · obtain rfl : j = k := by omega
                        rw [if_pos (by omega), aval_step hcond, hF1]
                        unfold stp wrp
                        simp only [f1, f2, f4, f5, f6, f7, f8, f10, f11, f12, f17, f20, f22, f23, f24, f25, f26, f29, f33, f35, if_true, if_false]
                        try omega)
             · omega
             · show m - ((k + 1 : Nat) : Int).toNat < m - ((k : Nat) : Int).toNat
               omega
          ·
           have hF : Facts [((.le (.var 3) (.var 5)), false), ((.le (.lit (0)) (.var 5)), true), ((.inr .i64 (.add (.var 2) (.lit (-1)))), true), ((.le (.lit (0)) (.sel (.avar 1) (.var 5))), true), ((.le (.sel (.avar 1) (.var 5)) (.add (.var 2) (.lit (-1)))), true), ((.le (.var 2) (.sel (.avar 1) (.var 5))), false), ((.eq (.sel (.avar 0) (.sel (.avar 1) (.var 5))) (.lit (1000000000000))), false), ((.eq (.var 5) (.lit (0))), false), ((.inr .i64 (.add (.var 5) (.lit (-1)))), true), ((.le (.lit (0)) (.add (.var 5) (.lit (-1)))), true), ((.le (.var 3) (.add (.var 5) (.lit (-1)))), false), ((.eq (.var 1) (.lit (0))), false), ((.inr .i64 (.quo (.sel (.avar 1) (.add (.var 5) (.lit (-1)))) (.var 1))), true), ((.inr .i64 (.quo (.sel (.avar 1) (.var 5)) (.var 1))), true), ((.inr .i64 (.sub (.quo (.sel (.avar 1) (.add (.var 5) (.lit (-1)))) (.var 1)) (.quo (.sel (.avar 1) (.var 5)) (.var 1)))), true), ((.inr .i64 (.sub (.lit (0)) (.sub (.quo (.sel (.avar 1) (.add (.var 5) (.lit (-1)))) (.var 1)) (.quo (.sel (.avar 1) (.var 5)) (.var 1))))), true), ((.le (.sub (.lit (0)) (.sub (.quo (.sel (.avar 1) (.add (.var 5) (.lit (-1)))) (.var 1)) (.quo (.sel (.avar 1) (.var 5)) (.var 1)))) (.sub (.quo (.sel (.avar 1) (.add (.var 5) (.lit (-1)))) (.var 1)) (.quo (.sel (.avar 1) (.var 5)) (.var 1)))), true), ((.inr .i64 (.sub (.rem (.sel (.avar 1) (.add (.var 5) (.lit (-1)))) (.var 1)) (.rem (.sel (.avar 1) (.var 5)) (.var 1)))), true), ((.inr .i64 (.sub (.lit (0)) (.sub (.rem (.sel (.avar 1) (.add (.var 5) (.lit (-1)))) (.var 1)) (.rem (.sel (.avar 1) (.var 5)) (.var 1))))), true), ((.le (.sub (.lit (0)) (.sub (.rem (.sel (.avar 1) (.add (.var 5) (.lit (-1)))) (.var 1)) (.rem (.sel (.avar 1) (.var 5)) (.var 1)))) (.sub (.rem (.sel (.avar 1) (.add (.var 5) (.lit (-1)))) (.var 1)) (.rem (.sel (.avar 1) (.var 5)) (.var 1)))), true), ((.inr .i64 (.add (.sub (.quo (.sel (.avar 1) (.add (.var 5) (.lit (-1)))) (.var 1)) (.quo (.sel (.avar 1) (.var 5)) (.var 1))) (.sub (.rem (.sel (.avar 1) (.add (.var 5) (.lit (-1)))) (.var 1)) (.rem (.sel (.avar 1) (.var 5)) (.var 1))))), true), ((.eq (.add (.sub (.quo (.sel (.avar 1) (.add (.var 5) (.lit (-1)))) (.var 1)) (.quo (.sel (.avar 1) (.var 5)) (.var 1))) (.sub (.rem (.sel (.avar 1) (.add (.var 5) (.lit (-1)))) (.var 1)) (.rem (.sel (.avar 1) (.var 5)) (.var 1)))) (.lit (1))), false)] := ⟨f_nle f1 rfl rfl, f_le f2 rfl rfl, f_in f3 rfl, f_le f4 rfl rfl, f_le f5 rfl rfl, f_nle f6 rfl rfl, f_ne f7 rfl rfl, f_ne f8 rfl rfl, f_in f9 rfl, f_le f10 rfl rfl, f_nle f11 rfl rfl, f_ne f12 rfl rfl, f_in f13 rfl, f_in f14 rfl, f_in f15 rfl, f_in f16 rfl, f_le f17 rfl rfl, f_in f18 rfl, f_in f19 rfl, f_le f20 rfl rfl, f_in f21 rfl, f_ne f22 rfl rfl, trivial⟩
           refine out_run (P := Try.prog) (K := noK) (fl := []) (by kernel_rfl) noK_ok (facD_ok hF) hs2 (fin_gen (r := (.tup [(.pl (.slice none 0 0)), (.pl (.int .i64 (14)))])) (h' := { bl := [some (.row (.avar 50) (.var 4) 3 1), some (.cells [(.si .i64 (.sel (.avar 0) (.sel (.avar 1) (.lit (0)))))] 3 false), some (.cells [(.si .i64 (.var 0)), (.si .i64 (.var 1)), (.fsl 0 1 (.lit (0)) (.var 2))] 40 false)], n := 3, base := 0, ch := [] }) (by kernel_rfl) fun V mb gb v W' hv hw hbel => ?_)
           obtain rfl := rep_den _ (.tuple #[.slice none 0 0, .int .i64 14]) _ rfl hv
           first
             | (exfalso; omega)
             | (have hnb : ¬ nb C (flat1 p ((k : Int) + -1)) (flat1 p (k : Int)) := by
                  rw [nb_iff hC1 (by assumption) (by assumption)]
                  unfold nbR sz
                  simp only [f1, f2, f4, f5, f6, f7, f8, f10, f11, f12, f17, f20, f22, if_true, if_false]
                  first | assumption | exact not_false | (intro hx; exact hx) | (intro hx; exact absurd hx (by simp)) | omega
                have hc : acode C n (flat1 s) (flat1 p) k = 14 := by
                 unfold acode
                 simp [f1, f2, f4, f5, f6, f7, f8, f10, f11, f12, f17, f20, f22, hnb]
                 try omega
                have e : rErr C n s m p = 14 := by rw [rErr_in hm200, fw_hit (k := k) hz (by rw [hc]; decide) (by omega), hc]
                exact ⟨.inl ⟨by rw [e]; decide, by rw [e]⟩, hbel⟩)
         ·
          have f21 : (-9223372036854775808 : Int) ≤ (((Int.tdiv (flat1 p ((k : Int) + (-1))) C) - (Int.tdiv (flat1 p (k : Int)) C)) + (0 - ((Int.tmod (flat1 p ((k : Int) + (-1))) C) - (Int.tmod (flat1 p (k : Int)) C)))) ∧ (((Int.tdiv (flat1 p ((k : Int) + (-1))) C) - (Int.tdiv (flat1 p (k : Int)) C)) + (0 - ((Int.tmod (flat1 p ((k : Int) + (-1))) C) - (Int.tmod (flat1 p (k : Int)) C)))) ≤ 9223372036854775807 := by
           first | omega | (have h := hob (by assumption) (by assumption) (by assumption); have q6 := td_bound (a := flat1 p ((k : Int) + -1)) hp1 hC1; have q7 := td_bound (a := flat1 p (k : Int)) (by assumption) hC1; omega)
          by_cases f22 : (((Int.tdiv (flat1 p ((k : Int) + (-1))) C) - (Int.tdiv (flat1 p (k : Int)) C)) + (0 - ((Int.tmod (flat1 p ((k : Int) + (-1))) C) - (Int.tmod (flat1 p (k : Int)) C)))) = 1
          ·
           by_cases f23 : (flat1 p ((k : Int) + (-1))) ≤ (flat1 p (k : Int))
           ·
            have f24 : (0 ≤ (flat1 p ((k : Int) + (-1)))) := by
             first | omega | (have h := hob (by assumption) (by assumption) (by assumption); have q6 := td_bound (a := flat1 p ((k : Int) + -1)) hp1 hC1; have q7 := td_bound (a := flat1 p (k : Int)) (by assumption) hC1; omega)
            have f25 : ¬ ((n : Int) ≤ (flat1 p ((k : Int) + (-1)))) := by
             first | omega | (have h := hob (by assumption) (by assumption) (by assumption); have q6 := td_bound (a := flat1 p ((k : Int) + -1)) hp1 hC1; have q7 := td_bound (a := flat1 p (k : Int)) (by assumption) hC1; omega)
            have f26 : (-9223372036854775808 : Int) ≤ ((flat1 s (flat1 p (k : Int))) - (flat1 s (flat1 p ((k : Int) + (-1))))) ∧ ((flat1 s (flat1 p (k : Int))) - (flat1 s (flat1 p ((k : Int) + (-1))))) ≤ 9223372036854775807 := by
             first | omega | (have h := hob (by assumption) (by assumption) (by assumption); have q6 := td_bound (a := flat1 p ((k : Int) + -1)) hp1 hC1; have q7 := td_bound (a := flat1 p (k : Int)) (by assumption) hC1; omega)
            have f27 : (-9223372036854775808 : Int) ≤ (((flat1 s (flat1 p (k : Int))) - (flat1 s (flat1 p ((k : Int) + (-1))))) + 2048) ∧ (((flat1 s (flat1 p (k : Int))) - (flat1 s (flat1 p ((k : Int) + (-1))))) + 2048) ≤ 9223372036854775807 := by
             first | omega | (have h := hob (by assumption) (by assumption) (by assumption); have q6 := td_bound (a := flat1 p ((k : Int) + -1)) hp1 hC1; have q7 := td_bound (a := flat1 p (k : Int)) (by assumption) hC1; omega)
            by_cases f28 : 0 ≤ (Int.tmod (((flat1 s (flat1 p (k : Int))) - (flat1 s (flat1 p ((k : Int) + (-1))))) + 2048) 4096)
            ·
             have f29 : (-9223372036854775808 : Int) ≤ ((Int.tmod (((flat1 s (flat1 p (k : Int))) - (flat1 s (flat1 p ((k : Int) + (-1))))) + 2048) 4096) + (-2048)) ∧ ((Int.tmod (((flat1 s (flat1 p (k : Int))) - (flat1 s (flat1 p ((k : Int) + (-1))))) + 2048) 4096) + (-2048)) ≤ 9223372036854775807 := by
              first | omega | (have h := hob (by assumption) (by assumption) (by assumption); have q6 := td_bound (a := flat1 p ((k : Int) + -1)) hp1 hC1; have q7 := td_bound (a := flat1 p (k : Int)) (by assumption) hC1; omega)
             have f30 : ¬ ((L : Int) ≤ ((k : Int) + (-1))) := by
              first | omega | (have h := hob (by assumption) (by assumption) (by assumption); have q6 := td_bound (a := flat1 p ((k : Int) + -1)) hp1 hC1; have q7 := td_bound (a := flat1 p (k : Int)) (by assumption) hC1; omega)
             have f31 : (-9223372036854775808 : Int) ≤ ((F ((k : Int) + (-1))) + ((Int.tmod (((flat1 s (flat1 p (k : Int))) - (flat1 s (flat1 p ((k : Int) + (-1))))) + 2048) 4096) + (-2048))) ∧ ((F ((k : Int) + (-1))) + ((Int.tmod (((flat1 s (flat1 p (k : Int))) - (flat1 s (flat1 p ((k : Int) + (-1))))) + 2048) 4096) + (-2048))) ≤ 9223372036854775807 := by
              first | omega | (have h := hob (by assumption) (by assumption) (by assumption); have q6 := td_bound (a := flat1 p ((k : Int) + -1)) hp1 hC1; have q7 := td_bound (a := flat1 p (k : Int)) (by assumption) hC1; omega)
             have f32 : ((L : Int) ≤ 99999) := by
              first | omega | (have h := hob (by assumption) (by assumption) (by assumption); have q6 := td_bound (a := flat1 p ((k : Int) + -1)) hp1 hC1; have q7 := td_bound (a := flat1 p (k : Int)) (by assumption) hC1; omega)
             have f33 : (-9223372036854775808 : Int) ≤ ((k : Int) + 1) ∧ ((k : Int) + 1) ≤ 9223372036854775807 := by
              first | omega | (have h := hob (by assumption) (by assumption) (by assumption); have q6 := td_bound (a := flat1 p ((k : Int) + -1)) hp1 hC1; have q7 := td_bound (a := flat1 p (k : Int)) (by assumption) hC1; omega)
             have hF : Facts [((.le (.var 3) (.var 5)), false), ((.le (.lit (0)) (.var 5)), true), ((.inr .i64 (.add (.var 2) (.lit (-1)))), true), ((.le (.lit (0)) (.sel (.avar 1) (.var 5))), true), ((.le (.sel (.avar 1) (.var 5)) (.add (.var 2) (.lit (-1)))), true), ((.le (.var 2) (.sel (.avar 1) (.var 5))), false), ((.eq (.sel (.avar 0) (.sel (.avar 1) (.var 5))) (.lit (1000000000000))), false), ((.eq (.var 5) (.lit (0))), false), ((.inr .i64 (.add (.var 5) (.lit (-1)))), true), ((.le (.lit (0)) (.add (.var 5) (.lit (-1)))), true), ((.le (.var 3) (.add (.var 5) (.lit (-1)))), false), ((.eq (.var 1) (.lit (0))), false), ((.inr .i64 (.quo (.sel (.avar 1) (.add (.var 5) (.lit (-1)))) (.var 1))), true), ((.inr .i64 (.quo (.sel (.avar 1) (.var 5)) (.var 1))), true), ((.inr .i64 (.sub (.quo (.sel (.avar 1) (.add (.var 5) (.lit (-1)))) (.var 1)) (.quo (.sel (.avar 1) (.var 5)) (.var 1)))), true), ((.inr .i64 (.sub (.lit (0)) (.sub (.quo (.sel (.avar 1) (.add (.var 5) (.lit (-1)))) (.var 1)) (.quo (.sel (.avar 1) (.var 5)) (.var 1))))), true), ((.le (.sub (.lit (0)) (.sub (.quo (.sel (.avar 1) (.add (.var 5) (.lit (-1)))) (.var 1)) (.quo (.sel (.avar 1) (.var 5)) (.var 1)))) (.sub (.quo (.sel (.avar 1) (.add (.var 5) (.lit (-1)))) (.var 1)) (.quo (.sel (.avar 1) (.var 5)) (.var 1)))), true), ((.inr .i64 (.sub (.rem (.sel (.avar 1) (.add (.var 5) (.lit (-1)))) (.var 1)) (.rem (.sel (.avar 1) (.var 5)) (.var 1)))), true), ((.inr .i64 (.sub (.lit (0)) (.sub (.rem (.sel (.avar 1) (.add (.var 5) (.lit (-1)))) (.var 1)) (.rem (.sel (.avar 1) (.var 5)) (.var 1))))), true), ((.le (.sub (.lit (0)) (.sub (.rem (.sel (.avar 1) (.add (.var 5) (.lit (-1)))) (.var 1)) (.rem (.sel (.avar 1) (.var 5)) (.var 1)))) (.sub (.rem (.sel (.avar 1) (.add (.var 5) (.lit (-1)))) (.var 1)) (.rem (.sel (.avar 1) (.var 5)) (.var 1)))), false), ((.inr .i64 (.add (.sub (.quo (.sel (.avar 1) (.add (.var 5) (.lit (-1)))) (.var 1)) (.quo (.sel (.avar 1) (.var 5)) (.var 1))) (.sub (.lit (0)) (.sub (.rem (.sel (.avar 1) (.add (.var 5) (.lit (-1)))) (.var 1)) (.rem (.sel (.avar 1) (.var 5)) (.var 1)))))), true), ((.eq (.add (.sub (.quo (.sel (.avar 1) (.add (.var 5) (.lit (-1)))) (.var 1)) (.quo (.sel (.avar 1) (.var 5)) (.var 1))) (.sub (.lit (0)) (.sub (.rem (.sel (.avar 1) (.add (.var 5) (.lit (-1)))) (.var 1)) (.rem (.sel (.avar 1) (.var 5)) (.var 1))))) (.lit (1))), true), ((.le (.sel (.avar 1) (.add (.var 5) (.lit (-1)))) (.sel (.avar 1) (.var 5))), true), ((.le (.lit (0)) (.sel (.avar 1) (.add (.var 5) (.lit (-1))))), true), ((.le (.var 2) (.sel (.avar 1) (.add (.var 5) (.lit (-1))))), false), ((.inr .i64 (.sub (.sel (.avar 0) (.sel (.avar 1) (.var 5))) (.sel (.avar 0) (.sel (.avar 1) (.add (.var 5) (.lit (-1))))))), true), ((.inr .i64 (.add (.sub (.sel (.avar 0) (.sel (.avar 1) (.var 5))) (.sel (.avar 0) (.sel (.avar 1) (.add (.var 5) (.lit (-1)))))) (.lit (2048)))), true), ((.le (.lit (0)) (.rem (.add (.sub (.sel (.avar 0) (.sel (.avar 1) (.var 5))) (.sel (.avar 0) (.sel (.avar 1) (.add (.var 5) (.lit (-1)))))) (.lit (2048))) (.lit (4096)))), true), ((.inr .i64 (.add (.rem (.add (.sub (.sel (.avar 0) (.sel (.avar 1) (.var 5))) (.sel (.avar 0) (.sel (.avar 1) (.add (.var 5) (.lit (-1)))))) (.lit (2048))) (.lit (4096))) (.lit (-2048)))), true), ((.le (.var 4) (.add (.var 5) (.lit (-1)))), false), ((.inr .i64 (.add (.sel (.avar 50) (.add (.var 5) (.lit (-1)))) (.add (.rem (.add (.sub (.sel (.avar 0) (.sel (.avar 1) (.var 5))) (.sel (.avar 0) (.sel (.avar 1) (.add (.var 5) (.lit (-1)))))) (.lit (2048))) (.lit (4096))) (.lit (-2048))))), true), ((.le (.var 4) (.lit (99999))), true), ((.inr .i64 (.add (.var 5) (.lit (1)))), true)] := ⟨f_nle f1 rfl rfl, f_le f2 rfl rfl, f_in f3 rfl, f_le f4 rfl rfl, f_le f5 rfl rfl, f_nle f6 rfl rfl, f_ne f7 rfl rfl, f_ne f8 rfl rfl, f_in f9 rfl, f_le f10 rfl rfl, f_nle f11 rfl rfl, f_ne f12 rfl rfl, f_in f13 rfl, f_in f14 rfl, f_in f15 rfl, f_in f16 rfl, f_le f17 rfl rfl, f_in f18 rfl, f_in f19 rfl, f_nle f20 rfl rfl, f_in f21 rfl, f_eq f22 rfl rfl, f_le f23 rfl rfl, f_le f24 rfl rfl, f_nle f25 rfl rfl, f_in f26 rfl, f_in f27 rfl, f_le f28 rfl rfl, f_in f29 rfl, f_nle f30 rfl rfl, f_in f31 rfl, f_le f32 rfl rfl, f_in f33 rfl, trivial⟩
             refine again_runP (P := Try.prog) (K := noK) (fl := []) (B := 4) (l := [.mov 2 4]) (a' := ral1_1_a) (h' := ral1_1_h) (ρ' := rhoL W.heap.size ([R, C, (n : Int), (m : Int)] ++ [(((L + 1) : Nat) : Int), (((k + 1) : Nat) : Int)]) [⟨A, n, flat1 s⟩, ⟨B, m, flat1 p⟩] [] [(fun j : Int => if j = (L : Int) then ((F ((k : Int) + (-1))) + ((Int.tmod (((flat1 s (flat1 p (k : Int))) - (flat1 s (flat1 p ((k : Int) + (-1))))) + 2048) 4096) + (-2048))) else F j)]) (ds := [.int (.add (.var 4) (.lit (1))) (.var 4), .int (.add (.var 5) (.lit (1))) (.var 5), .row (.upd (.avar 50) (.var 4) (.add (.sel (.avar 50) (.add (.var 5) (.lit (-1)))) (.add (.rem (.add (.sub (.sel (.avar 0) (.sel (.avar 1) (.var 5))) (.sel (.avar 0) (.sel (.avar 1) (.add (.var 5) (.lit (-1)))))) (.lit (2048))) (.lit (4096))) (.lit (-2048))))) (.avar 50), .int (.add (.var 4) (.lit (1))) (.var 4)]) (by kernel_rfl) noK_ok (facD_ok hF) (by kernel_rfl) (agree_list (l := [R, C, (n : Int), (m : Int)]) (Nat.le_refl _) rfl) ⟨(show (((L : Int) + 1) : Int) = (((L + 1) : Nat) : Int) from by first | rfl | (push_cast; omega)), (show (((k : Int) + 1) : Int) = (((k + 1) : Nat) : Int) from by first | rfl | (push_cast; omega)), rfl, (show (((L : Int) + 1) : Int) = (((L + 1) : Nat) : Int) from by first | rfl | (push_cast; omega)), trivial⟩ hs2 fun A3 W3 hs3 => ⟨_, _, _, ⟨(L + 1), (k + 1), (fun j : Int => if j = (L : Int) then ((F ((k : Int) + (-1))) + ((Int.tmod (((flat1 s (flat1 p (k : Int))) - (flat1 s (flat1 p ((k : Int) + (-1))))) + 2048) 4096) + (-2048))) else F j), ?_, rfl, .inr ⟨rfl, rfl, ?_⟩⟩, ?_, hs3⟩
             · first
                 | (exfalso; omega)
                 | (have hnb : nb C (flat1 p ((k : Int) + -1)) (flat1 p (k : Int)) := by
                     rw [nb_iff hC1 (by assumption) (by assumption)]
                     unfold nbR sz
                     simp only [f1, f2, f4, f5, f6, f7, f8, f10, f11, f12, f17, f20, f22, f23, f24, f25, f28, f30, f32, if_true, if_false]
                     try omega
                    refine ⟨by omega, by omega, fun j hj => ?_, fun j hj => ?_⟩
                    · rcases Nat.lt_or_ge j k with g | g
                      · exact hz j g
                      · obtain rfl : j = k := by omega
                        unfold acode
                        simp [f1, f2, f4, f5, f6, f7, f8, f10, f11, f12, f17, f20, f22, f23, f24, f25, f28, f30, f32, hnb]
                        try omega
                    · dsimp only
                      rcases Nat.lt_or_ge j k with g | g
                      · rw [if_neg (by omega)]
                        exact hFe j g
                      · obtain rfl : j = k := by omega
                        rw [if_pos (by omega), aval_step hcond, hF1]
                        unfold stp wrp
                        simp only [f1, f2, f4, f5, f6, f7, f8, f10, f11, f12, f17, f20, f22, f23, f24, f25, f28, f30, f32, if_true, if_false]
                        try omega)
             · omega
             · show m - ((k + 1 : Nat) : Int).toNat < m - ((k : Nat) : Int).toNat
               omega
            ·
             have f29 : (-9223372036854775808 : Int) ≤ ((Int.tmod (((flat1 s (flat1 p (k : Int))) - (flat1 s (flat1 p ((k : Int) + (-1))))) + 2048) 4096) + 4096) ∧ ((Int.tmod (((flat1 s (flat1 p (k : Int))) - (flat1 s (flat1 p ((k : Int) + (-1))))) + 2048) 4096) + 4096) ≤ 9223372036854775807 := by
              first | omega | (have h := hob (by assumption) (by assumption) (by assumption); have q6 := td_bound (a := flat1 p ((k : Int) + -1)) hp1 hC1; have q7 := td_bound (a := flat1 p (k : Int)) (by assumption) hC1; omega)
             have f30 : (-9223372036854775808 : Int) ≤ ((Int.tmod (((flat1 s (flat1 p (k : Int))) - (flat1 s (flat1 p ((k : Int) + (-1))))) + 2048) 4096) + 2048) ∧ ((Int.tmod (((flat1 s (flat1 p (k : Int))) - (flat1 s (flat1 p ((k : Int) + (-1))))) + 2048) 4096) + 2048) ≤ 9223372036854775807 := by
              first | omega | (have h := hob (by assumption) (by assumption) (by assumption); have q6 := td_bound (a := flat1 p ((k : Int) + -1)) hp1 hC1; have q7 := td_bound (a := flat1 p (k : Int)) (by assumption) hC1; omega)
             have f31 : ¬ ((L : Int) ≤ ((k : Int) + (-1))) := by
              first | omega | (have h := hob (by assumption) (by assumption) (by assumption); have q6 := td_bound (a := flat1 p ((k : Int) + -1)) hp1 hC1; have q7 := td_bound (a := flat1 p (k : Int)) (by assumption) hC1; omega)
             have f32 : (-9223372036854775808 : Int) ≤ ((F ((k : Int) + (-1))) + ((Int.tmod (((flat1 s (flat1 p (k : Int))) - (flat1 s (flat1 p ((k : Int) + (-1))))) + 2048) 4096) + 2048)) ∧ ((F ((k : Int) + (-1))) + ((Int.tmod (((flat1 s (flat1 p (k : Int))) - (flat1 s (flat1 p ((k : Int) + (-1))))) + 2048) 4096) + 2048)) ≤ 9223372036854775807 := by
              first | omega | (have h := hob (by assumption) (by assumption) (by assumption); have q6 := td_bound (a := flat1 p ((k : Int) + -1)) hp1 hC1; have q7 := td_bound (a := flat1 p (k : Int)) (by assumption) hC1; omega)
             have f33 : ((L : Int) ≤ 99999) := by
              first | omega | (have h := hob (by assumption) (by assumption) (by assumption); have q6 := td_bound (a := flat1 p ((k : Int) + -1)) hp1 hC1; have q7 := td_bound (a := flat1 p (k : Int)) (by assumption) hC1; omega)
             have f34 : (-9223372036854775808 : Int) ≤ ((k : Int) + 1) ∧ ((k : Int) + 1) ≤ 9223372036854775807 := by
              first | omega | (have h := hob (by assumption) (by assumption) (by assumption); have q6 := td_bound (a := flat1 p ((k : Int) + -1)) hp1 hC1; have q7 := td_bound (a := flat1 p (k : Int)) (by assumption) hC1; omega)
             have hF : Facts [((.le (.var 3) (.var 5)), false), ((.le (.lit (0)) (.var 5)), true), ((.inr .i64 (.add (.var 2) (.lit (-1)))), true), ((.le (.lit (0)) (.sel (.avar 1) (.var 5))), true), ((.le (.sel (.avar 1) (.var 5)) (.add (.var 2) (.lit (-1)))), true), ((.le (.var 2) (.sel (.avar 1) (.var 5))), false), ((.eq (.sel (.avar 0) (.sel (.avar 1) (.var 5))) (.lit (1000000000000))), false), ((.eq (.var 5) (.lit (0))), false), ((.inr .i64 (.add (.var 5) (.lit (-1)))), true), ((.le (.lit (0)) (.add (.var 5) (.lit (-1)))), true), ((.le (.var 3) (.add (.var 5) (.lit (-1)))), false), ((.eq (.var 1) (.lit (0))), false), ((.inr .i64 (.quo (.sel (.avar 1) (.add (.var 5) (.lit (-1)))) (.var 1))), true), ((.inr .i64 (.quo (.sel (.avar 1) (.var 5)) (.var 1))), true), ((.inr .i64 (.sub (.quo (.sel (.avar 1) (.add (.var 5) (.lit (-1)))) (.var 1)) (.quo (.sel (.avar 1) (.var 5)) (.var 1)))), true), ((.inr .i64 (.sub (.lit (0)) (.sub (.quo (.sel (.avar 1) (.add (.var 5) (.lit (-1)))) (.var 1)) (.quo (.sel (.avar 1) (.var 5)) (.var 1))))), true), ((.le (.sub (.lit (0)) (.sub (.quo (.sel (.avar 1) (.add (.var 5) (.lit (-1)))) (.var 1)) (.quo (.sel (.avar 1) (.var 5)) (.var 1)))) (.sub (.quo (.sel (.avar 1) (.add (.var 5) (.lit (-1)))) (.var 1)) (.quo (.sel (.avar 1) (.var 5)) (.var 1)))), true), ((.inr .i64 (.sub (.rem (.sel (.avar 1) (.add (.var 5) (.lit (-1)))) (.var 1)) (.rem (.sel (.avar 1) (.var 5)) (.var 1)))), true), ((.inr .i64 (.sub (.lit (0)) (.sub (.rem (.sel (.avar 1) (.add (.var 5) (.lit (-1)))) (.var 1)) (.rem (.sel (.avar 1) (.var 5)) (.var 1))))), true), ((.le (.sub (.lit (0)) (.sub (.rem (.sel (.avar 1) (.add (.var 5) (.lit (-1)))) (.var 1)) (.rem (.sel (.avar 1) (.var 5)) (.var 1)))) (.sub (.rem (.sel (.avar 1) (.add (.var 5) (.lit (-1)))) (.var 1)) (.rem (.sel (.avar 1) (.var 5)) (.var 1)))), false), ((.inr .i64 (.add (.sub (.quo (.sel (.avar 1) (.add (.var 5) (.lit (-1)))) (.var 1)) (.quo (.sel (.avar 1) (.var 5)) (.var 1))) (.sub (.lit (0)) (.sub (.rem (.sel (.avar 1) (.add (.var 5) (.lit (-1)))) (.var 1)) (.rem (.sel (.avar 1) (.var 5)) (.var 1)))))), true), ((.eq (.add (.sub (.quo (.sel (.avar 1) (.add (.var 5) (.lit (-1)))) (.var 1)) (.quo (.sel (.avar 1) (.var 5)) (.var 1))) (.sub (.lit (0)) (.sub (.rem (.sel (.avar 1) (.add (.var 5) (.lit (-1)))) (.var 1)) (.rem (.sel (.avar 1) (.var 5)) (.var 1))))) (.lit (1))), true), ((.le (.sel (.avar 1) (.add (.var 5) (.lit (-1)))) (.sel (.avar 1) (.var 5))), true), ((.le (.lit (0)) (.sel (.avar 1) (.add (.var 5) (.lit (-1))))), true), ((.le (.var 2) (.sel (.avar 1) (.add (.var 5) (.lit (-1))))), false), ((.inr .i64 (.sub (.sel (.avar 0) (.sel (.avar 1) (.var 5))) (.sel (.avar 0) (.sel (.avar 1) (.add (.var 5) (.lit (-1))))))), true), ((.inr .i64 (.add (.sub (.sel (.avar 0) (.sel (.avar 1) (.var 5))) (.sel (.avar 0) (.sel (.avar 1) (.add (.var 5) (.lit (-1)))))) (.lit (2048)))), true), ((.le (.lit (0)) (.rem (.add (.sub (.sel (.avar 0) (.sel (.avar 1) (.var 5))) (.sel (.avar 0) (.sel (.avar 1) (.add (.var 5) (.lit (-1)))))) (.lit (2048))) (.lit (4096)))), false), ((.inr .i64 (.add (.rem (.add (.sub (.sel (.avar 0) (.sel (.avar 1) (.var 5))) (.sel (.avar 0) (.sel (.avar 1) (.add (.var 5) (.lit (-1)))))) (.lit (2048))) (.lit (4096))) (.lit (4096)))), true), ((.inr .i64 (.add (.rem (.add (.sub (.sel (.avar 0) (.sel (.avar 1) (.var 5))) (.sel (.avar 0) (.sel (.avar 1) (.add (.var 5) (.lit (-1)))))) (.lit (2048))) (.lit (4096))) (.lit (2048)))), true), ((.le (.var 4) (.add (.var 5) (.lit (-1)))), false), ((.inr .i64 (.add (.sel (.avar 50) (.add (.var 5) (.lit (-1)))) (.add (.rem (.add (.sub (.sel (.avar 0) (.sel (.avar 1) (.var 5))) (.sel (.avar 0) (.sel (.avar 1) (.add (.var 5) (.lit (-1)))))) (.lit (2048))) (.lit (4096))) (.lit (2048))))), true), ((.le (.var 4) (.lit (99999))), true), ((.inr .i64 (.add (.var 5) (.lit (1)))), true)] := ⟨f_nle f1 rfl rfl, f_le f2 rfl rfl, f_in f3 rfl, f_le f4 rfl rfl, f_le f5 rfl rfl, f_nle f6 rfl rfl, f_ne f7 rfl rfl, f_ne f8 rfl rfl, f_in f9 rfl, f_le f10 rfl rfl, f_nle f11 rfl rfl, f_ne f12 rfl rfl, f_in f13 rfl, f_in f14 rfl, f_in f15 rfl, f_in f16 rfl, f_le f17 rfl rfl, f_in f18 rfl, f_in f19 rfl, f_nle f20 rfl rfl, f_in f21 rfl, f_eq f22 rfl rfl, f_le f23 rfl rfl, f_le f24 rfl rfl, f_nle f25 rfl rfl, f_in f26 rfl, f_in f27 rfl, f_nle f28 rfl rfl, f_in f29 rfl, f_in f30 rfl, f_nle f31 rfl rfl, f_in f32 rfl, f_le f33 rfl rfl, f_in f34 rfl, trivial⟩
             refine again_runP (P := Try.prog) (K := noK) (fl := []) (B := 4) (l := [.mov 2 4]) (a' := ral1_1_a) (h' := ral1_1_h) (ρ' := rhoL W.heap.size ([R, C, (n : Int), (m : Int)] ++ [(((L + 1) : Nat) : Int), (((k + 1) : Nat) : Int)]) [⟨A, n, flat1 s⟩, ⟨B, m, flat1 p⟩] [] [(fun j : Int => if j = (L : Int) then ((F ((k : Int) + (-1))) + ((Int.tmod (((flat1 s (flat1 p (k : Int))) - (flat1 s (flat1 p ((k : Int) + (-1))))) + 2048) 4096) + 2048)) else F j)]) (ds := [.int (.add (.var 4) (.lit (1))) (.var 4), .int (.add (.var 5) (.lit (1))) (.var 5), .row (.upd (.avar 50) (.var 4) (.add (.sel (.avar 50) (.add (.var 5) (.lit (-1)))) (.add (.rem (.add (.sub (.sel (.avar 0) (.sel (.avar 1) (.var 5))) (.sel (.avar 0) (.sel (.avar 1) (.add (.var 5) (.lit (-1)))))) (.lit (2048))) (.lit (4096))) (.lit (2048))))) (.avar 50), .int (.add (.var 4) (.lit (1))) (.var 4)]) (by kernel_rfl) noK_ok (facD_ok hF) (by kernel_rfl) (agree_list (l := [R, C, (n : Int), (m : Int)]) (Nat.le_refl _) rfl) ⟨(show (((L : Int) + 1) : Int) = (((L + 1) : Nat) : Int) from by first | rfl | (push_cast; omega)), (show (((k : Int) + 1) : Int) = (((k + 1) : Nat) : Int) from by first | rfl | (push_cast; omega)), rfl, (show (((L : Int) + 1) : Int) = (((L + 1) : Nat) : Int) from by first | rfl | (push_cast; omega)), trivial⟩ hs2 fun A3 W3 hs3 => ⟨_, _, _, ⟨(L + 1), (k + 1), (fun j : Int => if j = (L : Int) then ((F ((k : Int) + (-1))) + ((Int.tmod (((flat1 s (flat1 p (k : Int))) - (flat1 s (flat1 p ((k : Int) + (-1))))) + 2048) 4096) + 2048)) else F j), ?_, rfl, .inr ⟨rfl, rfl, ?_⟩⟩, ?_, hs3⟩
             · first
                 | (exfalso; omega)
                 | (have hnb : nb C (flat1 p ((k : Int) + -1)) (flat1 p (k : Int)) := by
                     rw [nb_iff hC1 (by assumption) (by assumption)]
                     unfold nbR sz
                     simp only [f1, f2, f4, f5, f6, f7, f8, f10, f11, f12, f17, f20, f22, f23, f24, f25, f28, f31, f33, if_true, if_false]
                     try omega
                    refine ⟨by omega, by omega, fun j hj => ?_, fun j hj => ?_⟩
                    · rcases Nat.lt_or_ge j k with g | g
                      · exact hz j g
                      · obtain rfl : j = k := by omega
                        unfold acode
                        simp [f1, f2, f4, f5, f6, f7, f8, f10, f11, f12, f17, f20, f22, f23, f24, f25, f28, f31, f33, hnb]
                        try omega
                    · dsimp only
                      rcases Nat.lt_or_ge j k with g | g
                      · rw [if_neg (by omega)]
                        exact hFe j g
                      · obtain rfl : j = k := by omega
                        rw [if_pos (by omega), aval_step hcond, hF1]
                        unfold stp wrp
                        simp only [f1, f2, f4, f5, f6, f7, f8, f10, f11, f12, f17, f20, f22, f23, f24, f25, f28, f31, f33, if_true, if_false]
                        try omega)
             · omega
             · show m - ((k + 1 : Nat) : Int).toNat < m - ((k : Nat) : Int).toNat
               omega
           ·
            have f24 : ((flat1 p (k : Int)) ≤ (flat1 p ((k : Int) + (-1)))) := by
             first | omega | (have h := hob (by assumption) (by assumption) (by assumption); have q6 := td_bound (a := flat1 p ((k : Int) + -1)) hp1 hC1; have q7 := td_bound (a := flat1 p (k : Int)) (by assumption) hC1; omega)
            have f25 : (0 ≤ (flat1 p ((k : Int) + (-1)))) := by
             first | omega | (have h := hob (by assumption) (by assumption) (by assumption); have q6 := td_bound (a := flat1 p ((k : Int) + -1)) hp1 hC1; have q7 := td_bound (a := flat1 p (k : Int)) (by assumption) hC1; omega)
            have f26 : ¬ ((n : Int) ≤ (flat1 p ((k : Int) + (-1)))) := by
             first | omega | (have h := hob (by assumption) (by assumption) (by assumption); have q6 := td_bound (a := flat1 p ((k : Int) + -1)) hp1 hC1; have q7 := td_bound (a := flat1 p (k : Int)) (by assumption) hC1; omega)
            have f27 : (-9223372036854775808 : Int) ≤ ((flat1 s (flat1 p ((k : Int) + (-1)))) - (flat1 s (flat1 p (k : Int)))) ∧ ((flat1 s (flat1 p ((k : Int) + (-1)))) - (flat1 s (flat1 p (k : Int)))) ≤ 9223372036854775807 := by
             first | omega | (have h := hob (by assumption) (by assumption) (by assumption); have q6 := td_bound (a := flat1 p ((k : Int) + -1)) hp1 hC1; have q7 := td_bound (a := flat1 p (k : Int)) (by assumption) hC1; omega)
            have f28 : (-9223372036854775808 : Int) ≤ (((flat1 s (flat1 p ((k : Int) + (-1)))) - (flat1 s (flat1 p (k : Int)))) + 2048) ∧ (((flat1 s (flat1 p ((k : Int) + (-1)))) - (flat1 s (flat1 p (k : Int)))) + 2048) ≤ 9223372036854775807 := by
             first | omega | (have h := hob (by assumption) (by assumption) (by assumption); have q6 := td_bound (a := flat1 p ((k : Int) + -1)) hp1 hC1; have q7 := td_bound (a := flat1 p (k : Int)) (by assumption) hC1; omega)
            by_cases f29 : 0 ≤ (Int.tmod (((flat1 s (flat1 p ((k : Int) + (-1)))) - (flat1 s (flat1 p (k : Int)))) + 2048) 4096)
            ·
             have f30 : (-9223372036854775808 : Int) ≤ ((Int.tmod (((flat1 s (flat1 p ((k : Int) + (-1)))) - (flat1 s (flat1 p (k : Int)))) + 2048) 4096) + (-2048)) ∧ ((Int.tmod (((flat1 s (flat1 p ((k : Int) + (-1)))) - (flat1 s (flat1 p (k : Int)))) + 2048) 4096) + (-2048)) ≤ 9223372036854775807 := by
              first | omega | (have h := hob (by assumption) (by assumption) (by assumption); have q6 := td_bound (a := flat1 p ((k : Int) + -1)) hp1 hC1; have q7 := td_bound (a := flat1 p (k : Int)) (by assumption) hC1; omega)
             have f31 : (-9223372036854775808 : Int) ≤ (0 - ((Int.tmod (((flat1 s (flat1 p ((k : Int) + (-1)))) - (flat1 s (flat1 p (k : Int)))) + 2048) 4096) + (-2048))) ∧ (0 - ((Int.tmod (((flat1 s (flat1 p ((k : Int) + (-1)))) - (flat1 s (flat1 p (k : Int)))) + 2048) 4096) + (-2048))) ≤ 9223372036854775807 := by
              first | omega | (have h := hob (by assumption) (by assumption) (by assumption); have q6 := td_bound (a := flat1 p ((k : Int) + -1)) hp1 hC1; have q7 := td_bound (a := flat1 p (k : Int)) (by assumption) hC1; omega)
             have f32 : ¬ ((L : Int) ≤ ((k : Int) + (-1))) := by
              first | omega | (have h := hob (by assumption) (by assumption) (by assumption); have q6 := td_bound (a := flat1 p ((k : Int) + -1)) hp1 hC1; have q7 := td_bound (a := flat1 p (k : Int)) (by assumption) hC1; omega)
             have f33 : (-9223372036854775808 : Int) ≤ ((F ((k : Int) + (-1))) + (0 - ((Int.tmod (((flat1 s (flat1 p ((k : Int) + (-1)))) - (flat1 s (flat1 p (k : Int)))) + 2048) 4096) + (-2048)))) ∧ ((F ((k : Int) + (-1))) + (0 - ((Int.tmod (((flat1 s (flat1 p ((k : Int) + (-1)))) - (flat1 s (flat1 p (k : Int)))) + 2048) 4096) + (-2048)))) ≤ 9223372036854775807 := by
              first | omega | (have h := hob (by assumption) (by assumption) (by assumption); have q6 := td_bound (a := flat1 p ((k : Int) + -1)) hp1 hC1; have q7 := td_bound (a := flat1 p (k : Int)) (by assumption) hC1; omega)
             have f34 : ((L : Int) ≤ 99999) := by
              first | omega | (have h := hob (by assumption) (by assumption) (by assumption); have q6 := td_bound (a := flat1 p ((k : Int) + -1)) hp1 hC1; have q7 := td_bound (a := flat1 p (k : Int)) (by assumption) hC1; omega)
             have f35 : (-9223372036854775808 : Int) ≤ ((k : Int) + 1) ∧ ((k : Int) + 1) ≤ 9223372036854775807 := by
              first | omega | (have h := hob (by assumption) (by assumption) (by assumption); have q6 := td_bound (a := flat1 p ((k : Int) + -1)) hp1 hC1; have q7 := td_bound (a := flat1 p (k : Int)) (by assumption) hC1; omega)
             have hF : Facts [((.le (.var 3) (.var 5)), false), ((.le (.lit (0)) (.var 5)), true), ((.inr .i64 (.add (.var 2) (.lit (-1)))), true), ((.le (.lit (0)) (.sel (.avar 1) (.var 5))), true), ((.le (.sel (.avar 1) (.var 5)) (.add (.var 2) (.lit (-1)))), true), ((.le (.var 2) (.sel (.avar 1) (.var 5))), false), ((.eq (.sel (.avar 0) (.sel (.avar 1) (.var 5))) (.lit (1000000000000))), false), ((.eq (.var 5) (.lit (0))), false), ((.inr .i64 (.add (.var 5) (.lit (-1)))), true), ((.le (.lit (0)) (.add (.var 5) (.lit (-1)))), true), ((.le (.var 3) (.add (.var 5) (.lit (-1)))), false), ((.eq (.var 1) (.lit (0))), false), ((.inr .i64 (.quo (.sel (.avar 1) (.add (.var 5) (.lit (-1)))) (.var 1))), true), ((.inr .i64 (.quo (.sel (.avar 1) (.var 5)) (.var 1))), true), ((.inr .i64 (.sub (.quo (.sel (.avar 1) (.add (.var 5) (.lit (-1)))) (.var 1)) (.quo (.sel (.avar 1) (.var 5)) (.var 1)))), true), ((.inr .i64 (.sub (.lit (0)) (.sub (.quo (.sel (.avar 1) (.add (.var 5) (.lit (-1)))) (.var 1)) (.quo (.sel (.avar 1) (.var 5)) (.var 1))))), true), ((.le (.sub (.lit (0)) (.sub (.quo (.sel (.avar 1) (.add (.var 5) (.lit (-1)))) (.var 1)) (.quo (.sel (.avar 1) (.var 5)) (.var 1)))) (.sub (.quo (.sel (.avar 1) (.add (.var 5) (.lit (-1)))) (.var 1)) (.quo (.sel (.avar 1) (.var 5)) (.var 1)))), true), ((.inr .i64 (.sub (.rem (.sel (.avar 1) (.add (.var 5) (.lit (-1)))) (.var 1)) (.rem (.sel (.avar 1) (.var 5)) (.var 1)))), true), ((.inr .i64 (.sub (.lit (0)) (.sub (.rem (.sel (.avar 1) (.add (.var 5) (.lit (-1)))) (.var 1)) (.rem (.sel (.avar 1) (.var 5)) (.var 1))))), true), ((.le (.sub (.lit (0)) (.sub (.rem (.sel (.avar 1) (.add (.var 5) (.lit (-1)))) (.var 1)) (.rem (.sel (.avar 1) (.var 5)) (.var 1)))) (.sub (.rem (.sel (.avar 1) (.add (.var 5) (.lit (-1)))) (.var 1)) (.rem (.sel (.avar 1) (.var 5)) (.var 1)))), false), ((.inr .i64 (.add (.sub (.quo (.sel (.avar 1) (.add (.var 5) (.lit (-1)))) (.var 1)) (.quo (.sel (.avar 1) (.var 5)) (.var 1))) (.sub (.lit (0)) (.sub (.rem (.sel (.avar 1) (.add (.var 5) (.lit (-1)))) (.var 1)) (.rem (.sel (.avar 1) (.var 5)) (.var 1)))))), true), ((.eq (.add (.sub (.quo (.sel (.avar 1) (.add (.var 5) (.lit (-1)))) (.var 1)) (.quo (.sel (.avar 1) (.var 5)) (.var 1))) (.sub (.lit (0)) (.sub (.rem (.sel (.avar 1) (.add (.var 5) (.lit (-1)))) (.var 1)) (.rem (.sel (.avar 1) (.var 5)) (.var 1))))) (.lit (1))), true), ((.le (.sel (.avar 1) (.add (.var 5) (.lit (-1)))) (.sel (.avar 1) (.var 5))), false), ((.le (.sel (.avar 1) (.var 5)) (.sel (.avar 1) (.add (.var 5) (.lit (-1))))), true), ((.le (.lit (0)) (.sel (.avar 1) (.add (.var 5) (.lit (-1))))), true), ((.le (.var 2) (.sel (.avar 1) (.add (.var 5) (.lit (-1))))), false), ((.inr .i64 (.sub (.sel (.avar 0) (.sel (.avar 1) (.add (.var 5) (.lit (-1))))) (.sel (.avar 0) (.sel (.avar 1) (.var 5))))), true), ((.inr .i64 (.add (.sub (.sel (.avar 0) (.sel (.avar 1) (.add (.var 5) (.lit (-1))))) (.sel (.avar 0) (.sel (.avar 1) (.var 5)))) (.lit (2048)))), true), ((.le (.lit (0)) (.rem (.add (.sub (.sel (.avar 0) (.sel (.avar 1) (.add (.var 5) (.lit (-1))))) (.sel (.avar 0) (.sel (.avar 1) (.var 5)))) (.lit (2048))) (.lit (4096)))), true), ((.inr .i64 (.add (.rem (.add (.sub (.sel (.avar 0) (.sel (.avar 1) (.add (.var 5) (.lit (-1))))) (.sel (.avar 0) (.sel (.avar 1) (.var 5)))) (.lit (2048))) (.lit (4096))) (.lit (-2048)))), true), ((.inr .i64 (.sub (.lit (0)) (.add (.rem (.add (.sub (.sel (.avar 0) (.sel (.avar 1) (.add (.var 5) (.lit (-1))))) (.sel (.avar 0) (.sel (.avar 1) (.var 5)))) (.lit (2048))) (.lit (4096))) (.lit (-2048))))), true), ((.le (.var 4) (.add (.var 5) (.lit (-1)))), false), ((.inr .i64 (.add (.sel (.avar 50) (.add (.var 5) (.lit (-1)))) (.sub (.lit (0)) (.add (.rem (.add (.sub (.sel (.avar 0) (.sel (.avar 1) (.add (.var 5) (.lit (-1))))) (.sel (.avar 0) (.sel (.avar 1) (.var 5)))) (.lit (2048))) (.lit (4096))) (.lit (-2048)))))), true), ((.le (.var 4) (.lit (99999))), true), ((.inr .i64 (.add (.var 5) (.lit (1)))), true)] := ⟨f_nle f1 rfl rfl, f_le f2 rfl rfl, f_in f3 rfl, f_le f4 rfl rfl, f_le f5 rfl rfl, f_nle f6 rfl rfl, f_ne f7 rfl rfl, f_ne f8 rfl rfl, f_in f9 rfl, f_le f10 rfl rfl, f_nle f11 rfl rfl, f_ne f12 rfl rfl, f_in f13 rfl, f_in f14 rfl, f_in f15 rfl, f_in f16 rfl, f_le f17 rfl rfl, f_in f18 rfl, f_in f19 rfl, f_nle f20 rfl rfl, f_in f21 rfl, f_eq f22 rfl rfl, f_nle f23 rfl rfl, f_le f24 rfl rfl, f_le f25 rfl rfl, f_nle f26 rfl rfl, f_in f27 rfl, f_in f28 rfl, f_le f29 rfl rfl, f_in f30 rfl, f_in f31 rfl, f_nle f32 rfl rfl, f_in f33 rfl, f_le f34 rfl rfl, f_in f35 rfl, trivial⟩
             refine again_runP (P := Try.prog) (K := noK) (fl := []) (B := 4) (l := [.mov 2 4]) (a' := ral1_1_a) (h' := ral1_1_h) (ρ' := rhoL W.heap.size ([R, C, (n : Int), (m : Int)] ++ [(((L + 1) : Nat) : Int), (((k + 1) : Nat) : Int)]) [⟨A, n, flat1 s⟩, ⟨B, m, flat1 p⟩] [] [(fun j : Int => if j = (L : Int) then ((F ((k : Int) + (-1))) + (0 - ((Int.tmod (((flat1 s (flat1 p ((k : Int) + (-1)))) - (flat1 s (flat1 p (k : Int)))) + 2048) 4096) + (-2048)))) else F j)]) (ds := [.int (.add (.var 4) (.lit (1))) (.var 4), .int (.add (.var 5) (.lit (1))) (.var 5), .row (.upd (.avar 50) (.var 4) (.add (.sel (.avar 50) (.add (.var 5) (.lit (-1)))) (.sub (.lit (0)) (.add (.rem (.add (.sub (.sel (.avar 0) (.sel (.avar 1) (.add (.var 5) (.lit (-1))))) (.sel (.avar 0) (.sel (.avar 1) (.var 5)))) (.lit (2048))) (.lit (4096))) (.lit (-2048)))))) (.avar 50), .int (.add (.var 4) (.lit (1))) (.var 4)]) (by kernel_rfl) noK_ok (facD_ok hF) (by kernel_rfl) (agree_list (l := [R, C, (n : Int), (m : Int)]) (Nat.le_refl _) rfl) ⟨(show (((L : Int) + 1) : Int) = (((L + 1) : Nat) : Int) from by first | rfl | (push_cast; omega)), (show (((k : Int) + 1) : Int) = (((k + 1) : Nat) : Int) from by first | rfl | (push_cast; omega)), rfl, (show (((L : Int) + 1) : Int) = (((L + 1) : Nat) : Int) from by first | rfl | (push_cast; omega)), trivial⟩ hs2 fun A3 W3 hs3 => ⟨_, _, _, ⟨(L + 1), (k + 1), (fun j : Int => if j = (L : Int) then ((F ((k : Int) + (-1))) + (0 - ((Int.tmod (((flat1 s (flat1 p ((k : Int) + (-1)))) - (flat1 s (flat1 p (k : Int)))) + 2048) 4096) + (-2048)))) else F j), ?_, rfl, .inr ⟨rfl, rfl, ?_⟩⟩, ?_, hs3⟩
             · first
                 | (exfalso; omega)
                 | (have hnb : nb C (flat1 p ((k : Int) + -1)) (flat1 p (k : Int)) := by
                     rw [nb_iff hC1 (by assumption) (by assumption)]
                     unfold nbR sz
                     simp only [f1, f2, f4, f5, f6, f7, f8, f10, f11, f12, f17, f20, f22, f23, f24, f25, f26, f29, f32, f34, if_true, if_false]
                     try omega
                    refine ⟨by omega, by omega, fun j hj => ?_, fun j hj => ?_⟩
                    · rcases Nat.lt_or_ge j k with g | g
                      · exact hz j g
                      · obtain rfl : j = k := by omega
                        unfold acode
                        simp [f1, f2, f4, f5, f6, f7, f8, f10, f11, f12, f17, f20, f22, f23, f24, f25, f26, f29, f32, f34, hnb]
                        try omega
                    · dsimp only
                      rcases Nat.lt_or_ge j k with g | g
                      · rw [if_neg (by omega)]
                        exact hFe j g
                      · obtain rfl : j = k := by omega
                        rw [if_pos (by omega), aval_step hcond, hF1]
                        unfold stp wrp
                        simp only [f1, f2, f4, f5, f6, f7, f8, f10, f11, f12, f17, f20, f22, f23, f24, f25, f26, f29, f32, f34, if_true, if_false]
                        try omega)
             · omega
             · show m - ((k + 1 : Nat) : Int).toNat < m - ((k : Nat) : Int).toNat
               omega
            ·
             have f30 : (-9223372036854775808 : Int) ≤ ((Int.tmod (((flat1 s (flat1 p ((k : Int) + (-1)))) - (flat1 s (flat1 p (k : Int)))) + 2048) 4096) + 4096) ∧ ((Int.tmod (((flat1 s (flat1 p ((k : Int) + (-1)))) - (flat1 s (flat1 p (k : Int)))) + 2048) 4096) + 4096) ≤ 9223372036854775807 := by
              first | omega | (have h := hob (by assumption) (by assumption) (by assumption); have q6 := td_bound (a := flat1 p ((k : Int) + -1)) hp1 hC1; have q7 := td_bound (a := flat1 p (k : Int)) (by assumption) hC1; omega)
             have f31 : (-9223372036854775808 : Int) ≤ ((Int.tmod (((flat1 s (flat1 p ((k : Int) + (-1)))) - (flat1 s (flat1 p (k : Int)))) + 2048) 4096) + 2048) ∧ ((Int.tmod (((flat1 s (flat1 p ((k : Int) + (-1)))) - (flat1 s (flat1 p (k : Int)))) + 2048) 4096) + 2048) ≤ 9223372036854775807 := by
              first | omega | (have h := hob (by assumption) (by assumption) (by assumption); have q6 := td_bound (a := flat1 p ((k : Int) + -1)) hp1 hC1; have q7 := td_bound (a := flat1 p (k : Int)) (by assumption) hC1; omega)
             have f32 : (-9223372036854775808 : Int) ≤ (0 - ((Int.tmod (((flat1 s (flat1 p ((k : Int) + (-1)))) - (flat1 s (flat1 p (k : Int)))) + 2048) 4096) + 2048)) ∧ (0 - ((Int.tmod (((flat1 s (flat1 p ((k : Int) + (-1)))) - (flat1 s (flat1 p (k : Int)))) + 2048) 4096) + 2048)) ≤ 9223372036854775807 := by
              first | omega | (have h := hob (by assumption) (by assumption) (by assumption); have q6 := td_bound (a := flat1 p ((k : Int) + -1)) hp1 hC1; have q7 := td_bound (a := flat1 p (k : Int)) (by assumption) hC1; omega)
             have f33 : ¬ ((L : Int) ≤ ((k : Int) + (-1))) := by
              first | omega | (have h := hob (by assumption) (by assumption) (by assumption); have q6 := td_bound (a := flat1 p ((k : Int) + -1)) hp1 hC1; have q7 := td_bound (a := flat1 p (k : Int)) (by assumption) hC1; omega)
             have f34 : (-9223372036854775808 : Int) ≤ ((F ((k : Int) + (-1))) + (0 - ((Int.tmod (((flat1 s (flat1 p ((k : Int) + (-1)))) - (flat1 s (flat1 p (k : Int)))) + 2048) 4096) + 2048))) ∧ ((F ((k : Int) + (-1))) + (0 - ((Int.tmod (((flat1 s (flat1 p ((k : Int) + (-1)))) - (flat1 s (flat1 p (k : Int)))) + 2048) 4096) + 2048))) ≤ 9223372036854775807 := by
              first | omega | (have h := hob (by assumption) (by assumption) (by assumption); have q6 := td_bound (a := flat1 p ((k : Int) + -1)) hp1 hC1; have q7 := td_bound (a := flat1 p (k : Int)) (by assumption) hC1; omega)
             have f35 : ((L : Int) ≤ 99999) := by
              first | omega | (have h := hob (by assumption) (by assumption) (by assumption); have q6 := td_bound (a := flat1 p ((k : Int) + -1)) hp1 hC1; have q7 := td_bound (a := flat1 p (k : Int)) (by assumption) hC1; omega)
             have f36 : (-9223372036854775808 : Int) ≤ ((k : Int) + 1) ∧ ((k : Int) + 1) ≤ 9223372036854775807 := by
              first | omega | (have h := hob (by assumption) (by assumption) (by assumption); have q6 := td_bound (a := flat1 p ((k : Int) + -1)) hp1 hC1; have q7 := td_bound (a := flat1 p (k : Int)) (by assumption) hC1; omega)
             have hF : Facts [((.le (.var 3) (.var 5)), false), ((.le (.lit (0)) (.var 5)), true), ((.inr .i64 (.add (.var 2) (.lit (-1)))), true), ((.le (.lit (0)) (.sel (.avar 1) (.var 5))), true), ((.le (.sel (.avar 1) (.var 5)) (.add (.var 2) (.lit (-1)))), true), ((.le (.var 2) (.sel (.avar 1) (.var 5))), false), ((.eq (.sel (.avar 0) (.sel (.avar 1) (.var 5))) (.lit (1000000000000))), false), ((.eq (.var 5) (.lit (0))), false), ((.inr .i64 (.add (.var 5) (.lit (-1)))), true), ((.le (.lit (0)) (.add (.var 5) (.lit (-1)))), true), ((.le (.var 3) (.add (.var 5) (.lit (-1)))), false), ((.eq (.var 1) (.lit (0))), false), ((.inr .i64 (.quo (.sel (.avar 1) (.add (.var 5) (.lit (-1)))) (.var 1))), true), ((.inr .i64 (.quo (.sel (.avar 1) (.var 5)) (.var 1))), true), ((.inr .i64 (.sub (.quo (.sel (.avar 1) (.add (.var 5) (.lit (-1)))) (.var 1)) (.quo (.sel (.avar 1) (.var 5)) (.var 1)))), true), ((.inr .i64 (.sub (.lit (0)) (.sub (.quo (.sel (.avar 1) (.add (.var 5) (.lit (-1)))) (.var 1)) (.quo (.sel (.avar 1) (.var 5)) (.var 1))))), true), ((.le (.sub (.lit (0)) (.sub (.quo (.sel (.avar 1) (.add (.var 5) (.lit (-1)))) (.var 1)) (.quo (.sel (.avar 1) (.var 5)) (.var 1)))) (.sub (.quo (.sel (.avar 1) (.add (.var 5) (.lit (-1)))) (.var 1)) (.quo (.sel (.avar 1) (.var 5)) (.var 1)))), true), ((.inr .i64 (.sub (.rem (.sel (.avar 1) (.add (.var 5) (.lit (-1)))) (.var 1)) (.rem (.sel (.avar 1) (.var 5)) (.var 1)))), true), ((.inr .i64 (.sub (.lit (0)) (.sub (.rem (.sel (.avar 1) (.add (.var 5) (.lit (-1)))) (.var 1)) (.rem (.sel (.avar 1) (.var 5)) (.var 1))))), true), ((.le (.sub (.lit (0)) (.sub (.rem (.sel (.avar 1) (.add (.var 5) (.lit (-1)))) (.var 1)) (.rem (.sel (.avar 1) (.var 5)) (.var 1)))) (.sub (.rem (.sel (.avar 1) (.add (.var 5) (.lit (-1)))) (.var 1)) (.rem (.sel (.avar 1) (.var 5)) (.var 1)))), false), ((.inr .i64 (.add (.sub (.quo (.sel (.avar 1) (.add (.var 5) (.lit (-1)))) (.var 1)) (.quo (.sel (.avar 1) (.var 5)) (.var 1))) (.sub (.lit (0)) (.sub (.rem (.sel (.avar 1) (.add (.var 5) (.lit (-1)))) (.var 1)) (.rem (.sel (.avar 1) (.var 5)) (.var 1)))))), true), ((.eq (.add (.sub (.quo (.sel (.avar 1) (.add (.var 5) (.lit (-1)))) (.var 1)) (.quo (.sel (.avar 1) (.var 5)) (.var 1))) (.sub (.lit (0)) (.sub (.rem (.sel (.avar 1) (.add (.var 5) (.lit (-1)))) (.var 1)) (.rem (.sel (.avar 1) (.var 5)) (.var 1))))) (.lit (1))), true), ((.le (.sel (.avar 1) (.add (.var 5) (.lit (-1)))) (.sel (.avar 1) (.var 5))), false), ((.le (.sel (.avar 1) (.var 5)) (.sel (.avar 1) (.add (.var 5) (.lit (-1))))), true), ((.le (.lit (0)) (.sel (.avar 1) (.add (.var 5) (.lit (-1))))), true), ((.le (.var 2) (.sel (.avar 1) (.add (.var 5) (.lit (-1))))), false), ((.inr .i64 (.sub (.sel (.avar 0) (.sel (.avar 1) (.add (.var 5) (.lit (-1))))) (.sel (.avar 0) (.sel (.avar 1) (.var 5))))), true), ((.inr .i64 (.add (.sub (.sel (.avar 0) (.sel (.avar 1) (.add (.var 5) (.lit (-1))))) (.sel (.avar 0) (.sel (.avar 1) (.var 5)))) (.lit (2048)))), true), ((.le (.lit (0)) (.rem (.add (.sub (.sel (.avar 0) (.sel (.avar 1) (.add (.var 5) (.lit (-1))))) (.sel (.avar 0) (.sel (.avar 1) (.var 5)))) (.lit (2048))) (.lit (4096)))), false), ((.inr .i64 (.add (.rem (.add (.sub (.sel (.avar 0) (.sel (.avar 1) (.add (.var 5) (.lit (-1))))) (.sel (.avar 0) (.sel (.avar 1) (.var 5)))) (.lit (2048))) (.lit (4096))) (.lit (4096)))), true), ((.inr .i64 (.add (.rem (.add (.sub (.sel (.avar 0) (.sel (.avar 1) (.add (.var 5) (.lit (-1))))) (.sel (.avar 0) (.sel (.avar 1) (.var 5)))) (.lit (2048))) (.lit (4096))) (.lit (2048)))), true), ((.inr .i64 (.sub (.lit (0)) (.add (.rem (.add (.sub (.sel (.avar 0) (.sel (.avar 1) (.add (.var 5) (.lit (-1))))) (.sel (.avar 0) (.sel (.avar 1) (.var 5)))) (.lit (2048))) (.lit (4096))) (.lit (2048))))), true), ((.le (.var 4) (.add (.var 5) (.lit (-1)))), false), ((.inr .i64 (.add (.sel (.avar 50) (.add (.var 5) (.lit (-1)))) (.sub (.lit (0)) (.add (.rem (.add (.sub (.sel (.avar 0) (.sel (.avar 1) (.add (.var 5) (.lit (-1))))) (.sel (.avar 0) (.sel (.avar 1) (.var 5)))) (.lit (2048))) (.lit (4096))) (.lit (2048)))))), true), ((.le (.var 4) (.lit (99999))), true), ((.inr .i64 (.add (.var 5) (.lit (1)))), true)] := ⟨f_nle f1 rfl rfl, f_le f2 rfl rfl, f_in f3 rfl, f_le f4 rfl rfl, f_le f5 rfl rfl, f_nle f6 rfl rfl, f_ne f7 rfl rfl, f_ne f8 rfl rfl, f_in f9 rfl, f_le f10 rfl rfl, f_nle f11 rfl rfl, f_ne f12 rfl rfl, f_in f13 rfl, f_in f14 rfl, f_in f15 rfl, f_in f16 rfl, f_le f17 rfl rfl, f_in f18 rfl, f_in f19 rfl, f_nle f20 rfl rfl, f_in f21 rfl, f_eq f22 rfl rfl, f_nle f23 rfl rfl, f_le f24 rfl rfl, f_le f25 rfl rfl, f_nle f26 rfl rfl, f_in f27 rfl, f_in f28 rfl, f_nle f29 rfl rfl, f_in f30 rfl, f_in f31 rfl, f_in f32 rfl, f_nle f33 rfl rfl, f_in f34 rfl, f_le f35 rfl rfl, f_in f36 rfl, trivial⟩
             refine again_runP (P := Try.prog) (K := noK) (fl := []) (B := 4) (l := [.mov 2 4]) (a' := ral1_1_a) (h' := ral1_1_h) (ρ' := rhoL W.heap.size ([R, C, (n : Int), (m : Int)] ++ [(((L + 1) : Nat) : Int), (((k + 1) : Nat) : Int)]) [⟨A, n, flat1 s⟩, ⟨B, m, flat1 p⟩] [] [(fun j : Int => if j = (L : Int) then ((F ((k : Int) + (-1))) + (0 - ((Int.tmod (((flat1 s (flat1 p ((k : Int) + (-1)))) - (flat1 s (flat1 p (k : Int)))) + 2048) 4096) + 2048))) else F j)]) (ds := [.int (.add (.var 4) (.lit (1))) (.var 4), .int (.add (.var 5) (.lit (1))) (.var 5), .row (.upd (.avar 50) (.var 4) (.add (.sel (.avar 50) (.add (.var 5) (.lit (-1)))) (.sub (.lit (0)) (.add (.rem (.add (.sub (.sel (.avar 0) (.sel (.avar 1) (.add (.var 5) (.lit (-1))))) (.sel (.avar 0) (.sel (.avar 1) (.var 5)))) (.lit (2048))) (.lit (4096))) (.lit (2048)))))) (.avar 50), .int (.add (.var 4) (.lit (1))) (.var 4)]) (by kernel_rfl) noK_ok (facD_ok hF) (by kernel_rfl) (agree_list (l := [R, C, (n : Int), (m : Int)]) (Nat.le_refl _) rfl) ⟨(show (((L : Int) + 1) : Int) = (((L + 1) : Nat) : Int) from by first | rfl | (push_cast; omega)), (show (((k : Int) + 1) : Int) = (((k + 1) : Nat) : Int) from by first | rfl | (push_cast; omega)), rfl, (show (((L : Int) + 1) : Int) = (((L + 1) : Nat) : Int) from by first | rfl | (push_cast; omega)), trivial⟩ hs2 fun A3 W3 hs3 => ⟨_, _, _, ⟨(L + 1), (k + 1), (fun j : Int => if j = (L : Int) then ((F ((k : Int) + (-1))) + (0 - ((Int.tmod (((flat1 s (flat1 p ((k : Int) + (-1)))) - (flat1 s (flat1 p (k : Int)))) + 2048) 4096) + 2048))) else F j), ?_, rfl, .inr ⟨rfl, rfl, ?_⟩⟩, ?_, hs3⟩
             · first
                 | (exfalso; omega)
                 | (have hnb : nb C (flat1 p ((k : Int) + -1)) (flat1 p (k : Int)) := by
                     rw [nb_iff hC1 (by assumption) (by assumption)]
                     unfold nbR sz
                     simp only [f1, f2, f4, f5, f6, f7, f8, f10, f11, f12, f17, f20, f22, f23, f24, f25, f26, f29, f33, f35, if_true, if_false]
                     try omega
                    refine ⟨by omega, by omega, fun j hj => ?_, fun j hj => ?_⟩
                    · rcases Nat.lt_or_ge j k with g | g
                      · exact hz j g
                      · obtain rfl : j = k := by omega
                        unfold acode
                        simp [f1, f2, f4, f5, f6, f7, f8, f10, f11, f12, f17, f20, f22, f23, f24, f25, f26, f29, f33, f35, hnb]
                        try omega
                    · dsimp only
                      rcases Nat.lt_or_ge j k with g | g
                      · rw [if_neg (by omega)]
                        exact hFe j g
                      · obtain rfl : j = k := by omega
                        rw [if_pos (by omega), aval_step hcond, hF1]
                        unfold stp wrp
                        simp only [f1, f2, f4, f5, f6, f7, f8, f10, f11, f12, f17, f20, f22, f23, f24, f25, f26, f29, f33, f35, if_true, if_false]
                        try omega)
             · omega
             · show m - ((k + 1 : Nat) : Int).toNat < m - ((k : Nat) : Int).toNat
               omega
          ·
           have hF : Facts [((.le (.var 3) (.var 5)), false), ((.le (.lit (0)) (.var 5)), true), ((.inr .i64 (.add (.var 2) (.lit (-1)))), true), ((.le (.lit (0)) (.sel (.avar 1) (.var 5))), true), ((.le (.sel (.avar 1) (.var 5)) (.add (.var 2) (.lit (-1)))), true), ((.le (.var 2) (.sel (.avar 1) (.var 5))), false), ((.eq (.sel (.avar 0) (.sel (.avar 1) (.var 5))) (.lit (1000000000000))), false), ((.eq (.var 5) (.lit (0))), false), ((.inr .i64 (.add (.var 5) (.lit (-1)))), true), ((.le (.lit (0)) (.add (.var 5) (.lit (-1)))), true), ((.le (.var 3) (.add (.var 5) (.lit (-1)))), false), ((.eq (.var 1) (.lit (0))), false), ((.inr .i64 (.quo (.sel (.avar 1) (.add (.var 5) (.lit (-1)))) (.var 1))), true), ((.inr .i64 (.quo (.sel (.avar 1) (.var 5)) (.var 1))), true), ((.inr .i64 (.sub (.quo (.sel (.avar 1) (.add (.var 5) (.lit (-1)))) (.var 1)) (.quo (.sel (.avar 1) (.var 5)) (.var 1)))), true), ((.inr .i64 (.sub (.lit (0)) (.sub (.quo (.sel (.avar 1) (.add (.var 5) (.lit (-1)))) (.var 1)) (.quo (.sel (.avar 1) (.var 5)) (.var 1))))), true), ((.le (.sub (.lit (0)) (.sub (.quo (.sel (.avar 1) (.add (.var 5) (.lit (-1)))) (.var 1)) (.quo (.sel (.avar 1) (.var 5)) (.var 1)))) (.sub (.quo (.sel (.avar 1) (.add (.var 5) (.lit (-1)))) (.var 1)) (.quo (.sel (.avar 1) (.var 5)) (.var 1)))), true), ((.inr .i64 (.sub (.rem (.sel (.avar 1) (.add (.var 5) (.lit (-1)))) (.var 1)) (.rem (.sel (.avar 1) (.var 5)) (.var 1)))), true), ((.inr .i64 (.sub (.lit (0)) (.sub (.rem (.sel (.avar 1) (.add (.var 5) (.lit (-1)))) (.var 1)) (.rem (.sel (.avar 1) (.var 5)) (.var 1))))), true), ((.le (.sub (.lit (0)) (.sub (.rem (.sel (.avar 1) (.add (.var 5) (.lit (-1)))) (.var 1)) (.rem (.sel (.avar 1) (.var 5)) (.var 1)))) (.sub (.rem (.sel (.avar 1) (.add (.var 5) (.lit (-1)))) (.var 1)) (.rem (.sel (.avar 1) (.var 5)) (.var 1)))), false), ((.inr .i64 (.add (.sub (.quo (.sel (.avar 1) (.add (.var 5) (.lit (-1)))) (.var 1)) (.quo (.sel (.avar 1) (.var 5)) (.var 1))) (.sub (.lit (0)) (.sub (.rem (.sel (.avar 1) (.add (.var 5) (.lit (-1)))) (.var 1)) (.rem (.sel (.avar 1) (.var 5)) (.var 1)))))), true), ((.eq (.add (.sub (.quo (.sel (.avar 1) (.add (.var 5) (.lit (-1)))) (.var 1)) (.quo (.sel (.avar 1) (.var 5)) (.var 1))) (.sub (.lit (0)) (.sub (.rem (.sel (.avar 1) (.add (.var 5) (.lit (-1)))) (.var 1)) (.rem (.sel (.avar 1) (.var 5)) (.var 1))))) (.lit (1))), false)] := ⟨f_nle f1 rfl rfl, f_le f2 rfl rfl, f_in f3 rfl, f_le f4 rfl rfl, f_le f5 rfl rfl, f_nle f6 rfl rfl, f_ne f7 rfl rfl, f_ne f8 rfl rfl, f_in f9 rfl, f_le f10 rfl rfl, f_nle f11 rfl rfl, f_ne f12 rfl rfl, f_in f13 rfl, f_in f14 rfl, f_in f15 rfl, f_in f16 rfl, f_le f17 rfl rfl, f_in f18 rfl, f_in f19 rfl, f_nle f20 rfl rfl, f_in f21 rfl, f_ne f22 rfl rfl, trivial⟩
           refine out_run (P := Try.prog) (K := noK) (fl := []) (by kernel_rfl) noK_ok (facD_ok hF) hs2 (fin_gen (r := (.tup [(.pl (.slice none 0 0)), (.pl (.int .i64 (14)))])) (h' := { bl := [some (.row (.avar 50) (.var 4) 3 1), some (.cells [(.si .i64 (.sel (.avar 0) (.sel (.avar 1) (.lit (0)))))] 3 false), some (.cells [(.si .i64 (.var 0)), (.si .i64 (.var 1)), (.fsl 0 1 (.lit (0)) (.var 2))] 40 false)], n := 3, base := 0, ch := [] }) (by kernel_rfl) fun V mb gb v W' hv hw hbel => ?_)
           obtain rfl := rep_den _ (.tuple #[.slice none 0 0, .int .i64 14]) _ rfl hv
           first
             | (exfalso; omega)
             | (have hnb : ¬ nb C (flat1 p ((k : Int) + -1)) (flat1 p (k : Int)) := by
                  rw [nb_iff hC1 (by assumption) (by assumption)]
                  unfold nbR sz
                  simp only [f1, f2, f4, f5, f6, f7, f8, f10, f11, f12, f17, f20, f22, if_true, if_false]
                  first | assumption | exact not_false | (intro hx; exact hx) | (intro hx; exact absurd hx (by simp)) | omega
                have hc : acode C n (flat1 s) (flat1 p) k = 14 := by
                 unfold acode
                 simp [f1, f2, f4, f5, f6, f7, f8, f10, f11, f12, f17, f20, f22, hnb]
                 try omega
                have e : rErr C n s m p = 14 := by rw [rErr_in hm200, fw_hit (k := k) hz (by rw [hc]; decide) (by omega), hc]
                exact ⟨.inl ⟨by rw [e]; decide, by rw [e]⟩, hbel⟩)
        ·
         have f18 : (-9223372036854775808 : Int) ≤ ((Int.tmod (flat1 p ((k : Int) + (-1))) C) - (Int.tmod (flat1 p (k : Int)) C)) ∧ ((Int.tmod (flat1 p ((k : Int) + (-1))) C) - (Int.tmod (flat1 p (k : Int)) C)) ≤ 9223372036854775807 := by
          first | omega | (have h := hob (by assumption) (by assumption) (by assumption); have q6 := td_bound (a := flat1 p ((k : Int) + -1)) hp1 hC1; have q7 := td_bound (a := flat1 p (k : Int)) (by assumption) hC1; omega)
         have f19 : (-9223372036854775808 : Int) ≤ (0 - ((Int.tmod (flat1 p ((k : Int) + (-1))) C) - (Int.tmod (flat1 p (k : Int)) C))) ∧ (0 - ((Int.tmod (flat1 p ((k : Int) + (-1))) C) - (Int.tmod (flat1 p (k : Int)) C))) ≤ 9223372036854775807 := by
          first | omega | (have h := hob (by assumption) (by assumption) (by assumption); have q6 := td_bound (a := flat1 p ((k : Int) + -1)) hp1 hC1; have q7 := td_bound (a := flat1 p (k : Int)) (by assumption) hC1; omega)
         by_cases f20 : (0 - ((Int.tmod (flat1 p ((k : Int) + (-1))) C) - (Int.tmod (flat1 p (k : Int)) C))) ≤ ((Int.tmod (flat1 p ((k : Int) + (-1))) C) - (Int.tmod (flat1 p (k : Int)) C))
         ·
          have f21 : (-9223372036854775808 : Int) ≤ ((0 - ((Int.tdiv (flat1 p ((k : Int) + (-1))) C) - (Int.tdiv (flat1 p (k : Int)) C))) + ((Int.tmod (flat1 p ((k : Int) + (-1))) C) - (Int.tmod (flat1 p (k : Int)) C))) ∧ ((0 - ((Int.tdiv (flat1 p ((k : Int) + (-1))) C) - (Int.tdiv (flat1 p (k : Int)) C))) + ((Int.tmod (flat1 p ((k : Int) + (-1))) C) - (Int.tmod (flat1 p (k : Int)) C))) ≤ 9223372036854775807 := by
           first | omega | (have h := hob (by assumption) (by assumption) (by assumption); have q6 := td_bound (a := flat1 p ((k : Int) + -1)) hp1 hC1; have q7 := td_bound (a := flat1 p (k : Int)) (by assumption) hC1; omega)
          by_cases f22 : ((0 - ((Int.tdiv (flat1 p ((k : Int) + (-1))) C) - (Int.tdiv (flat1 p (k : Int)) C))) + ((Int.tmod (flat1 p ((k : Int) + (-1))) C) - (Int.tmod (flat1 p (k : Int)) C))) = 1
          ·
           by_cases f23 : (flat1 p ((k : Int) + (-1))) ≤ (flat1 p (k : Int))
           ·
            have f24 : (0 ≤ (flat1 p ((k : Int) + (-1)))) := by
             first | omega | (have h := hob (by assumption) (by assumption) (by assumption); have q6 := td_bound (a := flat1 p ((k : Int) + -1)) hp1 hC1; have q7 := td_bound (a := flat1 p (k : Int)) (by assumption) hC1; omega)
            have f25 : ¬ ((n : Int) ≤ (flat1 p ((k : Int) + (-1)))) := by
             first | omega | (have h := hob (by assumption) (by assumption) (by assumption); have q6 := td_bound (a := flat1 p ((k : Int) + -1)) hp1 hC1; have q7 := td_bound (a := flat1 p (k : Int)) (by assumption) hC1; omega)
            have f26 : (-9223372036854775808 : Int) ≤ ((flat1 s (flat1 p (k : Int))) - (flat1 s (flat1 p ((k : Int) + (-1))))) ∧ ((flat1 s (flat1 p (k : Int))) - (flat1 s (flat1 p ((k : Int) + (-1))))) ≤ 9223372036854775807 := by
             first | omega | (have h := hob (by assumption) (by assumption) (by assumption); have q6 := td_bound (a := flat1 p ((k : Int) + -1)) hp1 hC1; have q7 := td_bound (a := flat1 p (k : Int)) (by assumption) hC1; omega)
            have f27 : (-9223372036854775808 : Int) ≤ (((flat1 s (flat1 p (k : Int))) - (flat1 s (flat1 p ((k : Int) + (-1))))) + 2048) ∧ (((flat1 s (flat1 p (k : Int))) - (flat1 s (flat1 p ((k : Int) + (-1))))) + 2048) ≤ 9223372036854775807 := by
             first | omega | (have h := hob (by assumption) (by assumption) (by assumption); have q6 := td_bound (a := flat1 p ((k : Int) + -1)) hp1 hC1; have q7 := td_bound (a := flat1 p (k : Int)) (by assumption) hC1; omega)
            by_cases f28 : 0 ≤ (Int.tmod (((flat1 s (flat1 p (k : Int))) - (flat1 s (flat1 p ((k : Int) + (-1))))) + 2048) 4096)
            ·
             have f29 : (-9223372036854775808 : Int) ≤ ((Int.tmod (((flat1 s (flat1 p (k : Int))) - (flat1 s (flat1 p ((k : Int) + (-1))))) + 2048) 4096) + (-2048)) ∧ ((Int.tmod (((flat1 s (flat1 p (k : Int))) - (flat1 s (flat1 p ((k : Int) + (-1))))) + 2048) 4096) + (-2048)) ≤ 9223372036854775807 := by
              first | omega | (have h := hob (by assumption) (by assumption) (by assumption); have q6 := td_bound (a := flat1 p ((k : Int) + -1)) hp1 hC1; have q7 := td_bound (a := flat1 p (k : Int)) (by assumption) hC1; omega)
             have f30 : ¬ ((L : Int) ≤ ((k : Int) + (-1))) := by
              first | omega | (have h := hob (by assumption) (by assumption) (by assumption); have q6 := td_bound (a := flat1 p ((k : Int) + -1)) hp1 hC1; have q7 := td_bound (a := flat1 p (k : Int)) (by assumption) hC1; omega)
             have f31 : (-9223372036854775808 : Int) ≤ ((F ((k : Int) + (-1))) + ((Int.tmod (((flat1 s (flat1 p (k : Int))) - (flat1 s (flat1 p ((k : Int) + (-1))))) + 2048) 4096) + (-2048))) ∧ ((F ((k : Int) + (-1))) + ((Int.tmod (((flat1 s (flat1 p (k : Int))) - (flat1 s (flat1 p ((k : Int) + (-1))))) + 2048) 4096) + (-2048))) ≤ 9223372036854775807 := by
              first | omega | (have h := hob (by assumption) (by assumption) (by assumption); have q6 := td_bound (a := flat1 p ((k : Int) + -1)) hp1 hC1; have q7 := td_bound (a := flat1 p (k : Int)) (by assumption) hC1; omega)
             have f32 : ((L : Int) ≤ 99999) := by
              first | omega | (have h := hob (by assumption) (by assumption) (by assumption); have q6 := td_bound (a := flat1 p ((k : Int) + -1)) hp1 hC1; have q7 := td_bound (a := flat1 p (k : Int)) (by assumption) hC1; omega)
             have f33 : (-9223372036854775808 : Int) ≤ ((k : Int) + 1) ∧ ((k : Int) + 1) ≤ 9223372036854775807 := by
              first | omega | (have h := hob (by assumption) (by assumption) (by assumption); have q6 := td_bound (a := flat1 p ((k : Int) + -1)) hp1 hC1; have q7 := td_bound (a := flat1 p (k : Int)) (by assumption) hC1; omega)
             have hF : Facts [((.le (.var 3) (.var 5)), false), ((.le (.lit (0)) (.var 5)), true), ((.inr .i64 (.add (.var 2) (.lit (-1)))), true), ((.le (.lit (0)) (.sel (.avar 1) (.var 5))), true), ((.le (.sel (.avar 1) (.var 5)) (.add (.var 2) (.lit (-1)))), true), ((.le (.var 2) (.sel (.avar 1) (.var 5))), false), ((.eq (.sel (.avar 0) (.sel (.avar 1) (.var 5))) (.lit (1000000000000))), false), ((.eq (.var 5) (.lit (0))), false), ((.inr .i64 (.add (.var 5) (.lit (-1)))), true), ((.le (.lit (0)) (.add (.var 5) (.lit (-1)))), true), ((.le (.var 3) (.add (.var 5) (.lit (-1)))), false), ((.eq (.var 1) (.lit (0))), false), ((.inr .i64 (.quo (.sel (.avar 1) (.add (.var 5) (.lit (-1)))) (.var 1))), true), ((.inr .i64 (.quo (.sel (.avar 1) (.var 5)) (.var 1))), true), ((.inr .i64 (.sub (.quo (.sel (.avar 1) (.add (.var 5) (.lit (-1)))) (.var 1)) (.quo (.sel (.avar 1) (.var 5)) (.var 1)))), true), ((.inr .i64 (.sub (.lit (0)) (.sub (.quo (.sel (.avar 1) (.add (.var 5) (.lit (-1)))) (.var 1)) (.quo (.sel (.avar 1) (.var 5)) (.var 1))))), true), ((.le (.sub (.lit (0)) (.sub (.quo (.sel (.avar 1) (.add (.var 5) (.lit (-1)))) (.var 1)) (.quo (.sel (.avar 1) (.var 5)) (.var 1)))) (.sub (.quo (.sel (.avar 1) (.add (.var 5) (.lit (-1)))) (.var 1)) (.quo (.sel (.avar 1) (.var 5)) (.var 1)))), false), ((.inr .i64 (.sub (.rem (.sel (.avar 1) (.add (.var 5) (.lit (-1)))) (.var 1)) (.rem (.sel (.avar 1) (.var 5)) (.var 1)))), true), ((.inr .i64 (.sub (.lit (0)) (.sub (.rem (.sel (.avar 1) (.add (.var 5) (.lit (-1)))) (.var 1)) (.rem (.sel (.avar 1) (.var 5)) (.var 1))))), true), ((.le (.sub (.lit (0)) (.sub (.rem (.sel (.avar 1) (.add (.var 5) (.lit (-1)))) (.var 1)) (.rem (.sel (.avar 1) (.var 5)) (.var 1)))) (.sub (.rem (.sel (.avar 1) (.add (.var 5) (.lit (-1)))) (.var 1)) (.rem (.sel (.avar 1) (.var 5)) (.var 1)))), true), ((.inr .i64 (.add (.sub (.lit (0)) (.sub (.quo (.sel (.avar 1) (.add (.var 5) (.lit (-1)))) (.var 1)) (.quo (.sel (.avar 1) (.var 5)) (.var 1)))) (.sub (.rem (.sel (.avar 1) (.add (.var 5) (.lit (-1)))) (.var 1)) (.rem (.sel (.avar 1) (.var 5)) (.var 1))))), true), ((.eq (.add (.sub (.lit (0)) (.sub (.quo (.sel (.avar 1) (.add (.var 5) (.lit (-1)))) (.var 1)) (.quo (.sel (.avar 1) (.var 5)) (.var 1)))) (.sub (.rem (.sel (.avar 1) (.add (.var 5) (.lit (-1)))) (.var 1)) (.rem (.sel (.avar 1) (.var 5)) (.var 1)))) (.lit (1))), true), ((.le (.sel (.avar 1) (.add (.var 5) (.lit (-1)))) (.sel (.avar 1) (.var 5))), true), ((.le (.lit (0)) (.sel (.avar 1) (.add (.var 5) (.lit (-1))))), true), ((.le (.var 2) (.sel (.avar 1) (.add (.var 5) (.lit (-1))))), false), ((.inr .i64 (.sub (.sel (.avar 0) (.sel (.avar 1) (.var 5))) (.sel (.avar 0) (.sel (.avar 1) (.add (.var 5) (.lit (-1))))))), true), ((.inr .i64 (.add (.sub (.sel (.avar 0) (.sel (.avar 1) (.var 5))) (.sel (.avar 0) (.sel (.avar 1) (.add (.var 5) (.lit (-1)))))) (.lit (2048)))), true), ((.le (.lit (0)) (.rem (.add (.sub (.sel (.avar 0) (.sel (.avar 1) (.var 5))) (.sel (.avar 0) (.sel (.avar 1) (.add (.var 5) (.lit (-1)))))) (.lit (2048))) (.lit (4096)))), true), ((.inr .i64 (.add (.rem (.add (.sub (.sel (.avar 0) (.sel (.avar 1) (.var 5))) (.sel (.avar 0) (.sel (.avar 1) (.add (.var 5) (.lit (-1)))))) (.lit (2048))) (.lit (4096))) (.lit (-2048)))), true), ((.le (.var 4) (.add (.var 5) (.lit (-1)))), false), ((.inr .i64 (.add (.sel (.avar 50) (.add (.var 5) (.lit (-1)))) (.add (.rem (.add (.sub (.sel (.avar 0) (.sel (.avar 1) (.var 5))) (.sel (.avar 0) (.sel (.avar 1) (.add (.var 5) (.lit (-1)))))) (.lit (2048))) (.lit (4096))) (.lit (-2048))))), true), ((.le (.var 4) (.lit (99999))), true), ((.inr .i64 (.add (.var 5) (.lit (1)))), true)] := ⟨f_nle f1 rfl rfl, f_le f2 rfl rfl, f_in f3 rfl, f_le f4 rfl rfl, f_le f5 rfl rfl, f_nle f6 rfl rfl, f_ne f7 rfl rfl, f_ne f8 rfl rfl, f_in f9 rfl, f_le f10 rfl rfl, f_nle f11 rfl rfl, f_ne f12 rfl rfl, f_in f13 rfl, f_in f14 rfl, f_in f15 rfl, f_in f16 rfl, f_nle f17 rfl rfl, f_in f18 rfl, f_in f19 rfl, f_le f20 rfl rfl, f_in f21 rfl, f_eq f22 rfl rfl, f_le f23 rfl rfl, f_le f24 rfl rfl, f_nle f25 rfl rfl, f_in f26 rfl, f_in f27 rfl, f_le f28 rfl rfl, f_in f29 rfl, f_nle f30 rfl rfl, f_in f31 rfl, f_le f32 rfl rfl, f_in f33 rfl, trivial⟩
             refine again_runP (P := Try.prog) (K := noK) (fl := []) (B := 4) (l := [.mov 2 4]) (a' := ral1_1_a) (h' := ral1_1_h) (ρ' := rhoL W.heap.size ([R, C, (n : Int), (m : Int)] ++ [(((L + 1) : Nat) : Int), (((k + 1) : Nat) : Int)]) [⟨A, n, flat1 s⟩, ⟨B, m, flat1 p⟩] [] [(fun j : Int => if j = (L : Int) then ((F ((k : Int) + (-1))) + ((Int.tmod (((flat1 s (flat1 p (k : Int))) - (flat1 s (flat1 p ((k : Int) + (-1))))) + 2048) 4096) + (-2048))) else F j)]) (ds := [.int (.add (.var 4) (.lit (1))) (.var 4), .int (.add (.var 5) (.lit (1))) (.var 5), .row (.upd (.avar 50) (.var 4) (.add (.sel (.avar 50) (.add (.var 5) (.lit (-1)))) (.add (.rem (.add (.sub (.sel (.avar 0) (.sel (.avar 1) (.var 5))) (.sel (.avar 0) (.sel (.avar 1) (.add (.var 5) (.lit (-1)))))) (.lit (2048))) (.lit (4096))) (.lit (-2048))))) (.avar 50), .int (.add (.var 4) (.lit (1))) (.var 4)]) (by kernel_rfl) noK_ok (facD_ok hF) (by kernel_rfl) (agree_list (l := [R, C, (n : Int), (m : Int)]) (Nat.le_refl _) rfl) ⟨(show (((L : Int) + 1) : Int) = (((L + 1) : Nat) : Int) from by first | rfl | (push_cast; omega)), (show (((k : Int) + 1) : Int) = (((k + 1) : Nat) : Int) from by first | rfl | (push_cast; omega)), rfl, (show (((L : Int) + 1) : Int) = (((L + 1) : Nat) : Int) from by first | rfl | (push_cast; omega)), trivial⟩ hs2 fun A3 W3 hs3 => ⟨_, _, _, ⟨(L + 1), (k + 1), (fun j : Int => if j = (L : Int) then ((F ((k : Int) + (-1))) + ((Int.tmod (((flat1 s (flat1 p (k : Int))) - (flat1 s (flat1 p ((k : Int) + (-1))))) + 2048) 4096) + (-2048))) else F j), ?_, rfl, .inr ⟨rfl, rfl, ?_⟩⟩, ?_, hs3⟩
             · first
                 | (exfalso; omega)
                 | (have hnb : nb C (flat1 p ((k : Int) + -1)) (flat1 p (k : Int)) := by
                     rw [nb_iff hC1 (by assumption) (by assumption)]
                     unfold nbR sz
                     simp only [f1, f2, f4, f5, f6, f7, f8, f10, f11, f12, f17, f20, f22, f23, f24, f25, f28, f30, f32, if_true, if_false]
                     try omega
                    refine ⟨by omega, by omega, fun j hj => ?_, fun j hj => ?_⟩
                    · rcases Nat.lt_or_ge j k with g | g
                      · exact hz j g
                      · obtain rfl : j = k := by omega
                        unfold acode
                        simp [f1, f2, f4, f5, f6, f7, f8, f10, f11, f12, f17, f20, f22, f23, f24, f25, f28, f30, f32, hnb]
                        try omega
                    · dsimp only
                      rcases Nat.lt_or_ge j k with g | g
                      · rw [if_neg (by omega)]
                        exact hFe j g
                      · obtain rfl : j = k := by omega
                        rw [if_pos (by omega), aval_step hcond, hF1]
                        unfold stp wrp
                        simp only [f1, f2, f4, f5, f6, f7, f8, f10, f11, f12, f17, f20, f22, f23, f24, f25, f28, f30, f32, if_true, if_false]
                        try omega)
             · omega
             · show m - ((k + 1 : Nat) : Int).toNat < m - ((k : Nat) : Int).toNat
               omega
            ·
             have f29 : (-9223372036854775808 : Int) ≤ ((Int.tmod (((flat1 s (flat1 p (k : Int))) - (flat1 s (flat1 p ((k : Int) + (-1))))) + 2048) 4096) + 4096) ∧ ((Int.tmod (((flat1 s (flat1 p (k : Int))) - (flat1 s (flat1 p ((k : Int) + (-1))))) + 2048) 4096) + 4096) ≤ 9223372036854775807 := by
              first | omega | (have h := hob (by assumption) (by assumption) (by assumption); have q6 := td_bound (a := flat1 p ((k : Int) + -1)) hp1 hC1; have q7 := td_bound (a := flat1 p (k : Int)) (by assumption) hC1; omega)
             have f30 : (-9223372036854775808 : Int) ≤ ((Int.tmod (((flat1 s (flat1 p (k : Int))) - (flat1 s (flat1 p ((k : Int) + (-1))))) + 2048) 4096) + 2048) ∧ ((Int.tmod (((flat1 s (flat1 p (k : Int))) - (flat1 s (flat1 p ((k : Int) + (-1))))) + 2048) 4096) + 2048) ≤ 9223372036854775807 := by
              first | omega | (have h := hob (by assumption) (by assumption) (by assumption); have q6 := td_bound (a := flat1 p ((k : Int) + -1)) hp1 hC1; have q7 := td_bound (a := flat1 p (k : Int)) (by assumption) hC1; omega)
             have f31 : ¬ ((L : Int) ≤ ((k : Int) + (-1))) := by
              first | omega | (have h := hob (by assumption) (by assumption) (by assumption); have q6 := td_bound (a := flat1 p ((k : Int) + -1)) hp1 hC1; have q7 := td_bound (a := flat1 p (k : Int)) (by assumption) hC1; omega)
             have f32 : (-9223372036854775808 : Int) ≤ ((F ((k : Int) + (-1))) + ((Int.tmod (((flat1 s (flat1 p (k : Int))) - (flat1 s (flat1 p ((k : Int) + (-1))))) + 2048) 4096) + 2048)) ∧ ((F ((k : Int) + (-1))) + ((Int.tmod (((flat1 s (flat1 p (k : Int))) - (flat1 s (flat1 p ((k : Int) + (-1))))) + 2048) 4096) + 2048)) ≤ 9223372036854775807 := by
              first | omega | (have h := hob (by assumption) (by assumption) (by assumption); have q6 := td_bound (a := flat1 p ((k : Int) + -1)) hp1 hC1; have q7 := td_bound (a := flat1 p (k : Int)) (by assumption) hC1; omega)
             have f33 : ((L : Int) ≤ 99999) := by
              first | omega | (have h := hob (by assumption) (by assumption) (by assumption); have q6 := td_bound (a := flat1 p ((k : Int) + -1)) hp1 hC1; have q7 := td_bound (a := flat1 p (k : Int)) (by assumption) hC1; omega)
             have f34 : (-9223372036854775808 : Int) ≤ ((k : Int) + 1) ∧ ((k : Int) + 1) ≤ 9223372036854775807 := by
              first | omega | (have h := hob (by assumption) (by assumption) (by assumption); have q6 := td_bound (a := flat1 p ((k : Int) + -1)) hp1 hC1; have q7 := td_bound (a := flat1 p (k : Int)) (by assumption) hC1; omega)
             have hF : Facts [((.le (.var 3) (.var 5)), false), ((.le (.lit (0)) (.var 5)), true), ((.inr .i64 (.add (.var 2) (.lit (-1)))), true), ((.le (.lit (0)) (.sel (.avar 1) (.var 5))), true), ((.le (.sel (.avar 1) (.var 5)) (.add (.var 2) (.lit (-1)))), true), ((.le (.var 2) (.sel (.avar 1) (.var 5))), false), ((.eq (.sel (.avar 0) (.sel (.avar 1) (.var 5))) (.lit (1000000000000))), false), ((.eq (.var 5) (.lit (0))), false), ((.inr .i64 (.add (.var 5) (.lit (-1)))), true), ((.le (.lit (0)) (.add (.var 5) (.lit (-1)))), true), ((.le (.var 3) (.add (.var 5) (.lit (-1)))), false), ((.eq (.var 1) (.lit (0))), false), ((.inr .i64 (.quo (.sel (.avar 1) (.add (.var 5) (.lit (-1)))) (.var 1))), true), ((.inr .i64 (.quo (.sel (.avar 1) (.var 5)) (.var 1))), true), ((.inr .i64 (.sub (.quo (.sel (.avar 1) (.add (.var 5) (.lit (-1)))) (.var 1)) (.quo (.sel (.avar 1) (.var 5)) (.var 1)))), true), ((.inr .i64 (.sub (.lit (0)) (.sub (.quo (.sel (.avar 1) (.add (.var 5) (.lit (-1)))) (.var 1)) (.quo (.sel (.avar 1) (.var 5)) (.var 1))))), true), ((.le (.sub (.lit (0)) (.sub (.quo (.sel (.avar 1) (.add (.var 5) (.lit (-1)))) (.var 1)) (.quo (.sel (.avar 1) (.var 5)) (.var 1)))) (.sub (.quo (.sel (.avar 1) (.add (.var 5) (.lit (-1)))) (.var 1)) (.quo (.sel (.avar 1) (.var 5)) (.var 1)))), false), ((.inr .i64 (.sub (.rem (.sel (.avar 1) (.add (.var 5) (.lit (-1)))) (.var 1)) (.rem (.sel (.avar 1) (.var 5)) (.var 1)))), true), ((.inr .i64 (.sub (.lit (0)) (.sub (.rem (.sel (.avar 1) (.add (.var 5) (.lit (-1)))) (.var 1)) (.rem (.sel (.avar 1) (.var 5)) (.var 1))))), true), ((.le (.sub (.lit (0)) (.sub (.rem (.sel (.avar 1) (.add (.var 5) (.lit (-1)))) (.var 1)) (.rem (.sel (.avar 1) (.var 5)) (.var 1)))) (.sub (.rem (.sel (.avar 1) (.add (.var 5) (.lit (-1)))) (.var 1)) (.rem (.sel (.avar 1) (.var 5)) (.var 1)))), true), ((.inr .i64 (.add (.sub (.lit (0)) (.sub (.quo (.sel (.avar 1) (.add (.var 5) (.lit (-1)))) (.var 1)) (.quo (.sel (.avar 1) (.var 5)) (.var 1)))) (.sub (.rem (.sel (.avar 1) (.add (.var 5) (.lit (-1)))) (.var 1)) (.rem (.sel (.avar 1) (.var 5)) (.var 1))))), true), ((.eq (.add (.sub (.lit (0)) (.sub (.quo (.sel (.avar 1) (.add (.var 5) (.lit (-1)))) (.var 1)) (.quo (.sel (.avar 1) (.var 5)) (.var 1)))) (.sub (.rem (.sel (.avar 1) (.add (.var 5) (.lit (-1)))) (.var 1)) (.rem (.sel (.avar 1) (.var 5)) (.var 1)))) (.lit (1))), true), ((.le (.sel (.avar 1) (.add (.var 5) (.lit (-1)))) (.sel (.avar 1) (.var 5))), true), ((.le (.lit (0)) (.sel (.avar 1) (.add (.var 5) (.lit (-1))))), true), ((.le (.var 2) (.sel (.avar 1) (.add (.var 5) (.lit (-1))))), false), ((.inr .i64 (.sub (.sel (.avar 0) (.sel (.avar 1) (.var 5))) (.sel (.avar 0) (.sel (.avar 1) (.add (.var 5) (.lit (-1))))))), true), ((.inr .i64 (.add (.sub (.sel (.avar 0) (.sel (.avar 1) (.var 5))) (.sel (.avar 0) (.sel (.avar 1) (.add (.var 5) (.lit (-1)))))) (.lit (2048)))), true), ((.le (.lit (0)) (.rem (.add (.sub (.sel (.avar 0) (.sel (.avar 1) (.var 5))) (.sel (.avar 0) (.sel (.avar 1) (.add (.var 5) (.lit (-1)))))) (.lit (2048))) (.lit (4096)))), false), ((.inr .i64 (.add (.rem (.add (.sub (.sel (.avar 0) (.sel (.avar 1) (.var 5))) (.sel (.avar 0) (.sel (.avar 1) (.add (.var 5) (.lit (-1)))))) (.lit (2048))) (.lit (4096))) (.lit (4096)))), true), ((.inr .i64 (.add (.rem (.add (.sub (.sel (.avar 0) (.sel (.avar 1) (.var 5))) (.sel (.avar 0) (.sel (.avar 1) (.add (.var 5) (.lit (-1)))))) (.lit (2048))) (.lit (4096))) (.lit (2048)))), true), ((.le (.var 4) (.add (.var 5) (.lit (-1)))), false), ((.inr .i64 (.add (.sel (.avar 50) (.add (.var 5) (.lit (-1)))) (.add (.rem (.add (.sub (.sel (.avar 0) (.sel (.avar 1) (.var 5))) (.sel (.avar 0) (.sel (.avar 1) (.add (.var 5) (.lit (-1)))))) (.lit (2048))) (.lit (4096))) (.lit (2048))))), true), ((.le (.var 4) (.lit (99999))), true), ((.inr .i64 (.add (.var 5) (.lit (1)))), true)] := ⟨f_nle f1 rfl rfl, f_le f2 rfl rfl, f_in f3 rfl, f_le f4 rfl rfl, f_le f5 rfl rfl, f_nle f6 rfl rfl, f_ne f7 rfl rfl, f_ne f8 rfl rfl, f_in f9 rfl, f_le f10 rfl rfl, f_nle f11 rfl rfl, f_ne f12 rfl rfl, f_in f13 rfl, f_in f14 rfl, f_in f15 rfl, f_in f16 rfl, f_nle f17 rfl rfl, f_in f18 rfl, f_in f19 rfl, f_le f20 rfl rfl, f_in f21 rfl, f_eq f22 rfl rfl, f_le f23 rfl rfl, f_le f24 rfl rfl, f_nle f25 rfl rfl, f_in f26 rfl, f_in f27 rfl, f_nle f28 rfl rfl, f_in f29 rfl, f_in f30 rfl, f_nle f31 rfl rfl, f_in f32 rfl, f_le f33 rfl rfl, f_in f34 rfl, trivial⟩
             refine again_runP (P := Try.prog) (K := noK) (fl := []) (B := 4) (l := [.mov 2 4]) (a' := ral1_1_a) (h' := ral1_1_h) (ρ' := rhoL W.heap.size ([R, C, (n : Int), (m : Int)] ++ [(((L + 1) : Nat) : Int), (((k + 1) : Nat) : Int)]) [⟨A, n, flat1 s⟩, ⟨B, m, flat1 p⟩] [] [(fun j : Int => if j = (L : Int) then ((F ((k : Int) + (-1))) + ((Int.tmod (((flat1 s (flat1 p (k : Int))) - (flat1 s (flat1 p ((k : Int) + (-1))))) + 2048) 4096) + 2048)) else F j)]) (ds := [.int (.add (.var 4) (.lit (1))) (.var 4), .int (.add (.var 5) (.lit (1))) (.var 5), .row (.upd (.avar 50) (.var 4) (.add (.sel (.avar 50) (.add (.var 5) (.lit (-1)))) (.add (.rem (.add (.sub (.sel (.avar 0) (.sel (.avar 1) (.var 5))) (.sel (.avar 0) (.sel (.avar 1) (.add (.var 5) (.lit (-1)))))) (.lit (2048))) (.lit (4096))) (.lit (2048))))) (.avar 50), .int (.add (.var 4) (.lit (1))) (.var 4)]) (by kernel_rfl) noK_ok (facD_ok hF) (by kernel_rfl) (agree_list (l := [R, C, (n : Int), (m : Int)]) (Nat.le_refl _) rfl) ⟨(show (((L : Int) + 1) : Int) = (((L + 1) : Nat) : Int) from by first | rfl | (push_cast; omega)), (show (((k : Int) + 1) : Int) = (((k + 1) : Nat) : Int) from by first | rfl | (push_cast; omega)), rfl, (show (((L : Int) + 1) : Int) = (((L + 1) : Nat) : Int) from by first | rfl | (push_cast; omega)), trivial⟩ hs2 fun A3 W3 hs3 => ⟨_, _, _, ⟨(L + 1), (k + 1), (fun j : Int => if j = (L : Int) then ((F ((k : Int) + (-1))) + ((Int.tmod (((flat1 s (flat1 p (k : Int))) - (flat1 s (flat1 p ((k : Int) + (-1))))) + 2048) 4096) + 2048)) else F j), ?_, rfl, .inr ⟨rfl, rfl, ?_⟩⟩, ?_, hs3⟩
             · first
                 | (exfalso; omega)
                 | (have hnb : nb C (flat1 p ((k : Int) + -1)) (flat1 p (k : Int)) := by
                     rw [nb_iff hC1 (by assumption) (by assumption)]
                     unfold nbR sz
                     simp only [f1, f2, f4, f5, f6, f7, f8, f10, f11, f12, f17, f20, f22, f23, f24, f25, f28, f31, f33, if_true, if_false]
                     try omega
                    refine ⟨by omega, by omega, fun j hj => ?_, fun j hj => ?_⟩
                    · rcases Nat.lt_or_ge j k with g | g
                      · exact hz j g
                      · obtain rfl : j = k := by omega
                        unfold acode
                        simp [f1, f2, f4, f5, f6, f7, f8, f10, f11, f12, f17, f20, f22, f23, f24, f25, f28, f31, f33, hnb]
                        try omega
                    · dsimp only
                      rcases Nat.lt_or_ge j k with g | g
                      · rw [if_neg (by omega)]
                        exact hFe j g
                      · obtain rfl : j = k := by omega
                        rw [if_pos (by omega), aval_step hcond, hF1]
                        unfold stp wrp
                        simp only [f1, f2, f4, f5, f6, f7, f8, f10, f11, f12, f17, f20, f22, f23, f24, f25, f28, f31, f33, if_true, if_false]
                        try omega)
             · omega
             · show m - ((k + 1 : Nat) : Int).toNat < m - ((k : Nat) : Int).toNat
               omega
           ·
            have f24 : ((flat1 p (k : Int)) ≤ (flat1 p ((k : Int) + (-1)))) := by
             first | omega | (have h := hob (by assumption) (by assumption) (by assumption); have q6 := td_bound (a := flat1 p ((k : Int) + -1)) hp1 hC1; have q7 := td_bound (a := flat1 p (k : Int)) (by assumption) hC1; omega)
            have f25 : (0 ≤ (flat1 p ((k : Int) + (-1)))) := by
             first | omega | (have h := hob (by assumption) (by assumption) (by assumption); have q6 := td_bound (a := flat1 p ((k : Int) + -1)) hp1 hC1; have q7 := td_bound (a := flat1 p (k : Int)) (by assumption) hC1; omega)
            have f26 : ¬ ((n : Int) ≤ (flat1 p ((k : Int) + (-1)))) := by
             first | omega | (have h := hob (by assumption) (by assumption) (by assumption); have q6 := td_bound (a := flat1 p ((k : Int) + -1)) hp1 hC1; have q7 := td_bound (a := flat1 p (k : Int)) (by assumption) hC1; omega)
            have f27 : (-9223372036854775808 : Int) ≤ ((flat1 s (flat1 p ((k : Int) + (-1)))) - (flat1 s (flat1 p (k : Int)))) ∧ ((flat1 s (flat1 p ((k : Int) + (-1)))) - (flat1 s (flat1 p (k : Int)))) ≤ 9223372036854775807 := by
             first | omega | (have h := hob (by assumption) (by assumption) (by assumption); have q6 := td_bound (a := flat1 p ((k : Int) + -1)) hp1 hC1; have q7 := td_bound (a := flat1 p (k : Int)) (by assumption) hC1; omega)
            have f28 : (-9223372036854775808 : Int) ≤ (((flat1 s (flat1 p ((k : Int) + (-1)))) - (flat1 s (flat1 p (k : Int)))) + 2048) ∧ (((flat1 s (flat1 p ((k : Int) + (-1)))) - (flat1 s (flat1 p (k : Int)))) + 2048) ≤ 9223372036854775807 := by
             first | omega | (have h := hob (by assumption) (by assumption) (by assumption); have q6 := td_bound (a := flat1 p ((k : Int) + -1)) hp1 hC1; have q7 := td_bound (a := flat1 p (k : Int)) (by assumption) hC1; omega)
            by_cases f29 : 0 ≤ (Int.tmod (((flat1 s (flat1 p ((k : Int) + (-1)))) - (flat1 s (flat1 p (k : Int)))) + 2048) 4096)
            ·
             have f30 : (-9223372036854775808 : Int) ≤ ((Int.tmod (((flat1 s (flat1 p ((k : Int) + (-1)))) - (flat1 s (flat1 p (k : Int)))) + 2048) 4096) + (-2048)) ∧ ((Int.tmod (((flat1 s (flat1 p ((k : Int) + (-1)))) - (flat1 s (flat1 p (k : Int)))) + 2048) 4096) + (-2048)) ≤ 9223372036854775807 := by
              first | omega | (have h := hob (by assumption) (by assumption) (by assumption); have q6 := td_bound (a := flat1 p ((k : Int) + -1)) hp1 hC1; have q7 := td_bound (a := flat1 p (k : Int)) (by assumption) hC1; omega)
             have f31 : (-9223372036854775808 : Int) ≤ (0 - ((Int.tmod (((flat1 s (flat1 p ((k : Int) + (-1)))) - (flat1 s (flat1 p (k : Int)))) + 2048) 4096) + (-2048))) ∧ (0 - ((Int.tmod (((flat1 s (flat1 p ((k : Int) + (-1)))) - (flat1 s (flat1 p (k : Int)))) + 2048) 4096) + (-2048))) ≤ 9223372036854775807 := by
              first | omega | (have h := hob (by assumption) (by assumption) (by assumption); have q6 := td_bound (a := flat1 p ((k : Int) + -1)) hp1 hC1; have q7 := td_bound (a := flat1 p (k : Int)) (by assumption) hC1; omega)
             have f32 : ¬ ((L : Int) ≤ ((k : Int) + (-1))) := by
              first | omega | (have h := hob (by assumption) (by assumption) (by assumption); have q6 := td_bound (a := flat1 p ((k : Int) + -1)) hp1 hC1; have q7 := td_bound (a := flat1 p (k : Int)) (by assumption) hC1; omega)
             have f33 : (-9223372036854775808 : Int) ≤ ((F ((k : Int) + (-1))) + (0 - ((Int.tmod (((flat1 s (flat1 p ((k : Int) + (-1)))) - (flat1 s (flat1 p (k : Int)))) + 2048) 4096) + (-2048)))) ∧ ((F ((k : Int) + (-1))) + (0 - ((Int.tmod (((flat1 s (flat1 p ((k : Int) + (-1)))) - (flat1 s (flat1 p (k : Int)))) + 2048) 4096) + (-2048)))) ≤ 9223372036854775807 := by
              first | omega | (have h := hob (by assumption) (by assumption) (by assumption); have q6 := td_bound (a := flat1 p ((k : Int) + -1)) hp1 hC1; have q7 := td_bound (a := flat1 p (k : Int)) (by assumption) hC1; omega)
             have f34 : ((L : Int) ≤ 99999) := by
              first | omega | (have h := hob (by assumption) (by assumption) (by assumption); have q6 := td_bound (a := flat1 p ((k : Int) + -1)) hp1 hC1; have q7 := td_bound (a := flat1 p (k : Int)) (by assumption) hC1; omega)
             have f35 : (-9223372036854775808 : Int) ≤ ((k : Int) + 1) ∧ ((k : Int) + 1) ≤ 9223372036854775807 := by
              first | omega | (have h := hob (by assumption) (by assumption) (by assumption); have q6 := td_bound (a := flat1 p ((k : Int) + -1)) hp1 hC1; have q7 := td_bound (a := flat1 p (k : Int)) (by assumption) hC1; omega)
             have hF : Facts [((.le (.var 3) (.var 5)), false), ((.le (.lit (0)) (.var 5)), true), ((.inr .i64 (.add (.var 2) (.lit (-1)))), true), ((.le (.lit (0)) (.sel (.avar 1) (.var 5))), true), ((.le (.sel (.avar 1) (.var 5)) (.add (.var 2) (.lit (-1)))), true), ((.le (.var 2) (.sel (.avar 1) (.var 5))), false), ((.eq (.sel (.avar 0) (.sel (.avar 1) (.var 5))) (.lit (1000000000000))), false), ((.eq (.var 5) (.lit (0))), false), ((.inr .i64 (.add (.var 5) (.lit (-1)))), true), ((.le (.lit (0)) (.add (.var 5) (.lit (-1)))), true), ((.le (.var 3) (.add (.var 5) (.lit (-1)))), false), ((.eq (.var 1) (.lit (0))), false), ((.inr .i64 (.quo (.sel (.avar 1) (.add (.var 5) (.lit (-1)))) (.var 1))), true), ((.inr .i64 (.quo (.sel (.avar 1) (.var 5)) (.var 1))), true), ((.inr .i64 (.sub (.quo (.sel (.avar 1) (.add (.var 5) (.lit (-1)))) (.var 1)) (.quo (.sel (.avar 1) (.var 5)) (.var 1)))), true), ((.inr .i64 (.sub (.lit (0)) (.sub (.quo (.sel (.avar 1) (.add (.var 5) (.lit (-1)))) (.var 1)) (.quo (.sel (.avar 1) (.var 5)) (.var 1))))), true), ((.le (.sub (.lit (0)) (.sub (.quo (.sel (.avar 1) (.add (.var 5) (.lit (-1)))) (.var 1)) (.quo (.sel (.avar 1) (.var 5)) (.var 1)))) (.sub (.quo (.sel (.avar 1) (.add (.var 5) (.lit (-1)))) (.var 1)) (.quo (.sel (.avar 1) (.var 5)) (.var 1)))), false), ((.inr .i64 (.sub (.rem (.sel (.avar 1) (.add (.var 5) (.lit (-1)))) (.var 1)) (.rem (.sel (.avar 1) (.var 5)) (.var 1)))), true), ((.inr .i64 (.sub (.lit (0)) (.sub (.rem (.sel (.avar 1) (.add (.var 5) (.lit (-1)))) (.var 1)) (.rem (.sel (.avar 1) (.var 5)) (.var 1))))), true), ((.le (.sub (.lit (0)) (.sub (.rem (.sel (.avar 1) (.add (.var 5) (.lit (-1)))) (.var 1)) (.rem (.sel (.avar 1) (.var 5)) (.var 1)))) (.sub (.rem (.sel (.avar 1) (.add (.var 5) (.lit (-1)))) (.var 1)) (.rem (.sel (.avar 1) (.var 5)) (.var 1)))), true), ((.inr .i64 (.add (.sub (.lit (0)) (.sub (.quo (.sel (.avar 1) (.add (.var 5) (.lit (-1)))) (.var 1)) (.quo (.sel (.avar 1) (.var 5)) (.var 1)))) (.sub (.rem (.sel (.avar 1) (.add (.var 5) (.lit (-1)))) (.var 1)) (.rem (.sel (.avar 1) (.var 5)) (.var 1))))), true), ((.eq (.add (.sub (.lit (0)) (.sub (.quo (.sel (.avar 1) (.add (.var 5) (.lit (-1)))) (.var 1)) (.quo (.sel (.avar 1) (.var 5)) (.var 1)))) (.sub (.rem (.sel (.avar 1) (.add (.var 5) (.lit (-1)))) (.var 1)) (.rem (.sel (.avar 1) (.var 5)) (.var 1)))) (.lit (1))), true), ((.le (.sel (.avar 1) (.add (.var 5) (.lit (-1)))) (.sel (.avar 1) (.var 5))), false), ((.le (.sel (.avar 1) (.var 5)) (.sel (.avar 1) (.add (.var 5) (.lit (-1))))), true), ((.le (.lit (0)) (.sel (.avar 1) (.add (.var 5) (.lit (-1))))), true), ((.le (.var 2) (.sel (.avar 1) (.add (.var 5) (.lit (-1))))), false), ((.inr .i64 (.sub (.sel (.avar 0) (.sel (.avar 1) (.add (.var 5) (.lit (-1))))) (.sel (.avar 0) (.sel (.avar 1) (.var 5))))), true), ((.inr .i64 (.add (.sub (.sel (.avar 0) (.sel (.avar 1) (.add (.var 5) (.lit (-1))))) (.sel (.avar 0) (.sel (.avar 1) (.var 5)))) (.lit (2048)))), true), ((.le (.lit (0)) (.rem (.add (.sub (.sel (.avar 0) (.sel (.avar 1) (.add (.var 5) (.lit (-1))))) (.sel (.avar 0) (.sel (.avar 1) (.var 5)))) (.lit (2048))) (.lit (4096)))), true), ((.inr .i64 (.add (.rem (.add (.sub (.sel (.avar 0) (.sel (.avar 1) (.add (.var 5) (.lit (-1))))) (.sel (.avar 0) (.sel (.avar 1) (.var 5)))) (.lit (2048))) (.lit (4096))) (.lit (-2048)))), true), ((.inr .i64 (.sub (.lit (0)) (.add (.rem (.add (.sub (.sel (.avar 0) (.sel (.avar 1) (.add (.var 5) (.lit (-1))))) (.sel (.avar 0) (.sel (.avar 1) (.var 5)))) (.lit (2048))) (.lit (4096))) (.lit (-2048))))), true), ((.le (.var 4) (.add (.var 5) (.lit (-1)))), false), ((.inr .i64 (.add (.sel (.avar 50) (.add (.var 5) (.lit (-1)))) (.sub (.lit (0)) (.add (.rem (.add (.sub (.sel (.avar 0) (.sel (.avar 1) (.add (.var 5) (.lit (-1))))) (.sel (.avar 0) (.sel (.avar 1) (.var 5)))) (.lit (2048))) (.lit (4096))) (.lit (-2048)))))), true), ((.le (.var 4) (.lit (99999))), true), ((.inr .i64 (.add (.var 5) (.lit (1)))), true)] := ⟨f_nle f1 rfl rfl, f_le f2 rfl rfl, f_in f3 rfl, f_le f4 rfl rfl, f_le f5 rfl rfl, f_nle f6 rfl rfl, f_ne f7 rfl rfl, f_ne f8 rfl rfl, f_in f9 rfl, f_le f10 rfl rfl, f_nle f11 rfl rfl, f_ne f12 rfl rfl, f_in f13 rfl, f_in f14 rfl, f_in f15 rfl, f_in f16 rfl, f_nle f17 rfl rfl, f_in f18 rfl, f_in f19 rfl, f_le f20 rfl rfl, f_in f21 rfl, f_eq f22 rfl rfl, f_nle f23 rfl rfl, f_le f24 rfl rfl, f_le f25 rfl rfl, f_nle f26 rfl rfl, f_in f27 rfl, f_in f28 rfl, f_le f29 rfl rfl, f_in f30 rfl, f_in f31 rfl, f_nle f32 rfl rfl, f_in f33 rfl, f_le f34 rfl rfl, f_in f35 rfl, trivial⟩
             refine again_runP (P := Try.prog) (K := noK) (fl := []) (B := 4) (l := [.mov 2 4]) (a' := ral1_1_a) (h' := ral1_1_h) (ρ' := rhoL W.heap.size ([R, C, (n : Int), (m : Int)] ++ [(((L + 1) : Nat) : Int), (((k + 1) : Nat) : Int)]) [⟨A, n, flat1 s⟩, ⟨B, m, flat1 p⟩] [] [(fun j : Int => if j = (L : Int) then ((F ((k : Int) + (-1))) + (0 - ((Int.tmod (((flat1 s (flat1 p ((k : Int) + (-1)))) - (flat1 s (flat1 p (k : Int)))) + 2048) 4096) + (-2048)))) else F j)]) (ds := [.int (.add (.var 4) (.lit (1))) (.var 4), .int (.add (.var 5) (.lit (1))) (.var 5), .row (.upd (.avar 50) (.var 4) (.add (.sel (.avar 50) (.add (.var 5) (.lit (-1)))) (.sub (.lit (0)) (.add (.rem (.add (.sub (.sel (.avar 0) (.sel (.avar 1) (.add (.var 5) (.lit (-1))))) (.sel (.avar 0) (.sel (.avar 1) (.var 5)))) (.lit (2048))) (.lit (4096))) (.lit (-2048)))))) (.avar 50), .int (.add (.var 4) (.lit (1))) (.var 4)]) (by kernel_rfl) noK_ok (facD_ok hF) (by kernel_rfl) (agree_list (l := [R, C, (n : Int), (m : Int)]) (Nat.le_refl _) rfl) ⟨(show (((L : Int) + 1) : Int) = (((L + 1) : Nat) : Int) from by first | rfl | (push_cast; omega)), (show (((k : Int) + 1) : Int) = (((k + 1) : Nat) : Int) from by first | rfl | (push_cast; omega)), rfl, (show (((L : Int) + 1) : Int) = (((L + 1) : Nat) : Int) from by first | rfl | (push_cast; omega)), trivial⟩ hs2 fun A3 W3 hs3 => ⟨_, _, _, ⟨(L + 1), (k + 1), (fun j : Int => if j = (L : Int) then ((F ((k : Int) + (-1))) + (0 - ((Int.tmod (((flat1 s (flat1 p ((k : Int) + (-1)))) - (flat1 s (flat1 p (k : Int)))) + 2048) 4096) + (-2048)))) else F j), ?_, rfl, .inr ⟨rfl, rfl, ?_⟩⟩, ?_, hs3⟩
             · first
                 | (exfalso; omega)
                 | (have hnb : nb C (flat1 p ((k : Int) + -1)) (flat1 p (k : Int)) := by
                     rw [nb_iff hC1 (by assumption) (by assumption)]
                     unfold nbR sz
                     simp only [f1, f2, f4, f5, f6, f7, f8, f10, f11, f12, f17, f20, f22, f23, f24, f25, f26, f29, f32, f34, if_true, if_false]
                     try omega
                    refine ⟨by omega, by omega, fun j hj => ?_, fun j hj => ?_⟩
                    · rcases Nat.lt_or_ge j k with g | g
                      · exact hz j g
                      · obtain rfl : j = k := by omega
                        unfold acode
                        simp [f1, f2, f4, f5, f6, f7, f8, f10, f11, f12, f17, f20, f22, f23, f24, f25, f26, f29, f32, f34, hnb]
                        try omega
                    · dsimp only
                      rcases Nat.lt_or_ge j k with g | g
                      · rw [if_neg (by omega)]
                        exact hFe j g
                      · obtain rfl : j = k := by omega
                        rw [if_pos (by omega), aval_step hcond, hF1]
                        unfold stp wrp
                        simp only [f1, f2, f4, f5, f6, f7, f8, f10, f11, f12, f17, f20, f22, f23, f24, f25, f26, f29, f32, f34, if_true, if_false]
                        try omega)
             · omega
             · show m - ((k + 1 : Nat) : Int).toNat < m - ((k : Nat) : Int).toNat
               omega
            ·
             have f30 : (-9223372036854775808 : Int) ≤ ((Int.tmod (((flat1 s (flat1 p ((k : Int) + (-1)))) - (flat1 s (flat1 p (k : Int)))) + 2048) 4096) + 4096) ∧ ((Int.tmod (((flat1 s (flat1 p ((k : Int) + (-1)))) - (flat1 s (flat1 p (k : Int)))) + 2048) 4096) + 4096) ≤ 9223372036854775807 := by
              first | omega | (have h := hob (by assumption) (by assumption) (by assumption); have q6 := td_bound (a := flat1 p ((k : Int) + -1)) hp1 hC1; have q7 := td_bound (a := flat1 p (k : Int)) (by assumption) hC1; omega)
             have f31 : (-9223372036854775808 : Int) ≤ ((Int.tmod (((flat1 s (flat1 p ((k : Int) + (-1)))) - (flat1 s (flat1 p (k : Int)))) + 2048) 4096) + 2048) ∧ ((Int.tmod (((flat1 s (flat1 p ((k : Int) + (-1)))) - (flat1 s (flat1 p (k : Int)))) + 2048) 4096) + 2048) ≤ 9223372036854775807 := by
              first | omega | (have h := hob (by assumption) (by assumption) (by assumption); have q6 := td_bound (a := flat1 p ((k : Int) + -1)) hp1 hC1; have q7 := td_bound (a := flat1 p (k : Int)) (by assumption) hC1; omega)
             have f32 : (-9223372036854775808 : Int) ≤ (0 - ((Int.tmod (((flat1 s (flat1 p ((k : Int) + (-1)))) - (flat1 s (flat1 p (k : Int)))) + 2048) 4096) + 2048)) ∧ (0 - ((Int.tmod (((flat1 s (flat1 p ((k : Int) + (-1)))) - (flat1 s (flat1 p (k : Int)))) + 2048) 4096) + 2048)) ≤ 9223372036854775807 := by
              first | omega | (have h := hob (by assumption) (by assumption) (by assumption); have q6 := td_bound (a := flat1 p ((k : Int) + -1)) hp1 hC1; have q7 := td_bound (a := flat1 p (k : Int)) (by assumption) hC1; omega)
             have f33 : ¬ ((L : Int) ≤ ((k : Int) + (-1))) := by
              first | omega | (have h := hob (by assumption) (by assumption) (by assumption); have q6 := td_bound (a := flat1 p ((k : Int) + -1)) hp1 hC1; have q7 := td_bound (a := flat1 p (k : Int)) (by assumption) hC1; omega)
             have f34 : (-9223372036854775808 : Int) ≤ ((F ((k : Int) + (-1))) + (0 - ((Int.tmod (((flat1 s (flat1 p ((k : Int) + (-1)))) - (flat1 s (flat1 p (k : Int)))) + 2048) 4096) + 2048))) ∧ ((F ((k : Int) + (-1))) + (0 - ((Int.tmod (((flat1 s (flat1 p ((k : Int) + (-1)))) - (flat1 s (flat1 p (k : Int)))) + 2048) 4096) + 2048))) ≤ 9223372036854775807 := by
              first | omega | (have h := hob (by assumption) (by assumption) (by assumption); have q6 := td_bound (a := flat1 p ((k : Int) + -1)) hp1 hC1; have q7 := td_bound (a := flat1 p (k : Int)) (by assumption) hC1; omega)
             have f35 : ((L : Int) ≤ 99999) := by
              first | omega | (have h := hob (by assumption) (by assumption) (by assumption); have q6 := td_bound (a := flat1 p ((k : Int) + -1)) hp1 hC1; have q7 := td_bound (a := flat1 p (k : Int)) (by assumption) hC1; omega)
             have f36 : (-9223372036854775808 : Int) ≤ ((k : Int) + 1) ∧ ((k : Int) + 1) ≤ 9223372036854775807 := by
              first | omega | (have h := hob (by assumption) (by assumption) (by assumption); have q6 := td_bound (a := flat1 p ((k : Int) + -1)) hp1 hC1; have q7 := td_bound (a := flat1 p (k : Int)) (by assumption) hC1; omega)
             have hF : Facts [((.le (.var 3) (.var 5)), false), ((.le (.lit (0)) (.var 5)), true), ((.inr .i64 (.add (.var 2) (.lit (-1)))), true), ((.le (.lit (0)) (.sel (.avar 1) (.var 5))), true), ((.le (.sel (.avar 1) (.var 5)) (.add (.var 2) (.lit (-1)))), true), ((.le (.var 2) (.sel (.avar 1) (.var 5))), false), ((.eq (.sel (.avar 0) (.sel (.avar 1) (.var 5))) (.lit (1000000000000))), false), ((.eq (.var 5) (.lit (0))), false), ((.inr .i64 (.add (.var 5) (.lit (-1)))), true), ((.le (.lit (0)) (.add (.var 5) (.lit (-1)))), true), ((.le (.var 3) (.add (.var 5) (.lit (-1)))), false), ((.eq (.var 1) (.lit (0))), false), ((.inr .i64 (.quo (.sel (.avar 1) (.add (.var 5) (.lit (-1)))) (.var 1))), true), ((.inr .i64 (.quo (.sel (.avar 1) (.var 5)) (.var 1))), true), ((.inr .i64 (.sub (.quo (.sel (.avar 1) (.add (.var 5) (.lit (-1)))) (.var 1)) (.quo (.sel (.avar 1) (.var 5)) (.var 1)))), true), ((.inr .i64 (.sub (.lit (0)) (.sub (.quo (.sel (.avar 1) (.add (.var 5) (.lit (-1)))) (.var 1)) (.quo (.sel (.avar 1) (.var 5)) (.var 1))))), true), ((.le (.sub (.lit (0)) (.sub (.quo (.sel (.avar 1) (.add (.var 5) (.lit (-1)))) (.var 1)) (.quo (.sel (.avar 1) (.var 5)) (.var 1)))) (.sub (.quo (.sel (.avar 1) (.add (.var 5) (.lit (-1)))) (.var 1)) (.quo (.sel (.avar 1) (.var 5)) (.var 1)))), false), ((.inr .i64 (.sub (.rem (.sel (.avar 1) (.add (.var 5) (.lit (-1)))) (.var 1)) (.rem (.sel (.avar 1) (.var 5)) (.var 1)))), true), ((.inr .i64 (.sub (.lit (0)) (.sub (.rem (.sel (.avar 1) (.add (.var 5) (.lit (-1)))) (.var 1)) (.rem (.sel (.avar 1) (.var 5)) (.var 1))))), true), ((.le (.sub (.lit (0)) (.sub (.rem (.sel (.avar 1) (.add (.var 5) (.lit (-1)))) (.var 1)) (.rem (.sel (.avar 1) (.var 5)) (.var 1)))) (.sub (.rem (.sel (.avar 1) (.add (.var 5) (.lit (-1)))) (.var 1)) (.rem (.sel (.avar 1) (.var 5)) (.var 1)))), true), ((.inr .i64 (.add (.sub (.lit (0)) (.sub (.quo (.sel (.avar 1) (.add (.var 5) (.lit (-1)))) (.var 1)) (.quo (.sel (.avar 1) (.var 5)) (.var 1)))) (.sub (.rem (.sel (.avar 1) (.add (.var 5) (.lit (-1)))) (.var 1)) (.rem (.sel (.avar 1) (.var 5)) (.var 1))))), true), ((.eq (.add (.sub (.lit (0)) (.sub (.quo (.sel (.avar 1) (.add (.var 5) (.lit (-1)))) (.var 1)) (.quo (.sel (.avar 1) (.var 5)) (.var 1)))) (.sub (.rem (.sel (.avar 1) (.add (.var 5) (.lit (-1)))) (.var 1)) (.rem (.sel (.avar 1) (.var 5)) (.var 1)))) (.lit (1))), true), ((.le (.sel (.avar 1) (.add (.var 5) (.lit (-1)))) (.sel (.avar 1) (.var 5))), false), ((.le (.sel (.avar 1) (.var 5)) (.sel (.avar 1) (.add (.var 5) (.lit (-1))))), true), ((.le (.lit (0)) (.sel (.avar 1) (.add (.var 5) (.lit (-1))))), true), ((.le (.var 2) (.sel (.avar 1) (.add (.var 5) (.lit (-1))))), false), ((.inr .i64 (.sub (.sel (.avar 0) (.sel (.avar 1) (.add (.var 5) (.lit (-1))))) (.sel (.avar 0) (.sel (.avar 1) (.var 5))))), true), ((.inr .i64 (.add (.sub (.sel (.avar 0) (.sel (.avar 1) (.add (.var 5) (.lit (-1))))) (.sel (.avar 0) (.sel (.avar 1) (.var 5)))) (.lit (2048)))), true), ((.le (.lit (0)) (.rem (.add (.sub (.sel (.avar 0) (.sel (.avar 1) (.add (.var 5) (.lit (-1))))) (.sel (.avar 0) (.sel (.avar 1) (.var 5)))) (.lit (2048))) (.lit (4096)))), false), ((.inr .i64 (.add (.rem (.add (.sub (.sel (.avar 0) (.sel (.avar 1) (.add (.var 5) (.lit (-1))))) (.sel (.avar 0) (.sel (.avar 1) (.var 5)))) (.lit (2048))) (.lit (4096))) (.lit (4096)))), true), ((.inr .i64 (.add (.rem (.add (.sub (.sel (.avar 0) (.sel (.avar 1) (.add (.var 5) (.lit (-1))))) (.sel (.avar 0) (.sel (.avar 1) (.var 5)))) (.lit (2048))) (.lit (4096))) (.lit (2048)))), true), ((.inr .i64 (.sub (.lit (0)) (.add (.rem (.add (.sub (.sel (.avar 0) (.sel (.avar 1) (.add (.var 5) (.lit (-1))))) (.sel (.avar 0) (.sel (.avar 1) (.var 5)))) (.lit (2048))) (.lit (4096))) (.lit (2048))))), true), ((.le (.var 4) (.add (.var 5) (.lit (-1)))), false), ((.inr .i64 (.add (.sel (.avar 50) (.add (.var 5) (.lit (-1)))) (.sub (.lit (0)) (.add (.rem (.add (.sub (.sel (.avar 0) (.sel (.avar 1) (.add (.var 5) (.lit (-1))))) (.sel (.avar 0) (.sel (.avar 1) (.var 5)))) (.lit (2048))) (.lit (4096))) (.lit (2048)))))), true), ((.le (.var 4) (.lit (99999))), true), ((.inr .i64 (.add (.var 5) (.lit (1)))), true)] := ⟨f_nle f1 rfl rfl, f_le f2 rfl rfl, f_in f3 rfl, f_le f4 rfl rfl, f_le f5 rfl rfl, f_nle f6 rfl rfl, f_ne f7 rfl rfl, f_ne f8 rfl rfl, f_in f9 rfl, f_le f10 rfl rfl, f_nle f11 rfl rfl, f_ne f12 rfl rfl, f_in f13 rfl, f_in f14 rfl, f_in f15 rfl, f_in f16 rfl, f_nle f17 rfl rfl, f_in f18 rfl, f_in f19 rfl, f_le f20 rfl rfl, f_in f21 rfl, f_eq f22 rfl rfl, f_nle f23 rfl rfl, f_le f24 rfl rfl, f_le f25 rfl rfl, f_nle f26 rfl rfl, f_in f27 rfl, f_in f28 rfl, f_nle f29 rfl rfl, f_in f30 rfl, f_in f31 rfl, f_in f32 rfl, f_nle f33 rfl rfl, f_in f34 rfl, f_le f35 rfl rfl, f_in f36 rfl, trivial⟩
             refine again_runP (P := Try.prog) (K := noK) (fl := []) (B := 4) (l := [.mov 2 4]) (a' := ral1_1_a) (h' := ral1_1_h) (ρ' := rhoL W.heap.size ([R, C, (n : Int), (m : Int)] ++ [(((L + 1) : Nat) : Int), (((k + 1) : Nat) : Int)]) [⟨A, n, flat1 s⟩, ⟨B, m, flat1 p⟩] [] [(fun j : Int => if j = (L : Int) then ((F ((k : Int) + (-1))) + (0 - ((Int.tmod (((flat1 s (flat1 p ((k : Int) + (-1)))) - (flat1 s (flat1 p (k : Int)))) + 2048) 4096) + 2048))) else F j)]) (ds := [.int (.add (.var 4) (.lit (1))) (.var 4), .int (.add (.var 5) (.lit (1))) (.var 5), .row (.upd (.avar 50) (.var 4) (.add (.sel (.avar 50) (.add (.var 5) (.lit (-1)))) (.sub (.lit (0)) (.add (.rem (.add (.sub (.sel (.avar 0) (.sel (.avar 1) (.add (.var 5) (.lit (-1))))) (.sel (.avar 0) (.sel (.avar 1) (.var 5)))) (.lit (2048))) (.lit (4096))) (.lit (2048)))))) (.avar 50), .int (.add (.var 4) (.lit (1))) (.var 4)]) (by kernel_rfl) noK_ok (facD_ok hF) (by kernel_rfl) (agree_list (l := [R, C, (n : Int), (m : Int)]) (Nat.le_refl _) rfl) ⟨(show (((L : Int) + 1) : Int) = (((L + 1) : Nat) : Int) from by first | rfl | (push_cast; omega)), (show (((k : Int) + 1) : Int) = (((k + 1) : Nat) : Int) from by first | rfl | (push_cast; omega)), rfl, (show (((L : Int) + 1) : Int) = (((L + 1) : Nat) : Int) from by first | rfl | (push_cast; omega)), trivial⟩ hs2 fun A3 W3 hs3 => ⟨_, _, _, ⟨(L + 1), (k + 1), (fun j : Int => if j = (L : Int) then ((F ((k : Int) + (-1))) + (0 - ((Int.tmod (((flat1 s (flat1 p ((k : Int) + (-1)))) - (flat1 s (flat1 p (k : Int)))) + 2048) 4096) + 2048))) else F j), ?_, rfl, .inr ⟨rfl, rfl, ?_⟩⟩, ?_, hs3⟩
             · first
                 | (exfalso; omega)
                 | (have hnb : nb C (flat1 p ((k : Int) + -1)) (flat1 p (k : Int)) := by
                     rw [nb_iff hC1 (by assumption) (by assumption)]
                     unfold nbR sz
                     simp only [f1, f2, f4, f5, f6, f7, f8, f10, f11, f12, f17, f20, f22, f23, f24, f25, f26, f29, f33, f35, if_true, if_false]
                     try omega
                    refine ⟨by omega, by omega, fun j hj => ?_, fun j hj => ?_⟩
                    · rcases Nat.lt_or_ge j k with g | g
                      · exact hz j g
                      · obtain rfl : j = k := by omega
                        unfold acode
                        simp [f1, f2, f4, f5, f6, f7, f8, f10, f11, f12, f17, f20, f22, f23, f24, f25, f26, f29, f33, f35, hnb]
                        try omega
                    · dsimp only
                      rcases Nat.lt_or_ge j k with g | g
                      · rw [if_neg (by omega)]
                        exact hFe j g
                      · obtain rfl : j = k := by omega
                        rw [if_pos (by omega), aval_step hcond, hF1]
                        unfold stp wrp
                        simp only [f1, f2, f4, f5, f6, f7, f8, f10, f11, f12, f17, f20, f22, f23, f24, f25, f26, f29, f33, f35, if_true, if_false]
                        try omega)
             · omega
             · show m - ((k + 1 : Nat) : Int).toNat < m - ((k : Nat) : Int).toNat
               omega
          ·
           have hF : Facts [((.le (.var 3) (.var 5)), false), ((.le (.lit (0)) (.var 5)), true), ((.inr .i64 (.add (.var 2) (.lit (-1)))), true), ((.le (.lit (0)) (.sel (.avar 1) (.var 5))), true), ((.le (.sel (.avar 1) (.var 5)) (.add (.var 2) (.lit (-1)))), true), ((.le (.var 2) (.sel (.avar 1) (.var 5))), false), ((.eq (.sel (.avar 0) (.sel (.avar 1) (.var 5))) (.lit (1000000000000))), false), ((.eq (.var 5) (.lit (0))), false), ((.inr .i64 (.add (.var 5) (.lit (-1)))), true), ((.le (.lit (0)) (.add (.var 5) (.lit (-1)))), true), ((.le (.var 3) (.add (.var 5) (.lit (-1)))), false), ((.eq (.var 1) (.lit (0))), false), ((.inr .i64 (.quo (.sel (.avar 1) (.add (.var 5) (.lit (-1)))) (.var 1))), true), ((.inr .i64 (.quo (.sel (.avar 1) (.var 5)) (.var 1))), true), ((.inr .i64 (.sub (.quo (.sel (.avar 1) (.add (.var 5) (.lit (-1)))) (.var 1)) (.quo (.sel (.avar 1) (.var 5)) (.var 1)))), true), ((.inr .i64 (.sub (.lit (0)) (.sub (.quo (.sel (.avar 1) (.add (.var 5) (.lit (-1)))) (.var 1)) (.quo (.sel (.avar 1) (.var 5)) (.var 1))))), true), ((.le (.sub (.lit (0)) (.sub (.quo (.sel (.avar 1) (.add (.var 5) (.lit (-1)))) (.var 1)) (.quo (.sel (.avar 1) (.var 5)) (.var 1)))) (.sub (.quo (.sel (.avar 1) (.add (.var 5) (.lit (-1)))) (.var 1)) (.quo (.sel (.avar 1) (.var 5)) (.var 1)))), false), ((.inr .i64 (.sub (.rem (.sel (.avar 1) (.add (.var 5) (.lit (-1)))) (.var 1)) (.rem (.sel (.avar 1) (.var 5)) (.var 1)))), true), ((.inr .i64 (.sub (.lit (0)) (.sub (.rem (.sel (.avar 1) (.add (.var 5) (.lit (-1)))) (.var 1)) (.rem (.sel (.avar 1) (.var 5)) (.var 1))))), true), ((.le (.sub (.lit (0)) (.sub (.rem (.sel (.avar 1) (.add (.var 5) (.lit (-1)))) (.var 1)) (.rem (.sel (.avar 1) (.var 5)) (.var 1)))) (.sub (.rem (.sel (.avar 1) (.add (.var 5) (.lit (-1)))) (.var 1)) (.rem (.sel (.avar 1) (.var 5)) (.var 1)))), true), ((.inr .i64 (.add (.sub (.lit (0)) (.sub (.quo (.sel (.avar 1) (.add (.var 5) (.lit (-1)))) (.var 1)) (.quo (.sel (.avar 1) (.var 5)) (.var 1)))) (.sub (.rem (.sel (.avar 1) (.add (.var 5) (.lit (-1)))) (.var 1)) (.rem (.sel (.avar 1) (.var 5)) (.var 1))))), true), ((.eq (.add (.sub (.lit (0)) (.sub (.quo (.sel (.avar 1) (.add (.var 5) (.lit (-1)))) (.var 1)) (.quo (.sel (.avar 1) (.var 5)) (.var 1)))) (.sub (.rem (.sel (.avar 1) (.add (.var 5) (.lit (-1)))) (.var 1)) (.rem (.sel (.avar 1) (.var 5)) (.var 1)))) (.lit (1))), false)] := ⟨f_nle f1 rfl rfl, f_le f2 rfl rfl, f_in f3 rfl, f_le f4 rfl rfl, f_le f5 rfl rfl, f_nle f6 rfl rfl, f_ne f7 rfl rfl, f_ne f8 rfl rfl, f_in f9 rfl, f_le f10 rfl rfl, f_nle f11 rfl rfl, f_ne f12 rfl rfl, f_in f13 rfl, f_in f14 rfl, f_in f15 rfl, f_in f16 rfl, f_nle f17 rfl rfl, f_in f18 rfl, f_in f19 rfl, f_le f20 rfl rfl, f_in f21 rfl, f_ne f22 rfl rfl, trivial⟩
           refine out_run (P := Try.prog) (K := noK) (fl := []) (by kernel_rfl) noK_ok (facD_ok hF) hs2 (fin_gen (r := (.tup [(.pl (.slice none 0 0)), (.pl (.int .i64 (14)))])) (h' := { bl := [some (.row (.avar 50) (.var 4) 3 1), some (.cells [(.si .i64 (.sel (.avar 0) (.sel (.avar 1) (.lit (0)))))] 3 false), some (.cells [(.si .i64 (.var 0)), (.si .i64 (.var 1)), (.fsl 0 1 (.lit (0)) (.var 2))] 40 false)], n := 3, base := 0, ch := [] }) (by kernel_rfl) fun V mb gb v W' hv hw hbel => ?_)
           obtain rfl := rep_den _ (.tuple #[.slice none 0 0, .int .i64 14]) _ rfl hv
           first
             | (exfalso; omega)
             | (have hnb : ¬ nb C (flat1 p ((k : Int) + -1)) (flat1 p (k : Int)) := by
                  rw [nb_iff hC1 (by assumption) (by assumption)]
                  unfold nbR sz
                  simp only [f1, f2, f4, f5, f6, f7, f8, f10, f11, f12, f17, f20, f22, if_true, if_false]
                  first | assumption | exact not_false | (intro hx; exact hx) | (intro hx; exact absurd hx (by simp)) | omega
                have hc : acode C n (flat1 s) (flat1 p) k = 14 := by
                 unfold acode
                 simp [f1, f2, f4, f5, f6, f7, f8, f10, f11, f12, f17, f20, f22, hnb]
                 try omega
                have e : rErr C n s m p = 14 := by rw [rErr_in hm200, fw_hit (k := k) hz (by rw [hc]; decide) (by omega), hc]
                exact ⟨.inl ⟨by rw [e]; decide, by rw [e]⟩, hbel⟩)
         ·
          have f21 : (-9223372036854775808 : Int) ≤ ((0 - ((Int.tdiv (flat1 p ((k : Int) + (-1))) C) - (Int.tdiv (flat1 p (k : Int)) C))) + (0 - ((Int.tmod (flat1 p ((k : Int) + (-1))) C) - (Int.tmod (flat1 p (k : Int)) C)))) ∧ ((0 - ((Int.tdiv (flat1 p ((k : Int) + (-1))) C) - (Int.tdiv (flat1 p (k : Int)) C))) + (0 - ((Int.tmod (flat1 p ((k : Int) + (-1))) C) - (Int.tmod (flat1 p (k : Int)) C)))) ≤ 9223372036854775807 := by
           first | omega | (have h := hob (by assumption) (by assumption) (by assumption); have q6 := td_bound (a := flat1 p ((k : Int) + -1)) hp1 hC1; have q7 := td_bound (a := flat1 p (k : Int)) (by assumption) hC1; omega)
          by_cases f22 : ((0 - ((Int.tdiv (flat1 p ((k : Int) + (-1))) C) - (Int.tdiv (flat1 p (k : Int)) C))) + (0 - ((Int.tmod (flat1 p ((k : Int) + (-1))) C) - (Int.tmod (flat1 p (k : Int)) C)))) = 1
          ·
           by_cases f23 : (flat1 p ((k : Int) + (-1))) ≤ (flat1 p (k : Int))
           ·
            have f24 : (0 ≤ (flat1 p ((k : Int) + (-1)))) := by
             first | omega | (have h := hob (by assumption) (by assumption) (by assumption); have q6 := td_bound (a := flat1 p ((k : Int) + -1)) hp1 hC1; have q7 := td_bound (a := flat1 p (k : Int)) (by assumption) hC1; omega)
            have f25 : ¬ ((n : Int) ≤ (flat1 p ((k : Int) + (-1)))) := by
             first | omega | (have h := hob (by assumption) (by assumption) (by assumption); have q6 := td_bound (a := flat1 p ((k : Int) + -1)) hp1 hC1; have q7 := td_bound (a := flat1 p (k : Int)) (by assumption) hC1; omega)
            have f26 : (-9223372036854775808 : Int) ≤ ((flat1 s (flat1 p (k : Int))) - (flat1 s (flat1 p ((k : Int) + (-1))))) ∧ ((flat1 s (flat1 p (k : Int))) - (flat1 s (flat1 p ((k : Int) + (-1))))) ≤ 9223372036854775807 := by
             first | omega | (have h := hob (by assumption) (by assumption) (by assumption); have q6 := td_bound (a := flat1 p ((k : Int) + -1)) hp1 hC1; have q7 := td_bound (a := flat1 p (k : Int)) (by assumption) hC1; omega)
            have f27 : (-9223372036854775808 : Int) ≤ (((flat1 s (flat1 p (k : Int))) - (flat1 s (flat1 p ((k : Int) + (-1))))) + 2048) ∧ (((flat1 s (flat1 p (k : Int))) - (flat1 s (flat1 p ((k : Int) + (-1))))) + 2048) ≤ 9223372036854775807 := by
             first | omega | (have h := hob (by assumption) (by assumption) (by assumption); have q6 := td_bound (a := flat1 p ((k : Int) + -1)) hp1 hC1; have q7 := td_bound (a := flat1 p (k : Int)) (by assumption) hC1; omega)
            by_cases f28 : 0 ≤ (Int.tmod (((flat1 s (flat1 p (k : Int))) - (flat1 s (flat1 p ((k : Int) + (-1))))) + 2048) 4096)
            ·
             have f29 : (-9223372036854775808 : Int) ≤ ((Int.tmod (((flat1 s (flat1 p (k : Int))) - (flat1 s (flat1 p ((k : Int) + (-1))))) + 2048) 4096) + (-2048)) ∧ ((Int.tmod (((flat1 s (flat1 p (k : Int))) - (flat1 s (flat1 p ((k : Int) + (-1))))) + 2048) 4096) + (-2048)) ≤ 9223372036854775807 := by
              first | omega | (have h := hob (by assumption) (by assumption) (by assumption); have q6 := td_bound (a := flat1 p ((k : Int) + -1)) hp1 hC1; have q7 := td_bound (a := flat1 p (k : Int)) (by assumption) hC1; omega)
             have f30 : ¬ ((L : Int) ≤ ((k : Int) + (-1))) := by
              first | omega | (have h := hob (by assumption) (by assumption) (by assumption); have q6 := td_bound (a := flat1 p ((k : Int) + -1)) hp1 hC1; have q7 := td_bound (a := flat1 p (k : Int)) (by assumption) hC1; omega)
             have f31 : (-9223372036854775808 : Int) ≤ ((F ((k : Int) + (-1))) + ((Int.tmod (((flat1 s (flat1 p (k : Int))) - (flat1 s (flat1 p ((k : Int) + (-1))))) + 2048) 4096) + (-2048))) ∧ ((F ((k : Int) + (-1))) + ((Int.tmod (((flat1 s (flat1 p (k : Int))) - (flat1 s (flat1 p ((k : Int) + (-1))))) + 2048) 4096) + (-2048))) ≤ 9223372036854775807 := by
              first | omega | (have h := hob (by assumption) (by assumption) (by assumption); have q6 := td_bound (a := flat1 p ((k : Int) + -1)) hp1 hC1; have q7 := td_bound (a := flat1 p (k : Int)) (by assumption) hC1; omega)
             have f32 : ((L : Int) ≤ 99999) := by
              first | omega | (have h := hob (by assumption) (by assumption) (by assumption); have q6 := td_bound (a := flat1 p ((k : Int) + -1)) hp1 hC1; have q7 := td_bound (a := flat1 p (k : Int)) (by assumption) hC1; omega)
             have f33 : (-9223372036854775808 : Int) ≤ ((k : Int) + 1) ∧ ((k : Int) + 1) ≤ 9223372036854775807 := by
              first | omega | (have h := hob (by assumption) (by assumption) (by assumption); have q6 := td_bound (a := flat1 p ((k : Int) + -1)) hp1 hC1; have q7 := td_bound (a := flat1 p (k : Int)) (by assumption) hC1; omega)
             have hF : Facts [((.le (.var 3) (.var 5)), false), ((.le (.lit (0)) (.var 5)), true), ((.inr .i64 (.add (.var 2) (.lit (-1)))), true), ((.le (.lit (0)) (.sel (.avar 1) (.var 5))), true), ((.le (.sel (.avar 1) (.var 5)) (.add (.var 2) (.lit (-1)))), true), ((.le (.var 2) (.sel (.avar 1) (.var 5))), false), ((.eq (.sel (.avar 0) (.sel (.avar 1) (.var 5))) (.lit (1000000000000))), false), ((.eq (.var 5) (.lit (0))), false), ((.inr .i64 (.add (.var 5) (.lit (-1)))), true), ((.le (.lit (0)) (.add (.var 5) (.lit (-1)))), true), ((.le (.var 3) (.add (.var 5) (.lit (-1)))), false), ((.eq (.var 1) (.lit (0))), false), ((.inr .i64 (.quo (.sel (.avar 1) (.add (.var 5) (.lit (-1)))) (.var 1))), true), ((.inr .i64 (.quo (.sel (.avar 1) (.var 5)) (.var 1))), true), ((.inr .i64 (.sub (.quo (.sel (.avar 1) (.add (.var 5) (.lit (-1)))) (.var 1)) (.quo (.sel (.avar 1) (.var 5)) (.var 1)))), true), ((.inr .i64 (.sub (.lit (0)) (.sub (.quo (.sel (.avar 1) (.add (.var 5) (.lit (-1)))) (.var 1)) (.quo (.sel (.avar 1) (.var 5)) (.var 1))))), true), ((.le (.sub (.lit (0)) (.sub (.quo (.sel (.avar 1) (.add (.var 5) (.lit (-1)))) (.var 1)) (.quo (.sel (.avar 1) (.var 5)) (.var 1)))) (.sub (.quo (.sel (.avar 1) (.add (.var 5) (.lit (-1)))) (.var 1)) (.quo (.sel (.avar 1) (.var 5)) (.var 1)))), false), ((.inr .i64 (.sub (.rem (.sel (.avar 1) (.add (.var 5) (.lit (-1)))) (.var 1)) (.rem (.sel (.avar 1) (.var 5)) (.var 1)))), true), ((.inr .i64 (.sub (.lit (0)) (.sub (.rem (.sel (.avar 1) (.add (.var 5) (.lit (-1)))) (.var 1)) (.rem (.sel (.avar 1) (.var 5)) (.var 1))))), true), ((.le (.sub (.lit (0)) (.sub (.rem (.sel (.avar 1) (.add (.var 5) (.lit (-1)))) (.var 1)) (.rem (.sel (.avar 1) (.var 5)) (.var 1)))) (.sub (.rem (.sel (.avar 1) (.add (.var 5) (.lit (-1)))) (.var 1)) (.rem (.sel (.avar 1) (.var 5)) (.var 1)))), false), ((.inr .i64 (.add (.sub (.lit (0)) (.sub (.quo (.sel (.avar 1) (.add (.var 5) (.lit (-1)))) (.var 1)) (.quo (.sel (.avar 1) (.var 5)) (.var 1)))) (.sub (.lit (0)) (.sub (.rem (.sel (.avar 1) (.add (.var 5) (.lit (-1)))) (.var 1)) (.rem (.sel (.avar 1) (.var 5)) (.var 1)))))), true), ((.eq (.add (.sub (.lit (0)) (.sub (.quo (.sel (.avar 1) (.add (.var 5) (.lit (-1)))) (.var 1)) (.quo (.sel (.avar 1) (.var 5)) (.var 1)))) (.sub (.lit (0)) (.sub (.rem (.sel (.avar 1) (.add (.var 5) (.lit (-1)))) (.var 1)) (.rem (.sel (.avar 1) (.var 5)) (.var 1))))) (.lit (1))), true), ((.le (.sel (.avar 1) (.add (.var 5) (.lit (-1)))) (.sel (.avar 1) (.var 5))), true), ((.le (.lit (0)) (.sel (.avar 1) (.add (.var 5) (.lit (-1))))), true), ((.le (.var 2) (.sel (.avar 1) (.add (.var 5) (.lit (-1))))), false), ((.inr .i64 (.sub (.sel (.avar 0) (.sel (.avar 1) (.var 5))) (.sel (.avar 0) (.sel (.avar 1) (.add (.var 5) (.lit (-1))))))), true), ((.inr .i64 (.add (.sub (.sel (.avar 0) (.sel (.avar 1) (.var 5))) (.sel (.avar 0) (.sel (.avar 1) (.add (.var 5) (.lit (-1)))))) (.lit (2048)))), true), ((.le (.lit (0)) (.rem (.add (.sub (.sel (.avar 0) (.sel (.avar 1) (.var 5))) (.sel (.avar 0) (.sel (.avar 1) (.add (.var 5) (.lit (-1)))))) (.lit (2048))) (.lit (4096)))), true), ((.inr .i64 (.add (.rem (.add (.sub (.sel (.avar 0) (.sel (.avar 1) (.var 5))) (.sel (.avar 0) (.sel (.avar 1) (.add (.var 5) (.lit (-1)))))) (.lit (2048))) (.lit (4096))) (.lit (-2048)))), true), ((.le (.var 4) (.add (.var 5) (.lit (-1)))), false), ((.inr .i64 (.add (.sel (.avar 50) (.add (.var 5) (.lit (-1)))) (.add (.rem (.add (.sub (.sel (.avar 0) (.sel (.avar 1) (.var 5))) (.sel (.avar 0) (.sel (.avar 1) (.add (.var 5) (.lit (-1)))))) (.lit (2048))) (.lit (4096))) (.lit (-2048))))), true), ((.le (.var 4) (.lit (99999))), true), ((.inr .i64 (.add (.var 5) (.lit (1)))), true)] := ⟨f_nle f1 rfl rfl, f_le f2 rfl rfl, f_in f3 rfl, f_le f4 rfl rfl, f_le f5 rfl rfl, f_nle f6 rfl rfl, f_ne f7 rfl rfl, f_ne f8 rfl rfl, f_in f9 rfl, f_le f10 rfl rfl, f_nle f11 rfl rfl, f_ne f12 rfl rfl, f_in f13 rfl, f_in f14 rfl, f_in f15 rfl, f_in f16 rfl, f_nle f17 rfl rfl, f_in f18 rfl, f_in f19 rfl, f_nle f20 rfl rfl, f_in f21 rfl, f_eq f22 rfl rfl, f_le f23 rfl rfl, f_le f24 rfl rfl, f_nle f25 rfl rfl, f_in f26 rfl, f_in f27 rfl, f_le f28 rfl rfl, f_in f29 rfl, f_nle f30 rfl rfl, f_in f31 rfl, f_le f32 rfl rfl, f_in f33 rfl, trivial⟩
             refine again_runP (P := Try.prog) (K := noK) (fl := []) (B := 4) (l := [.mov 2 4]) (a' := ral1_1_a) (h' := ral1_1_h) (ρ' := rhoL W.heap.size ([R, C, (n : Int), (m : Int)] ++ [(((L + 1) : Nat) : Int), (((k + 1) : Nat) : Int)]) [⟨A, n, flat1 s⟩, ⟨B, m, flat1 p⟩] [] [(fun j : Int => if j = (L : Int) then ((F ((k : Int) + (-1))) + ((Int.tmod (((flat1 s (flat1 p (k : Int))) - (flat1 s (flat1 p ((k : Int) + (-1))))) + 2048) 4096) + (-2048))) else F j)]) (ds := [.int (.add (.var 4) (.lit (1))) (.var 4), .int (.add (.var 5) (.lit (1))) (.var 5), .row (.upd (.avar 50) (.var 4) (.add (.sel (.avar 50) (.add (.var 5) (.lit (-1)))) (.add (.rem (.add (.sub (.sel (.avar 0) (.sel (.avar 1) (.var 5))) (.sel (.avar 0) (.sel (.avar 1) (.add (.var 5) (.lit (-1)))))) (.lit (2048))) (.lit (4096))) (.lit (-2048))))) (.avar 50), .int (.add (.var 4) (.lit (1))) (.var 4)]) (by kernel_rfl) noK_ok (facD_ok hF) (by kernel_rfl) (agree_list (l := [R, C, (n : Int), (m : Int)]) (Nat.le_refl _) rfl) ⟨(show (((L : Int) + 1) : Int) = (((L + 1) : Nat) : Int) from by first | rfl | (push_cast; omega)), (show (((k : Int) + 1) : Int) = (((k + 1) : Nat) : Int) from by first | rfl | (push_cast; omega)), rfl, (show (((L : Int) + 1) : Int) = (((L + 1) : Nat) : Int) from by first | rfl | (push_cast; omega)), trivial⟩ hs2 fun A3 W3 hs3 => ⟨_, _, _, ⟨(L + 1), (k + 1), (fun j : Int => if j = (L : Int) then ((F ((k : Int) + (-1))) + ((Int.tmod (((flat1 s (flat1 p (k : Int))) - (flat1 s (flat1 p ((k : Int) + (-1))))) + 2048) 4096) + (-2048))) else F j), ?_, rfl, .inr ⟨rfl, rfl, ?_⟩⟩, ?_, hs3⟩
             · first
                 | (exfalso; omega)
                 | (have hnb : nb C (flat1 p ((k : Int) + -1)) (flat1 p (k : Int)) := by
                     rw [nb_iff hC1 (by assumption) (by assumption)]
                     unfold nbR sz
                     simp only [f1, f2, f4, f5, f6, f7, f8, f10, f11, f12, f17, f20, f22, f23, f24, f25, f28, f30, f32, if_true, if_false]
                     try omega
                    refine ⟨by omega, by omega, fun j hj => ?_, fun j hj => ?_⟩
                    · rcases Nat.lt_or_ge j k with g | g
                      · exact hz j g
                      · obtain rfl : j = k := by omega
                        unfold acode
                        simp [f1, f2, f4, f5, f6, f7, f8, f10, f11, f12, f17, f20, f22, f23, f24, f25, f28, f30, f32, hnb]
                        try omega
                    · dsimp only
                      rcases Nat.lt_or_ge j k with g | g
                      · rw [if_neg (by omega)]
                        exact hFe j g
                      · obtain rfl : j = k := by omega
                        rw [if_pos (by omega), aval_step hcond, hF1]
                        unfold stp wrp
                        simp only [f1, f2, f4, f5, f6, f7, f8, f10, f11, f12, f17, f20, f22, f23, f24, f25, f28, f30, f32, if_true, if_false]
                        try omega)
             · omega
             · show m - ((k + 1 : Nat) : Int).toNat < m - ((k : Nat) : Int).toNat
               omega
            ·
             have f29 : (-9223372036854775808 : Int) ≤ ((Int.tmod (((flat1 s (flat1 p (k : Int))) - (flat1 s (flat1 p ((k : Int) + (-1))))) + 2048) 4096) + 4096) ∧ ((Int.tmod (((flat1 s (flat1 p (k : Int))) - (flat1 s (flat1 p ((k : Int) + (-1))))) + 2048) 4096) + 4096) ≤ 9223372036854775807 := by
              first | omega | (have h := hob (by assumption) (by assumption) (by assumption); have q6 := td_bound (a := flat1 p ((k : Int) + -1)) hp1 hC1; have q7 := td_bound (a := flat1 p (k : Int)) (by assumption) hC1; omega)
             have f30 : (-9223372036854775808 : Int) ≤ ((Int.tmod (((flat1 s (flat1 p (k : Int))) - (flat1 s (flat1 p ((k : Int) + (-1))))) + 2048) 4096) + 2048) ∧ ((Int.tmod (((flat1 s (flat1 p (k : Int))) - (flat1 s (flat1 p ((k : Int) + (-1))))) + 2048) 4096) + 2048) ≤ 9223372036854775807 := by
              first | omega | (have h := hob (by assumption) (by assumption) (by assumption); have q6 := td_bound (a := flat1 p ((k : Int) + -1)) hp1 hC1; have q7 := td_bound (a := flat1 p (k : Int)) (by assumption) hC1; omega)
             have f31 : ¬ ((L : Int) ≤ ((k : Int) + (-1))) := by
              first | omega | (have h := hob (by assumption) (by assumption) (by assumption); have q6 := td_bound (a := flat1 p ((k : Int) + -1)) hp1 hC1; have q7 := td_bound (a := flat1 p (k : Int)) (by assumption) hC1; omega)
             have f32 : (-9223372036854775808 : Int) ≤ ((F ((k : Int) + (-1))) + ((Int.tmod (((flat1 s (flat1 p (k : Int))) - (flat1 s (flat1 p ((k : Int) + (-1))))) + 2048) 4096) + 2048)) ∧ ((F ((k : Int) + (-1))) + ((Int.tmod (((flat1 s (flat1 p (k : Int))) - (flat1 s (flat1 p ((k : Int) + (-1))))) + 2048) 4096) + 2048)) ≤ 9223372036854775807 := by
              first | omega | (have h := hob (by assumption) (by assumption) (by assumption); have q6 := td_bound (a := flat1 p ((k : Int) + -1)) hp1 hC1; have q7 := td_bound (a := flat1 p (k : Int)) (by assumption) hC1; omega)
             have f33 : ((L : Int) ≤ 99999) := by
              first | omega | (have h := hob (by assumption) (by assumption) (by assumption); have q6 := td_bound (a := flat1 p ((k : Int) + -1)) hp1 hC1; have q7 := td_bound (a := flat1 p (k : Int)) (by assumption) hC1; omega)
             have f34 : (-9223372036854775808 : Int) ≤ ((k : Int) + 1) ∧ ((k : Int) + 1) ≤ 9223372036854775807 := by
              first | omega | (have h := hob (by assumption) (by assumption) (by assumption); have q6 := td_bound (a := flat1 p ((k : Int) + -1)) hp1 hC1; have q7 := td_bound (a := flat1 p (k : Int)) (by assumption) hC1; omega)
             have hF : Facts [((.le (.var 3) (.var 5)), false), ((.le (.lit (0)) (.var 5)), true), ((.inr .i64 (.add (.var 2) (.lit (-1)))), true), ((.le (.lit (0)) (.sel (.avar 1) (.var 5))), true), ((.le (.sel (.avar 1) (.var 5)) (.add (.var 2) (.lit (-1)))), true), ((.le (.var 2) (.sel (.avar 1) (.var 5))), false), ((.eq (.sel (.avar 0) (.sel (.avar 1) (.var 5))) (.lit (1000000000000))), false), ((.eq (.var 5) (.lit (0))), false), ((.inr .i64 (.add (.var 5) (.lit (-1)))), true), ((.le (.lit (0)) (.add (.var 5) (.lit (-1)))), true), ((.le (.var 3) (.add (.var 5) (.lit (-1)))), false), ((.eq (.var 1) (.lit (0))), false), ((.inr .i64 (.quo (.sel (.avar 1) (.add (.var 5) (.lit (-1)))) (.var 1))), true), ((.inr .i64 (.quo (.sel (.avar 1) (.var 5)) (.var 1))), true), ((.inr .i64 (.sub (.quo (.sel (.avar 1) (.add (.var 5) (.lit (-1)))) (.var 1)) (.quo (.sel (.avar 1) (.var 5)) (.var 1)))), true), ((.inr .i64 (.sub (.lit (0)) (.sub (.quo (.sel (.avar 1) (.add (.var 5) (.lit (-1)))) (.var 1)) (.quo (.sel (.avar 1) (.var 5)) (.var 1))))), true), ((.le (.sub (.lit (0)) (.sub (.quo (.sel (.avar 1) (.add (.var 5) (.lit (-1)))) (.var 1)) (.quo (.sel (.avar 1) (.var 5)) (.var 1)))) (.sub (.quo (.sel (.avar 1) (.add (.var 5) (.lit (-1)))) (.var 1)) (.quo (.sel (.avar 1) (.var 5)) (.var 1)))), false), ((.inr .i64 (.sub (.rem (.sel (.avar 1) (.add (.var 5) (.lit (-1)))) (.var 1)) (.rem (.sel (.avar 1) (.var 5)) (.var 1)))), true), ((.inr .i64 (.sub (.lit (0)) (.sub (.rem (.sel (.avar 1) (.add (.var 5) (.lit (-1)))) (.var 1)) (.rem (.sel (.avar 1) (.var 5)) (.var 1))))), true), ((.le (.sub (.lit (0)) (.sub (.rem (.sel (.avar 1) (.add (.var 5) (.lit (-1)))) (.var 1)) (.rem (.sel (.avar 1) (.var 5)) (.var 1)))) (.sub (.rem (.sel (.avar 1) (.add (.var 5) (.lit (-1)))) (.var 1)) (.rem (.sel (.avar 1) (.var 5)) (.var 1)))), false), ((.inr .i64 (.add (.sub (.lit (0)) (.sub (.quo (.sel (.avar 1) (.add (.var 5) (.lit (-1)))) (.var 1)) (.quo (.sel (.avar 1) (.var 5)) (.var 1)))) (.sub (.lit (0)) (.sub (.rem (.sel (.avar 1) (.add (.var 5) (.lit (-1)))) (.var 1)) (.rem (.sel (.avar 1) (.var 5)) (.var 1)))))), true), ((.eq (.add (.sub (.lit (0)) (.sub (.quo (.sel (.avar 1) (.add (.var 5) (.lit (-1)))) (.var 1)) (.quo (.sel (.avar 1) (.var 5)) (.var 1)))) (.sub (.lit (0)) (.sub (.rem (.sel (.avar 1) (.add (.var 5) (.lit (-1)))) (.var 1)) (.rem (.sel (.avar 1) (.var 5)) (.var 1))))) (.lit (1))), true), ((.le (.sel (.avar 1) (.add (.var 5) (.lit (-1)))) (.sel (.avar 1) (.var 5))), true), ((.le (.lit (0)) (.sel (.avar 1) (.add (.var 5) (.lit (-1))))), true), ((.le (.var 2) (.sel (.avar 1) (.add (.var 5) (.lit (-1))))), false), ((.inr .i64 (.sub (.sel (.avar 0) (.sel (.avar 1) (.var 5))) (.sel (.avar 0) (.sel (.avar 1) (.add (.var 5) (.lit (-1))))))), true), ((.inr .i64 (.add (.sub (.sel (.avar 0) (.sel (.avar 1) (.var 5))) (.sel (.avar 0) (.sel (.avar 1) (.add (.var 5) (.lit (-1)))))) (.lit (2048)))), true), ((.le (.lit (0)) (.rem (.add (.sub (.sel (.avar 0) (.sel (.avar 1) (.var 5))) (.sel (.avar 0) (.sel (.avar 1) (.add (.var 5) (.lit (-1)))))) (.lit (2048))) (.lit (4096)))), false), ((.inr .i64 (.add (.rem (.add (.sub (.sel (.avar 0) (.sel (.avar 1) (.var 5))) (.sel (.avar 0) (.sel (.avar 1) (.add (.var 5) (.lit (-1)))))) (.lit (2048))) (.lit (4096))) (.lit (4096)))), true), ((.inr .i64 (.add (.rem (.add (.sub (.sel (.avar 0) (.sel (.avar 1) (.var 5))) (.sel (.avar 0) (.sel (.avar 1) (.add (.var 5) (.lit (-1)))))) (.lit (2048))) (.lit (4096))) (.lit (2048)))), true), ((.le (.var 4) (.add (.var 5) (.lit (-1)))), false), ((.inr .i64 (.add (.sel (.avar 50) (.add (.var 5) (.lit (-1)))) (.add (.rem (.add (.sub (.sel (.avar 0) (.sel (.avar 1) (.var 5))) (.sel (.avar 0) (.sel (.avar 1) (.add (.var 5) (.lit (-1)))))) (.lit (2048))) (.lit (4096))) (.lit (2048))))), true), ((.le (.var 4) (.lit (99999))), true), ((.inr .i64 (.add (.var 5) (.lit (1)))), true)] := ⟨f_nle f1 rfl rfl, f_le f2 rfl rfl, f_in f3 rfl, f_le f4 rfl rfl, f_le f5 rfl rfl, f_nle f6 rfl rfl, f_ne f7 rfl rfl, f_ne f8 rfl rfl, f_in f9 rfl, f_le f10 rfl rfl, f_nle f11 rfl rfl, f_ne f12 rfl rfl, f_in f13 rfl, f_in f14 rfl, f_in f15 rfl, f_in f16 rfl, f_nle f17 rfl rfl, f_in f18 rfl, f_in f19 rfl, f_nle f20 rfl rfl, f_in f21 rfl, f_eq f22 rfl rfl, f_le f23 rfl rfl, f_le f24 rfl rfl, f_nle f25 rfl rfl, f_in f26 rfl, f_in f27 rfl, f_nle f28 rfl rfl, f_in f29 rfl, f_in f30 rfl, f_nle f31 rfl rfl, f_in f32 rfl, f_le f33 rfl rfl, f_in f34 rfl, trivial⟩
             refine again_runP (P := Try.prog) (K := noK) (fl := []) (B := 4) (l := [.mov 2 4]) (a' := ral1_1_a) (h' := ral1_1_h) (ρ' := rhoL W.heap.size ([R, C, (n : Int), (m : Int)] ++ [(((L + 1) : Nat) : Int), (((k + 1) : Nat) : Int)]) [⟨A, n, flat1 s⟩, ⟨B, m, flat1 p⟩] [] [(fun j : Int => if j = (L : Int) then ((F ((k : Int) + (-1))) + ((Int.tmod (((flat1 s (flat1 p (k : Int))) - (flat1 s (flat1 p ((k : Int) + (-1))))) + 2048) 4096) + 2048)) else F j)]) (ds := [.int (.add (.var 4) (.lit (1))) (.var 4), .int (.add (.var 5) (.lit (1))) (.var 5), .row (.upd (.avar 50) (.var 4) (.add (.sel (.avar 50) (.add (.var 5) (.lit (-1)))) (.add (.rem (.add (.sub (.sel (.avar 0) (.sel (.avar 1) (.var 5))) (.sel (.avar 0) (.sel (.avar 1) (.add (.var 5) (.lit (-1)))))) (.lit (2048))) (.lit (4096))) (.lit (2048))))) (.avar 50), .int (.add (.var 4) (.lit (1))) (.var 4)]) (by kernel_rfl) noK_ok (facD_ok hF) (by kernel_rfl) (agree_list (l := [R, C, (n : Int), (m : Int)]) (Nat.le_refl _) rfl) ⟨(show (((L : Int) + 1) : Int) = (((L + 1) : Nat) : Int) from by first | rfl | (push_cast; omega)), (show (((k : Int) + 1) : Int) = (((k + 1) : Nat) : Int) from by first | rfl | (push_cast; omega)), rfl, (show (((L : Int) + 1) : Int) = (((L + 1) : Nat) : Int) from by first | rfl | (push_cast; omega)), trivial⟩ hs2 fun A3 W3 hs3 => ⟨_, _, _, ⟨(L + 1), (k + 1), (fun j : Int => if j = (L : Int) then ((F ((k : Int) + (-1))) + ((Int.tmod (((flat1 s (flat1 p (k : Int))) - (flat1 s (flat1 p ((k : Int) + (-1))))) + 2048) 4096) + 2048)) else F j), ?_, rfl, .inr ⟨rfl, rfl, ?_⟩⟩, ?_, hs3⟩
             · first
                 | (exfalso; omega)
                 | (have hnb : nb C (flat1 p ((k : Int) + -1)) (flat1 p (k : Int)) := by
                     rw [nb_iff hC1 (by assumption) (by assumption)]
                     unfold nbR sz
                     simp only [f1, f2, f4, f5, f6, f7, f8, f10, f11, f12, f17, f20, f22, f23, f24, f25, f28, f31, f33, if_true, if_false]
                     try omega
                    refine ⟨by omega, by omega, fun j hj => ?_, fun j hj => ?_⟩
                    · rcases Nat.lt_or_ge j k with g | g
                      · exact hz j g
                      · obtain rfl : j = k := by omega
                        unfold acode
                        simp [f1, f2, f4, f5, f6, f7, f8, f10, f11, f12, f17, f20, f22, f23, f24, f25, f28, f31, f33, hnb]
                        try omega
                    · dsimp only
                      rcases Nat.lt_or_ge j k with g | g
                      · rw [if_neg (by omega)]
                        exact hFe j g
                      · obtain rfl : j = k := by omega
                        rw [if_pos (by omega), aval_step hcond, hF1]
                        unfold stp wrp
                        simp only [f1, f2, f4, f5, f6, f7, f8, f10, f11, f12, f17, f20, f22, f23, f24, f25, f28, f31, f33, if_true, if_false]
                        try omega)
             · omega
             · show m - ((k + 1 : Nat) : Int).toNat < m - ((k : Nat) : Int).toNat
               omega
           ·
            have f24 : ((flat1 p (k : Int)) ≤ (flat1 p ((k : Int) + (-1)))) := by
             first | omega | (have h := hob (by assumption) (by assumption) (by assumption); have q6 := td_bound (a := flat1 p ((k : Int) + -1)) hp1 hC1; have q7 := td_bound (a := flat1 p (k : Int)) (by assumption) hC1; omega)
            have f25 : (0 ≤ (flat1 p ((k : Int) + (-1)))) := by
             first | omega | (have h := hob (by assumption) (by assumption) (by assumption); have q6 := td_bound (a := flat1 p ((k : Int) + -1)) hp1 hC1; have q7 := td_bound (a := flat1 p (k : Int)) (by assumption) hC1; omega)
            have f26 : ¬ ((n : Int) ≤ (flat1 p ((k : Int) + (-1)))) := by
             first | omega | (have h := hob (by assumption) (by assumption) (by assumption); have q6 := td_bound (a := flat1 p ((k : Int) + -1)) hp1 hC1; have q7 := td_bound (a := flat1 p (k : Int)) (by assumption) hC1; omega)
            have f27 : (-9223372036854775808 : Int) ≤ ((flat1 s (flat1 p ((k : Int) + (-1)))) - (flat1 s (flat1 p (k : Int)))) ∧ ((flat1 s (flat1 p ((k : Int) + (-1)))) - (flat1 s (flat1 p (k : Int)))) ≤ 9223372036854775807 := by
             first | omega | (have h := hob (by assumption) (by assumption) (by assumption); have q6 := td_bound (a := flat1 p ((k : Int) + -1)) hp1 hC1; have q7 := td_bound (a := flat1 p (k : Int)) (by assumption) hC1; omega)
            have f28 : (-9223372036854775808 : Int) ≤ (((flat1 s (flat1 p ((k : Int) + (-1)))) - (flat1 s (flat1 p (k : Int)))) + 2048) ∧ (((flat1 s (flat1 p ((k : Int) + (-1)))) - (flat1 s (flat1 p (k : Int)))) + 2048) ≤ 9223372036854775807 := by
             first | omega | (have h := hob (by assumption) (by assumption) (by assumption); have q6 := td_bound (a := flat1 p ((k : Int) + -1)) hp1 hC1; have q7 := td_bound (a := flat1 p (k : Int)) (by assumption) hC1; omega)
            by_cases f29 : 0 ≤ (Int.tmod (((flat1 s (flat1 p ((k : Int) + (-1)))) - (flat1 s (flat1 p (k : Int)))) + 2048) 4096)
            ·
             have f30 : (-9223372036854775808 : Int) ≤ ((Int.tmod (((flat1 s (flat1 p ((k : Int) + (-1)))) - (flat1 s (flat1 p (k : Int)))) + 2048) 4096) + (-2048)) ∧ ((Int.tmod (((flat1 s (flat1 p ((k : Int) + (-1)))) - (flat1 s (flat1 p (k : Int)))) + 2048) 4096) + (-2048)) ≤ 9223372036854775807 := by
              first | omega | (have h := hob (by assumption) (by assumption) (by assumption); have q6 := td_bound (a := flat1 p ((k : Int) + -1)) hp1 hC1; have q7 := td_bound (a := flat1 p (k : Int)) (by assumption) hC1; omega)
             have f31 : (-9223372036854775808 : Int) ≤ (0 - ((Int.tmod (((flat1 s (flat1 p ((k : Int) + (-1)))) - (flat1 s (flat1 p (k : Int)))) + 2048) 4096) + (-2048))) ∧ (0 - ((Int.tmod (((flat1 s (flat1 p ((k : Int) + (-1)))) - (flat1 s (flat1 p (k : Int)))) + 2048) 4096) + (-2048))) ≤ 9223372036854775807 := by
              first | omega | (have h := hob (by assumption) (by assumption) (by assumption); have q6 := td_bound (a := flat1 p ((k : Int) + -1)) hp1 hC1; have q7 := td_bound (a := flat1 p (k : Int)) (by assumption) hC1; omega)
             have f32 : ¬ ((L : Int) ≤ ((k : Int) + (-1))) := by
              first | omega | (have h := hob (by assumption) (by assumption) (by assumption); have q6 := td_bound (a := flat1 p ((k : Int) + -1)) hp1 hC1; have q7 := td_bound (a := flat1 p (k : Int)) (by assumption) hC1; omega)
             have f33 : (-9223372036854775808 : Int) ≤ ((F ((k : Int) + (-1))) + (0 - ((Int.tmod (((flat1 s (flat1 p ((k : Int) + (-1)))) - (flat1 s (flat1 p (k : Int)))) + 2048) 4096) + (-2048)))) ∧ ((F ((k : Int) + (-1))) + (0 - ((Int.tmod (((flat1 s (flat1 p ((k : Int) + (-1)))) - (flat1 s (flat1 p (k : Int)))) + 2048) 4096) + (-2048)))) ≤ 9223372036854775807 := by
              first | omega | (have h := hob (by assumption) (by assumption) (by assumption); have q6 := td_bound (a := flat1 p ((k : Int) + -1)) hp1 hC1; have q7 := td_bound (a := flat1 p (k : Int)) (by assumption) hC1; omega)
             have f34 : ((L : Int) ≤ 99999) := by
              first | omega | (have h := hob (by assumption) (by assumption) (by assumption); have q6 := td_bound (a := flat1 p ((k : Int) + -1)) hp1 hC1; have q7 := td_bound (a := flat1 p (k : Int)) (by assumption) hC1; omega)
             have f35 : (-9223372036854775808 : Int) ≤ ((k : Int) + 1) ∧ ((k : Int) + 1) ≤ 9223372036854775807 := by
              first | omega | (have h := hob (by assumption) (by assumption) (by assumption); have q6 := td_bound (a := flat1 p ((k : Int) + -1)) hp1 hC1; have q7 := td_bound (a := flat1 p (k : Int)) (by assumption) hC1; omega)
             have hF : Facts [((.le (.var 3) (.var 5)), false), ((.le (.lit (0)) (.var 5)), true), ((.inr .i64 (.add (.var 2) (.lit (-1)))), true), ((.le (.lit (0)) (.sel (.avar 1) (.var 5))), true), ((.le (.sel (.avar 1) (.var 5)) (.add (.var 2) (.lit (-1)))), true), ((.le (.var 2) (.sel (.avar 1) (.var 5))), false), ((.eq (.sel (.avar 0) (.sel (.avar 1) (.var 5))) (.lit (1000000000000))), false), ((.eq (.var 5) (.lit (0))), false), ((.inr .i64 (.add (.var 5) (.lit (-1)))), true), ((.le (.lit (0)) (.add (.var 5) (.lit (-1)))), true), ((.le (.var 3) (.add (.var 5) (.lit (-1)))), false), ((.eq (.var 1) (.lit (0))), false), ((.inr .i64 (.quo (.sel (.avar 1) (.add (.var 5) (.lit (-1)))) (.var 1))), true), ((.inr .i64 (.quo (.sel (.avar 1) (.var 5)) (.var 1))), true), ((.inr .i64 (.sub (.quo (.sel (.avar 1) (.add (.var 5) (.lit (-1)))) (.var 1)) (.quo (.sel (.avar 1) (.var 5)) (.var 1)))), true), ((.inr .i64 (.sub (.lit (0)) (.sub (.quo (.sel (.avar 1) (.add (.var 5) (.lit (-1)))) (.var 1)) (.quo (.sel (.avar 1) (.var 5)) (.var 1))))), true), ((.le (.sub (.lit (0)) (.sub (.quo (.sel (.avar 1) (.add (.var 5) (.lit (-1)))) (.var 1)) (.quo (.sel (.avar 1) (.var 5)) (.var 1)))) (.sub (.quo (.sel (.avar 1) (.add (.var 5) (.lit (-1)))) (.var 1)) (.quo (.sel (.avar 1) (.var 5)) (.var 1)))), false), ((.inr .i64 (.sub (.rem (.sel (.avar 1) (.add (.var 5) (.lit (-1)))) (.var 1)) (.rem (.sel (.avar 1) (.var 5)) (.var 1)))), true), ((.inr .i64 (.sub (.lit (0)) (.sub (.rem (.sel (.avar 1) (.add (.var 5) (.lit (-1)))) (.var 1)) (.rem (.sel (.avar 1) (.var 5)) (.var 1))))), true), ((.le (.sub (.lit (0)) (.sub (.rem (.sel (.avar 1) (.add (.var 5) (.lit (-1)))) (.var 1)) (.rem (.sel (.avar 1) (.var 5)) (.var 1)))) (.sub (.rem (.sel (.avar 1) (.add (.var 5) (.lit (-1)))) (.var 1)) (.rem (.sel (.avar 1) (.var 5)) (.var 1)))), false), ((.inr .i64 (.add (.sub (.lit (0)) (.sub (.quo (.sel (.avar 1) (.add (.var 5) (.lit (-1)))) (.var 1)) (.quo (.sel (.avar 1) (.var 5)) (.var 1)))) (.sub (.lit (0)) (.sub (.rem (.sel (.avar 1) (.add (.var 5) (.lit (-1)))) (.var 1)) (.rem (.sel (.avar 1) (.var 5)) (.var 1)))))), true), ((.eq (.add (.sub (.lit (0)) (.sub (.quo (.sel (.avar 1) (.add (.var 5) (.lit (-1)))) (.var 1)) (.quo (.sel (.avar 1) (.var 5)) (.var 1)))) (.sub (.lit (0)) (.sub (.rem (.sel (.avar 1) (.add (.var 5) (.lit (-1)))) (.var 1)) (.rem (.sel (.avar 1) (.var 5)) (.var 1))))) (.lit (1))), true), ((.le (.sel (.avar 1) (.add (.var 5) (.lit (-1)))) (.sel (.avar 1) (.var 5))), false), ((.le (.sel (.avar 1) (.var 5)) (.sel (.avar 1) (.add (.var 5) (.lit (-1))))), true), ((.le (.lit (0)) (.sel (.avar 1) (.add (.var 5) (.lit (-1))))), true), ((.le (.var 2) (.sel (.avar 1) (.add (.var 5) (.lit (-1))))), false), ((.inr .i64 (.sub (.sel (.avar 0) (.sel (.avar 1) (.add (.var 5) (.lit (-1))))) (.sel (.avar 0) (.sel (.avar 1) (.var 5))))), true), ((.inr .i64 (.add (.sub (.sel (.avar 0) (.sel (.avar 1) (.add (.var 5) (.lit (-1))))) (.sel (.avar 0) (.sel (.avar 1) (.var 5)))) (.lit (2048)))), true), ((.le (.lit (0)) (.rem (.add (.sub (.sel (.avar 0) (.sel (.avar 1) (.add (.var 5) (.lit (-1))))) (.sel (.avar 0) (.sel (.avar 1) (.var 5)))) (.lit (2048))) (.lit (4096)))), true), ((.inr .i64 (.add (.rem (.add (.sub (.sel (.avar 0) (.sel (.avar 1) (.add (.var 5) (.lit (-1))))) (.sel (.avar 0) (.sel (.avar 1) (.var 5)))) (.lit (2048))) (.lit (4096))) (.lit (-2048)))), true), ((.inr .i64 (.sub (.lit (0)) (.add (.rem (.add (.sub (.sel (.avar 0) (.sel (.avar 1) (.add (.var 5) (.lit (-1))))) (.sel (.avar 0) (.sel (.avar 1) (.var 5)))) (.lit (2048))) (.lit (4096))) (.lit (-2048))))), true), ((.le (.var 4) (.add (.var 5) (.lit (-1)))), false), ((.inr .i64 (.add (.sel (.avar 50) (.add (.var 5) (.lit (-1)))) (.sub (.lit (0)) (.add (.rem (.add (.sub (.sel (.avar 0) (.sel (.avar 1) (.add (.var 5) (.lit (-1))))) (.sel (.avar 0) (.sel (.avar 1) (.var 5)))) (.lit (2048))) (.lit (4096))) (.lit (-2048)))))), true), ((.le (.var 4) (.lit (99999))), true), ((.inr .i64 (.add (.var 5) (.lit (1)))), true)] := ⟨f_nle f1 rfl rfl, f_le f2 rfl rfl, f_in f3 rfl, f_le f4 rfl rfl, f_le f5 rfl rfl, f_nle f6 rfl rfl, f_ne f7 rfl rfl, f_ne f8 rfl rfl, f_in f9 rfl, f_le f10 rfl rfl, f_nle f11 rfl rfl, f_ne f12 rfl rfl, f_in f13 rfl, f_in f14 rfl, f_in f15 rfl, f_in f16 rfl, f_nle f17 rfl rfl, f_in f18 rfl, f_in f19 rfl, f_nle f20 rfl rfl, f_in f21 rfl, f_eq f22 rfl rfl, f_nle f23 rfl rfl, f_le f24 rfl rfl, f_le f25 rfl rfl, f_nle f26 rfl rfl, f_in f27 rfl, f_in f28 rfl, f_le f29 rfl rfl, f_in f30 rfl, f_in f31 rfl, f_nle f32 rfl rfl, f_in f33 rfl, f_le f34 rfl rfl, f_in f35 rfl, trivial⟩
             refine again_runP (P := Try.prog) (K := noK) (fl := []) (B := 4) (l := [.mov 2 4]) (a' := ral1_1_a) (h' := ral1_1_h) (ρ' := rhoL W.heap.size ([R, C, (n : Int), (m : Int)] ++ [(((L + 1) : Nat) : Int), (((k + 1) : Nat) : Int)]) [⟨A, n, flat1 s⟩, ⟨B, m, flat1 p⟩] [] [(fun j : Int => if j = (L : Int) then ((F ((k : Int) + (-1))) + (0 - ((Int.tmod (((flat1 s (flat1 p ((k : Int) + (-1)))) - (flat1 s (flat1 p (k : Int)))) + 2048) 4096) + (-2048)))) else F j)]) (ds := [.int (.add (.var 4) (.lit (1))) (.var 4), .int (.add (.var 5) (.lit (1))) (.var 5), .row (.upd (.avar 50) (.var 4) (.add (.sel (.avar 50) (.add (.var 5) (.lit (-1)))) (.sub (.lit (0)) (.add (.rem (.add (.sub (.sel (.avar 0) (.sel (.avar 1) (.add (.var 5) (.lit (-1))))) (.sel (.avar 0) (.sel (.avar 1) (.var 5)))) (.lit (2048))) (.lit (4096))) (.lit (-2048)))))) (.avar 50), .int (.add (.var 4) (.lit (1))) (.var 4)]) (by kernel_rfl) noK_ok (facD_ok hF) (by kernel_rfl) (agree_list (l := [R, C, (n : Int), (m : Int)]) (Nat.le_refl _) rfl) ⟨(show (((L : Int) + 1) : Int) = (((L + 1) : Nat) : Int) from by first | rfl | (push_cast; omega)), (show (((k : Int) + 1) : Int) = (((k + 1) : Nat) : Int) from by first | rfl | (push_cast; omega)), rfl, (show (((L : Int) + 1) : Int) = (((L + 1) : Nat) : Int) from by first | rfl | (push_cast; omega)), trivial⟩ hs2 fun A3 W3 hs3 => ⟨_, _, _, ⟨(L + 1), (k + 1), (fun j : Int => if j = (L : Int) then ((F ((k : Int) + (-1))) + (0 - ((Int.tmod (((flat1 s (flat1 p ((k : Int) + (-1)))) - (flat1 s (flat1 p (k : Int)))) + 2048) 4096) + (-2048)))) else F j), ?_, rfl, .inr ⟨rfl, rfl, ?_⟩⟩, ?_, hs3⟩
             · first
                 | (exfalso; omega)
                 | (have hnb : nb C (flat1 p ((k : Int) + -1)) (flat1 p (k : Int)) := by
                     rw [nb_iff hC1 (by assumption) (by assumption)]
                     unfold nbR sz
                     simp only [f1, f2, f4, f5, f6, f7, f8, f10, f11, f12, f17, f20, f22, f23, f24, f25, f26, f29, f32, f34, if_true, if_false]
                     try omega
                    refine ⟨by omega, by omega, fun j hj => ?_, fun j hj => ?_⟩
                    · rcases Nat.lt_or_ge j k with g | g
                      · exact hz j g
                      · obtain rfl : j = k := by omega
                        unfold acode
                        simp [f1, f2, f4, f5, f6, f7, f8, f10, f11, f12, f17, f20, f22, f23, f24, f25, f26, f29, f32, f34, hnb]
                        try omega
                    · dsimp only
                      rcases Nat.lt_or_ge j k with g | g
                      · rw [if_neg (by omega)]
                        exact hFe j g
                      · obtain rfl : j = k := by omega
                        rw [if_pos (by omega), aval_step hcond, hF1]
                        unfold stp wrp
                        simp only [f1, f2, f4, f5, f6, f7, f8, f10, f11, f12, f17, f20, f22, f23, f24, f25, f26, f29, f32, f34, if_true, if_false]
                        try omega)
             · omega
             · show m - ((k + 1 : Nat) : Int).toNat < m - ((k : Nat) : Int).toNat
               omega
            ·
             have f30 : (-9223372036854775808 : Int) ≤ ((Int.tmod (((flat1 s (flat1 p ((k : Int) + (-1)))) - (flat1 s (flat1 p (k : Int)))) + 2048) 4096) + 4096) ∧ ((Int.tmod (((flat1 s (flat1 p ((k : Int) + (-1)))) - (flat1 s (flat1 p (k : Int)))) + 2048) 4096) + 4096) ≤ 9223372036854775807 := by
              first | omega | (have h := hob (by assumption) (by assumption) (by assumption); have q6 := td_bound (a := flat1 p ((k : Int) + -1)) hp1 hC1; have q7 := td_bound (a := flat1 p (k : Int)) (by assumption) hC1; omega)
             have f31 : (-9223372036854775808 : Int) ≤ ((Int.tmod (((flat1 s (flat1 p ((k : Int) + (-1)))) - (flat1 s (flat1 p (k : Int)))) + 2048) 4096) + 2048) ∧ ((Int.tmod (((flat1 s (flat1 p ((k : Int) + (-1)))) - (flat1 s (flat1 p (k : Int)))) + 2048) 4096) + 2048) ≤ 9223372036854775807 := by
              first | omega | (have h := hob (by assumption) (by assumption) (by assumption); have q6 := td_bound (a := flat1 p ((k : Int) + -1)) hp1 hC1; have q7 := td_bound (a := flat1 p (k : Int)) (by assumption) hC1; omega)
             have f32 : (-9223372036854775808 : Int) ≤ (0 - ((Int.tmod (((flat1 s (flat1 p ((k : Int) + (-1)))) - (flat1 s (flat1 p (k : Int)))) + 2048) 4096) + 2048)) ∧ (0 - ((Int.tmod (((flat1 s (flat1 p ((k : Int) + (-1)))) - (flat1 s (flat1 p (k : Int)))) + 2048) 4096) + 2048)) ≤ 9223372036854775807 := by
              first | omega | (have h := hob (by assumption) (by assumption) (by assumption); have q6 := td_bound (a := flat1 p ((k : Int) + -1)) hp1 hC1; have q7 := td_bound (a := flat1 p (k : Int)) (by assumption) hC1; omega)
             have f33 : ¬ ((L : Int) ≤ ((k : Int) + (-1))) := by
              first | omega | (have h := hob (by assumption) (by assumption) (by assumption); have q6 := td_bound (a := flat1 p ((k : Int) + -1)) hp1 hC1; have q7 := td_bound (a := flat1 p (k : Int)) (by assumption) hC1; omega)
             have f34 : (-9223372036854775808 : Int) ≤ ((F ((k : Int) + (-1))) + (0 - ((Int.tmod (((flat1 s (flat1 p ((k : Int) + (-1)))) - (flat1 s (flat1 p (k : Int)))) + 2048) 4096) + 2048))) ∧ ((F ((k : Int) + (-1))) + (0 - ((Int.tmod (((flat1 s (flat1 p ((k : Int) + (-1)))) - (flat1 s (flat1 p (k : Int)))) + 2048) 4096) + 2048))) ≤ 9223372036854775807 := by
              first | omega | (have h := hob (by assumption) (by assumption) (by assumption); have q6 := td_bound (a := flat1 p ((k : Int) + -1)) hp1 hC1; have q7 := td_bound (a := flat1 p (k : Int)) (by assumption) hC1; omega)
             have f35 : ((L : Int) ≤ 99999) := by
              first | omega | (have h := hob (by assumption) (by assumption) (by assumption); have q6 := td_bound (a := flat1 p ((k : Int) + -1)) hp1 hC1; have q7 := td_bound (a := flat1 p (k : Int)) (by assumption) hC1; omega)
             have f36 : (-9223372036854775808 : Int) ≤ ((k : Int) + 1) ∧ ((k : Int) + 1) ≤ 9223372036854775807 := by
              first | omega | (have h := hob (by assumption) (by assumption) (by assumption); have q6 := td_bound (a := flat1 p ((k : Int) + -1)) hp1 hC1; have q7 := td_bound (a := flat1 p (k : Int)) (by assumption) hC1; omega)
             have hF : Facts [((.le (.var 3) (.var 5)), false), ((.le (.lit (0)) (.var 5)), true), ((.inr .i64 (.add (.var 2) (.lit (-1)))), true), ((.le (.lit (0)) (.sel (.avar 1) (.var 5))), true), ((.le (.sel (.avar 1) (.var 5)) (.add (.var 2) (.lit (-1)))), true), ((.le (.var 2) (.sel (.avar 1) (.var 5))), false), ((.eq (.sel (.avar 0) (.sel (.avar 1) (.var 5))) (.lit (1000000000000))), false), ((.eq (.var 5) (.lit (0))), false), ((.inr .i64 (.add (.var 5) (.lit (-1)))), true), ((.le (.lit (0)) (.add (.var 5) (.lit (-1)))), true), ((.le (.var 3) (.add (.var 5) (.lit (-1)))), false), ((.eq (.var 1) (.lit (0))), false), ((.inr .i64 (.quo (.sel (.avar 1) (.add (.var 5) (.lit (-1)))) (.var 1))), true), ((.inr .i64 (.quo (.sel (.avar 1) (.var 5)) (.var 1))), true), ((.inr .i64 (.sub (.quo (.sel (.avar 1) (.add (.var 5) (.lit (-1)))) (.var 1)) (.quo (.sel (.avar 1) (.var 5)) (.var 1)))), true), ((.inr .i64 (.sub (.lit (0)) (.sub (.quo (.sel (.avar 1) (.add (.var 5) (.lit (-1)))) (.var 1)) (.quo (.sel (.avar 1) (.var 5)) (.var 1))))), true), ((.le (.sub (.lit (0)) (.sub (.quo (.sel (.avar 1) (.add (.var 5) (.lit (-1)))) (.var 1)) (.quo (.sel (.avar 1) (.var 5)) (.var 1)))) (.sub (.quo (.sel (.avar 1) (.add (.var 5) (.lit (-1)))) (.var 1)) (.quo (.sel (.avar 1) (.var 5)) (.var 1)))), false), ((.inr .i64 (.sub (.rem (.sel (.avar 1) (.add (.var 5) (.lit (-1)))) (.var 1)) (.rem (.sel (.avar 1) (.var 5)) (.var 1)))), true), ((.inr .i64 (.sub (.lit (0)) (.sub (.rem (.sel (.avar 1) (.add (.var 5) (.lit (-1)))) (.var 1)) (.rem (.sel (.avar 1) (.var 5)) (.var 1))))), true), ((.le (.sub (.lit (0)) (.sub (.rem (.sel (.avar 1) (.add (.var 5) (.lit (-1)))) (.var 1)) (.rem (.sel (.avar 1) (.var 5)) (.var 1)))) (.sub (.rem (.sel (.avar 1) (.add (.var 5) (.lit (-1)))) (.var 1)) (.rem (.sel (.avar 1) (.var 5)) (.var 1)))), false), ((.inr .i64 (.add (.sub (.lit (0)) (.sub (.quo (.sel (.avar 1) (.add (.var 5) (.lit (-1)))) (.var 1)) (.quo (.sel (.avar 1) (.var 5)) (.var 1)))) (.sub (.lit (0)) (.sub (.rem (.sel (.avar 1) (.add (.var 5) (.lit (-1)))) (.var 1)) (.rem (.sel (.avar 1) (.var 5)) (.var 1)))))), true), ((.eq (.add (.sub (.lit (0)) (.sub (.quo (.sel (.avar 1) (.add (.var 5) (.lit (-1)))) (.var 1)) (.quo (.sel (.avar 1) (.var 5)) (.var 1)))) (.sub (.lit (0)) (.sub (.rem (.sel (.avar 1) (.add (.var 5) (.lit (-1)))) (.var 1)) (.rem (.sel (.avar 1) (.var 5)) (.var 1))))) (.lit (1))), true), ((.le (.sel (.avar 1) (.add (.var 5) (.lit (-1)))) (.sel (.avar 1) (.var 5))), false), ((.le (.sel (.avar 1) (.var 5)) (.sel (.avar 1) (.add (.var 5) (.lit (-1))))), true), ((.le (.lit (0)) (.sel (.avar 1) (.add (.var 5) (.lit (-1))))), true), ((.le (.var 2) (.sel (.avar 1) (.add (.var 5) (.lit (-1))))), false), ((.inr .i64 (.sub (.sel (.avar 0) (.sel (.avar 1) (.add (.var 5) (.lit (-1))))) (.sel (.avar 0) (.sel (.avar 1) (.var 5))))), true), ((.inr .i64 (.add (.sub (.sel (.avar 0) (.sel (.avar 1) (.add (.var 5) (.lit (-1))))) (.sel (.avar 0) (.sel (.avar 1) (.var 5)))) (.lit (2048)))), true), ((.le (.lit (0)) (.rem (.add (.sub (.sel (.avar 0) (.sel (.avar 1) (.add (.var 5) (.lit (-1))))) (.sel (.avar 0) (.sel (.avar 1) (.var 5)))) (.lit (2048))) (.lit (4096)))), false), ((.inr .i64 (.add (.rem (.add (.sub (.sel (.avar 0) (.sel (.avar 1) (.add (.var 5) (.lit (-1))))) (.sel (.avar 0) (.sel (.avar 1) (.var 5)))) (.lit (2048))) (.lit (4096))) (.lit (4096)))), true), ((.inr .i64 (.add (.rem (.add (.sub (.sel (.avar 0) (.sel (.avar 1) (.add (.var 5) (.lit (-1))))) (.sel (.avar 0) (.sel (.avar 1) (.var 5)))) (.lit (2048))) (.lit (4096))) (.lit (2048)))), true), ((.inr .i64 (.sub (.lit (0)) (.add (.rem (.add (.sub (.sel (.avar 0) (.sel (.avar 1) (.add (.var 5) (.lit (-1))))) (.sel (.avar 0) (.sel (.avar 1) (.var 5)))) (.lit (2048))) (.lit (4096))) (.lit (2048))))), true), ((.le (.var 4) (.add (.var 5) (.lit (-1)))), false), ((.inr .i64 (.add (.sel (.avar 50) (.add (.var 5) (.lit (-1)))) (.sub (.lit (0)) (.add (.rem (.add (.sub (.sel (.avar 0) (.sel (.avar 1) (.add (.var 5) (.lit (-1))))) (.sel (.avar 0) (.sel (.avar 1) (.var 5)))) (.lit (2048))) (.lit (4096))) (.lit (2048)))))), true), ((.le (.var 4) (.lit (99999))), true), ((.inr .i64 (.add (.var 5) (.lit (1)))), true)] := ⟨f_nle f1 rfl rfl, f_le f2 rfl rfl, f_in f3 rfl, f_le f4 rfl rfl, f_le f5 rfl rfl, f_nle f6 rfl rfl, f_ne f7 rfl rfl, f_ne f8 rfl rfl, f_in f9 rfl, f_le f10 rfl rfl, f_nle f11 rfl rfl, f_ne f12 rfl rfl, f_in f13 rfl, f_in f14 rfl, f_in f15 rfl, f_in f16 rfl, f_nle f17 rfl rfl, f_in f18 rfl, f_in f19 rfl, f_nle f20 rfl rfl, f_in f21 rfl, f_eq f22 rfl rfl, f_nle f23 rfl rfl, f_le f24 rfl rfl, f_le f25 rfl rfl, f_nle f26 rfl rfl, f_in f27 rfl, f_in f28 rfl, f_nle f29 rfl rfl, f_in f30 rfl, f_in f31 rfl, f_in f32 rfl, f_nle f33 rfl rfl, f_in f34 rfl, f_le f35 rfl rfl, f_in f36 rfl, trivial⟩
             refine again_runP (P := Try.prog) (K := noK) (fl := []) (B := 4) (l := [.mov 2 4]) (a' := ral1_1_a) (h' := ral1_1_h) (ρ' := rhoL W.heap.size ([R, C, (n : Int), (m : Int)] ++ [(((L + 1) : Nat) : Int), (((k + 1) : Nat) : Int)]) [⟨A, n, flat1 s⟩, ⟨B, m, flat1 p⟩] [] [(fun j : Int => if j = (L : Int) then ((F ((k : Int) + (-1))) + (0 - ((Int.tmod (((flat1 s (flat1 p ((k : Int) + (-1)))) - (flat1 s (flat1 p (k : Int)))) + 2048) 4096) + 2048))) else F j)]) (ds := [.int (.add (.var 4) (.lit (1))) (.var 4), .int (.add (.var 5) (.lit (1))) (.var 5), .row (.upd (.avar 50) (.var 4) (.add (.sel (.avar 50) (.add (.var 5) (.lit (-1)))) (.sub (.lit (0)) (.add (.rem (.add (.sub (.sel (.avar 0) (.sel (.avar 1) (.add (.var 5) (.lit (-1))))) (.sel (.avar 0) (.sel (.avar 1) (.var 5)))) (.lit (2048))) (.lit (4096))) (.lit (2048)))))) (.avar 50), .int (.add (.var 4) (.lit (1))) (.var 4)]) (by kernel_rfl) noK_ok (facD_ok hF) (by kernel_rfl) (agree_list (l := [R, C, (n : Int), (m : Int)]) (Nat.le_refl _) rfl) ⟨(show (((L : Int) + 1) : Int) = (((L + 1) : Nat) : Int) from by first | rfl | (push_cast; omega)), (show (((k : Int) + 1) : Int) = (((k + 1) : Nat) : Int) from by first | rfl | (push_cast; omega)), rfl, (show (((L : Int) + 1) : Int) = (((L + 1) : Nat) : Int) from by first | rfl | (push_cast; omega)), trivial⟩ hs2 fun A3 W3 hs3 => ⟨_, _, _, ⟨(L + 1), (k + 1), (fun j : Int => if j = (L : Int) then ((F ((k : Int) + (-1))) + (0 - ((Int.tmod (((flat1 s (flat1 p ((k : Int) + (-1)))) - (flat1 s (flat1 p (k : Int)))) + 2048) 4096) + 2048))) else F j), ?_, rfl, .inr ⟨rfl, rfl, ?_⟩⟩, ?_, hs3⟩
             · first
                 | (exfalso; omega)
                 | (have hnb : nb C (flat1 p ((k : Int) + -1)) (flat1 p (k : Int)) := by
                     rw [nb_iff hC1 (by assumption) (by assumption)]
                     unfold nbR sz
                     simp only [f1, f2, f4, f5, f6, f7, f8, f10, f11, f12, f17, f20, f22, f23, f24, f25, f26, f29, f33, f35, if_true, if_false]
                     try omega
                    refine ⟨by omega, by omega, fun j hj => ?_, fun j hj => ?_⟩
                    · rcases Nat.lt_or_ge j k with g | g
                      · exact hz j g
                      · obtain rfl : j = k := by omega
                        unfold acode
                        simp [f1, f2, f4, f5, f6, f7, f8, f10, f11, f12, f17, f20, f22, f23, f24, f25, f26, f29, f33, f35, hnb]
                        try omega
                    · dsimp only
                      rcases Nat.lt_or_ge j k with g | g
                      · rw [if_neg (by omega)]
                        exact hFe j g
                      · obtain rfl : j = k := by omega
                        rw [if_pos (by omega), aval_step hcond, hF1]
                        unfold stp wrp
                        simp only [f1, f2, f4, f5, f6, f7, f8, f10, f11, f12, f17, f20, f22, f23, f24, f25, f26, f29, f33, f35, if_true, if_false]
                        try omega)
             · omega
             · show m - ((k + 1 : Nat) : Int).toNat < m - ((k : Nat) : Int).toNat
               omega
          ·
           have hF : Facts [((.le (.var 3) (.var 5)), false), ((.le (.lit (0)) (.var 5)), true), ((.inr .i64 (.add (.var 2) (.lit (-1)))), true), ((.le (.lit (0)) (.sel (.avar 1) (.var 5))), true), ((.le (.sel (.avar 1) (.var 5)) (.add (.var 2) (.lit (-1)))), true), ((.le (.var 2) (.sel (.avar 1) (.var 5))), false), ((.eq (.sel (.avar 0) (.sel (.avar 1) (.var 5))) (.lit (1000000000000))), false), ((.eq (.var 5) (.lit (0))), false), ((.inr .i64 (.add (.var 5) (.lit (-1)))), true), ((.le (.lit (0)) (.add (.var 5) (.lit (-1)))), true), ((.le (.var 3) (.add (.var 5) (.lit (-1)))), false), ((.eq (.var 1) (.lit (0))), false), ((.inr .i64 (.quo (.sel (.avar 1) (.add (.var 5) (.lit (-1)))) (.var 1))), true), ((.inr .i64 (.quo (.sel (.avar 1) (.var 5)) (.var 1))), true), ((.inr .i64 (.sub (.quo (.sel (.avar 1) (.add (.var 5) (.lit (-1)))) (.var 1)) (.quo (.sel (.avar 1) (.var 5)) (.var 1)))), true), ((.inr .i64 (.sub (.lit (0)) (.sub (.quo (.sel (.avar 1) (.add (.var 5) (.lit (-1)))) (.var 1)) (.quo (.sel (.avar 1) (.var 5)) (.var 1))))), true), ((.le (.sub (.lit (0)) (.sub (.quo (.sel (.avar 1) (.add (.var 5) (.lit (-1)))) (.var 1)) (.quo (.sel (.avar 1) (.var 5)) (.var 1)))) (.sub (.quo (.sel (.avar 1) (.add (.var 5) (.lit (-1)))) (.var 1)) (.quo (.sel (.avar 1) (.var 5)) (.var 1)))), false), ((.inr .i64 (.sub (.rem (.sel (.avar 1) (.add (.var 5) (.lit (-1)))) (.var 1)) (.rem (.sel (.avar 1) (.var 5)) (.var 1)))), true), ((.inr .i64 (.sub (.lit (0)) (.sub (.rem (.sel (.avar 1) (.add (.var 5) (.lit (-1)))) (.var 1)) (.rem (.sel (.avar 1) (.var 5)) (.var 1))))), true), ((.le (.sub (.lit (0)) (.sub (.rem (.sel (.avar 1) (.add (.var 5) (.lit (-1)))) (.var 1)) (.rem (.sel (.avar 1) (.var 5)) (.var 1)))) (.sub (.rem (.sel (.avar 1) (.add (.var 5) (.lit (-1)))) (.var 1)) (.rem (.sel (.avar 1) (.var 5)) (.var 1)))), false), ((.inr .i64 (.add (.sub (.lit (0)) (.sub (.quo (.sel (.avar 1) (.add (.var 5) (.lit (-1)))) (.var 1)) (.quo (.sel (.avar 1) (.var 5)) (.var 1)))) (.sub (.lit (0)) (.sub (.rem (.sel (.avar 1) (.add (.var 5) (.lit (-1)))) (.var 1)) (.rem (.sel (.avar 1) (.var 5)) (.var 1)))))), true), ((.eq (.add (.sub (.lit (0)) (.sub (.quo (.sel (.avar 1) (.add (.var 5) (.lit (-1)))) (.var 1)) (.quo (.sel (.avar 1) (.var 5)) (.var 1)))) (.sub (.lit (0)) (.sub (.rem (.sel (.avar 1) (.add (.var 5) (.lit (-1)))) (.var 1)) (.rem (.sel (.avar 1) (.var 5)) (.var 1))))) (.lit (1))), false)] := ⟨f_nle f1 rfl rfl, f_le f2 rfl rfl, f_in f3 rfl, f_le f4 rfl rfl, f_le f5 rfl rfl, f_nle f6 rfl rfl, f_ne f7 rfl rfl, f_ne f8 rfl rfl, f_in f9 rfl, f_le f10 rfl rfl, f_nle f11 rfl rfl, f_ne f12 rfl rfl, f_in f13 rfl, f_in f14 rfl, f_in f15 rfl, f_in f16 rfl, f_nle f17 rfl rfl, f_in f18 rfl, f_in f19 rfl, f_nle f20 rfl rfl, f_in f21 rfl, f_ne f22 rfl rfl, trivial⟩
           refine out_run (P := Try.prog) (K := noK) (fl := []) (by kernel_rfl) noK_ok (facD_ok hF) hs2 (fin_gen (r := (.tup [(.pl (.slice none 0 0)), (.pl (.int .i64 (14)))])) (h' := { bl := [some (.row (.avar 50) (.var 4) 3 1), some (.cells [(.si .i64 (.sel (.avar 0) (.sel (.avar 1) (.lit (0)))))] 3 false), some (.cells [(.si .i64 (.var 0)), (.si .i64 (.var 1)), (.fsl 0 1 (.lit (0)) (.var 2))] 40 false)], n := 3, base := 0, ch := [] }) (by kernel_rfl) fun V mb gb v W' hv hw hbel => ?_)
           obtain rfl := rep_den _ (.tuple #[.slice none 0 0, .int .i64 14]) _ rfl hv
           first
             | (exfalso; omega)
             | (have hnb : ¬ nb C (flat1 p ((k : Int) + -1)) (flat1 p (k : Int)) := by
                  rw [nb_iff hC1 (by assumption) (by assumption)]
                  unfold nbR sz
                  simp only [f1, f2, f4, f5, f6, f7, f8, f10, f11, f12, f17, f20, f22, if_true, if_false]
                  first | assumption | exact not_false | (intro hx; exact hx) | (intro hx; exact absurd hx (by simp)) | omega
                have hc : acode C n (flat1 s) (flat1 p) k = 14 := by
                 unfold acode
                 simp [f1, f2, f4, f5, f6, f7, f8, f10, f11, f12, f17, f20, f22, hnb]
                 try omega
                have e : rErr C n s m p = 14 := by rw [rErr_in hm200, fw_hit (k := k) hz (by rw [hc]; decide) (by omega), hc]
                exact ⟨.inl ⟨by rw [e]; decide, by rw [e]⟩, hbel⟩)
     ·
      have hF : Facts [((.le (.var 3) (.var 5)), false), ((.le (.lit (0)) (.var 5)), true), ((.inr .i64 (.add (.var 2) (.lit (-1)))), true), ((.le (.lit (0)) (.sel (.avar 1) (.var 5))), true), ((.le (.sel (.avar 1) (.var 5)) (.add (.var 2) (.lit (-1)))), false)] := ⟨f_nle f1 rfl rfl, f_le f2 rfl rfl, f_in f3 rfl, f_le f4 rfl rfl, f_nle f5 rfl rfl, trivial⟩
      refine out_run (P := Try.prog) (K := noK) (fl := []) (by kernel_rfl) noK_ok (facD_ok hF) hs2 (fin_gen (r := (.tup [(.pl (.slice none 0 0)), (.pl (.int .i64 (6)))])) (h' := { bl := [some (.row (.avar 50) (.var 4) 3 1), some (.cells [(.si .i64 (.sel (.avar 0) (.sel (.avar 1) (.lit (0)))))] 3 false), some (.cells [(.si .i64 (.var 0)), (.si .i64 (.var 1)), (.fsl 0 1 (.lit (0)) (.var 2))] 40 false)], n := 3, base := 0, ch := [] }) (by kernel_rfl) fun V mb gb v W' hv hw hbel => ?_)
      obtain rfl := rep_den _ (.tuple #[.slice none 0 0, .int .i64 6]) _ rfl hv
      first
        | (exfalso; omega)
        | (have hc : acode C n (flat1 s) (flat1 p) k = 6 := by
            unfold acode
            simp [f1, f2, f4, f5]
            try omega
           have e : rErr C n s m p = 6 := by rw [rErr_in hm200, fw_hit (k := k) hz (by rw [hc]; decide) (by omega), hc]
           exact ⟨.inl ⟨by rw [e]; decide, by rw [e]⟩, hbel⟩)
    ·
     have hF : Facts [((.le (.var 3) (.var 5)), false), ((.le (.lit (0)) (.var 5)), true), ((.inr .i64 (.add (.var 2) (.lit (-1)))), true), ((.le (.lit (0)) (.sel (.avar 1) (.var 5))), false)] := ⟨f_nle f1 rfl rfl, f_le f2 rfl rfl, f_in f3 rfl, f_nle f4 rfl rfl, trivial⟩
     refine out_run (P := Try.prog) (K := noK) (fl := []) (by kernel_rfl) noK_ok (facD_ok hF) hs2 (fin_gen (r := (.tup [(.pl (.slice none 0 0)), (.pl (.int .i64 (6)))])) (h' := { bl := [some (.row (.avar 50) (.var 4) 3 1), some (.cells [(.si .i64 (.sel (.avar 0) (.sel (.avar 1) (.lit (0)))))] 3 false), some (.cells [(.si .i64 (.var 0)), (.si .i64 (.var 1)), (.fsl 0 1 (.lit (0)) (.var 2))] 40 false)], n := 3, base := 0, ch := [] }) (by kernel_rfl) fun V mb gb v W' hv hw hbel => ?_)
     obtain rfl := rep_den _ (.tuple #[.slice none 0 0, .int .i64 6]) _ rfl hv
     first
       | (exfalso; omega)
       | (have hc : acode C n (flat1 s) (flat1 p) k = 6 := by
           unfold acode
           simp [f1, f2, f4]
           try omega
          have e : rErr C n s m p = 6 := by rw [rErr_in hm200, fw_hit (k := k) hz (by rw [hc]; decide) (by omega), hc]
          exact ⟨.inl ⟨by rw [e]; decide, by rw [e]⟩, hbel⟩)
 ·
  have hF : Facts [((.le (.var 3) (.lit (200))), false)] := ⟨f_nle f1 rfl rfl, trivial⟩
  refine call_start (P := Try.prog) (K := noK) (fl := []) (by kernel_rfl) (by kernel_rfl) hx hfar noK_ok (facD_ok hF) (fin_gen (r := (.tup [(.pl (.slice none 0 0)), (.pl (.int .i64 (8)))])) (h' := { bl := [some (.cells [(.si .i64 (.var 0)), (.si .i64 (.var 1)), (.fsl 0 1 (.lit (0)) (.var 2))] 40 false)], n := 1, base := 0, ch := [] }) (by kernel_rfl) fun V mb gb v W' hv hw hbel => ?_)
  obtain rfl := rep_den _ (.tuple #[.slice none 0 0, .int .i64 8]) _ rfl hv
  have e : rErr C n s m p = 8 := by
    unfold rErr
    rw [if_neg (by omega)]
  exact ⟨.inl ⟨by rw [e]; decide, by rw [e]⟩, hbel⟩

end Go.Proofs.Ytmglofemnobakaa
