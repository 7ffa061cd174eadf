/- Contract: the reference says what is wrong with a flow of a right net, or its value. -/
import Derived.Test.YtmglofemnobakaaUmm
import Derived.Test.YtmglofemnobakaaSyk
namespace Go.Proofs.Ytmglofemnobakaa
open Go.RowKit
set_option maxHeartbeats 4000000
set_option maxRecDepth 100000
set_option linter.unusedSimpArgs false
set_option linter.unusedVariables false

/-- what the first k edges bring to each node; what the flow is worth -/
def atR (S : Nat → Nat → Int) (f : Nat → Int) : Nat → Int → Int
  | 0 => fun _ => 0
  | k + 1 => fun j : Int => if j = flat4 S ((k : Int) * 4) then (atR S f k (flat4 S ((k : Int) * 4)) - flat1 f (k : Int)) else (fun j : Int => if j = flat4 S ((k : Int) * 4 + 1) then (atR S f k (flat4 S ((k : Int) * 4 + 1)) + flat1 f (k : Int)) else atR S f k j) j
def vaR (S : Nat → Nat → Int) (f : Nat → Int) : Nat → Int
  | 0 => 0
  | k + 1 => vaR S f k + flat1 f (k : Int) * flat4 S ((k : Int) * 4 + 2)
def wcode (w x : Int) : Int := if 0 - w ≤ x ∧ x ≤ w then 0 else 2
def wc (S : Nat → Nat → Int) (f : Nat → Int) (i : Nat) : Int := wcode (flat4 S ((i : Int) * 4 + 3)) (flat1 f (i : Int))
def wR (n : Nat) (S : Nat → Nat → Int) (f : Nat → Int) : Int × Int := fw (wc S f) n
def oR (m : Nat) (S : Nat → Nat → Int) (f : Nat → Int) (n : Nat) : Int × Int := fw (fun i => if atR S f n (i : Int) = 0 then 0 else 25) m
/-- what is wrong with a flow, or its value -/
def rfR (N : Int) (n : Nat) (S : Nat → Nat → Int) (m : Nat) (f : Nat → Int) : Int × Int := if m = n then (if (wR n S f).2 = 0 then (if (oR N.toNat S f n).2 = 0 then (vaR S f n, 0) else (0, 25)) else (0, 2)) else (0, 10)
section
variable {n k m : Nat} {S : Nat → Nat → Int} {f : Nat → Int} {N : Int}
theorem w_none (hz : ∀ j, j < n → wc S f j = 0) : wR n S f = (0, 0) := fw_none hz
theorem w_hit (hz : ∀ j, j < k → wc S f j = 0) (hc : wc S f k = 2) (hk : k < n) : wR n S f = ((k : Int), 2) := by
  have := fw_hit (g := wc S f) hz (by rw [hc]; decide) hk
  unfold wR
  rw [this, hc]
theorem o_none (hz : ∀ j : Nat, j < m → atR S f n (j : Int) = 0) : oR m S f n = (0, 0) := fw_none fun j hj => by simp only [hz j hj, if_true]
theorem o_hit (hz : ∀ j : Nat, j < k → atR S f n (j : Int) = 0) (hc : (if atR S f n (k : Int) = 0 then (0 : Int) else 25) = 25) (hk : k < m) : oR m S f n = ((k : Int), 25) := by
  have := fw_hit (g := fun i : Nat => if atR S f n (i : Int) = 0 then (0 : Int) else 25) (k := k) (n := m) (fun j hj => by simp only [hz j hj, if_true]) (by simp only [hc]; decide) hk
  unfold oR
  rw [this]
  simp only [hc]
theorem wc_in (h : wc S f k = 0) : 0 - flat4 S ((k : Int) * 4 + 3) ≤ flat1 f (k : Int) ∧ flat1 f (k : Int) ≤ flat4 S ((k : Int) * 4 + 3) := by
  unfold wc wcode at h
  split at h
  · assumption
  · cases h
theorem mul_two {x y : Int} (hx : -1000 ≤ x ∧ x ≤ 1000) (hy : -1000 ≤ y ∧ y ≤ 1000) : -1000000 ≤ x * y ∧ x * y ≤ 1000000 := by
  have h1 : (1000 + x) * (1000 + y) ≥ 0 := Int.mul_nonneg (by omega) (by omega)
  have h2 : (1000 - x) * (1000 - y) ≥ 0 := Int.mul_nonneg (by omega) (by omega)
  have h3 : (1000 + x) * (1000 - y) ≥ 0 := Int.mul_nonneg (by omega) (by omega)
  have h4 : (1000 - x) * (1000 + y) ≥ 0 := Int.mul_nonneg (by omega) (by omega)
  simp only [Int.add_mul, Int.sub_mul, Int.mul_add, Int.mul_sub] at h1 h2 h3 h4
  omega
theorem flow_bound (hR : ∀ i, i < n → ec N S i = 0) : ∀ k, k ≤ n → (∀ j, j < k → wc S f j = 0) → (∀ j, -(k * 2000 : Int) ≤ atR S f k j ∧ atR S f k j ≤ k * 2000) ∧ -(k * 1000000 : Int) ≤ vaR S f k ∧ vaR S f k ≤ k * 1000000
  | 0, _, _ => by simp [atR, vaR]
  | k + 1, hk, hz => by
    obtain ⟨i1, i2⟩ := flow_bound hR k (by omega) (fun j hj => hz j (by omega))
    have h1 := ec_right (hR k (by omega))
    have h2 := wc_in (hz k (by omega))
    have h3 := mul_two (x := flat1 f (k : Int)) (y := flat4 S ((k : Int) * 4 + 2)) (by omega) (by omega)
    refine ⟨fun j => ?_, ?_⟩
    · have q2 := i1 (flat4 S ((k : Int) * 4 + 1))
      have q3 := i1 (flat4 S ((k : Int) * 4))
      have q4 := i1 j
      simp only [atR]
      push_cast
      split
      · constructor <;> omega
      · split <;> (constructor <;> omega)
    · simp only [vaR]
      push_cast
      constructor <;> omega
end


def rcf1_a : RA := { tmps := [[(.agg [(.si .i64 (.var 0)), (.fsl 0 4 (.lit (0)) (.var 1))]), (.fsl 1 1 (.lit (0)) (.var 2)), (.ptr 0 0), (.pl (.tuple #[])), (.pl (.int .i64 (0))), (.pl (.int .i64 (0))), (.osl 1 1 (.var 0)), (.si .i64 (.var 3))], [(.si .i64 (.var 4)), .unk, (.pl (.tuple #[])), (.fsl 1 1 (.lit (0)) (.var 2)), (.si .i64 (.var 2)), (.ptr 0 1), (.fsl 0 4 (.lit (0)) (.var 1)), (.si .i64 (.var 1))], [(.sb (.not (.eq (.var 2) (.var 1)))), (.ptr 0 0), (.si .i64 (.var 0)), (.osl 1 1 (.var 0)), .unk, .unk, .unk, .unk], [.unk, .unk, .unk, .unk, .unk, .unk, .unk, .unk], [.unk, .unk, .unk, .unk, .unk, .unk, .unk, .unk], [.unk, .unk, .unk, .unk, .unk, .unk, .unk, .unk], [.unk, .unk, .unk, .unk, .unk, .unk, .unk, .unk], [.unk, .unk, .unk, .unk, .unk, .unk, .unk, .unk], [.unk, .unk, .unk, .unk, .unk, .unk, .unk, .unk], [.unk, .unk, .unk, .unk, .unk, .unk, .unk, (.pl (.tuple #[]))], [(.pl (.tuple #[])), (.pl (.tuple #[])), (.pl (.tuple #[])), (.pl (.tuple #[])), (.pl (.tuple #[])), (.pl (.tuple #[])), (.pl (.tuple #[])), (.pl (.tuple #[]))], [(.pl (.tuple #[])), (.pl (.tuple #[])), (.pl (.tuple #[])), (.pl (.tuple #[])), (.pl (.tuple #[])), (.pl (.tuple #[])), (.pl (.tuple #[])), (.pl (.tuple #[]))]], sz := 91, dfs := [] }
def rcf1_h : RH := { bl := [some (.row (.avar 50) (.var 0) 3 1), some (.cells [(.si .i64 (.var 0)), (.fsl 0 4 (.lit (0)) (.var 1))] 24 false)], n := 2, base := 0, ch := [] }
def rcf2_a : RA := { tmps := [[(.agg [(.si .i64 (.var 0)), (.fsl 0 4 (.lit (0)) (.var 1))]), (.fsl 1 1 (.lit (0)) (.var 2)), (.ptr 0 0), (.pl (.tuple #[])), (.pl (.int .i64 (0))), (.pl (.int .i64 (0))), (.osl 1 1 (.var 0)), (.si .i64 (.var 3))], [(.si .i64 (.var 4)), .unk, (.si .i64 (.var 5)), (.fsl 1 1 (.lit (0)) (.var 2)), (.si .i64 (.var 2)), (.ptr 0 1), (.fsl 0 4 (.lit (0)) (.var 1)), (.si .i64 (.var 1))], [(.sb (.not (.eq (.var 2) (.var 1)))), (.ptr 0 0), (.si .i64 (.var 0)), (.osl 1 1 (.var 0)), (.si .i64 (.var 4)), (.fsl 1 1 (.lit (0)) (.var 2)), (.si .i64 (.var 2)), (.sb (.not (.le (.var 2) (.var 4))))], [.unk, .unk, .unk, .unk, .unk, .unk, .unk, .unk], [.unk, .unk, .unk, .unk, .unk, .unk, .unk, .unk], [.unk, .unk, .unk, .unk, .unk, .unk, .unk, .unk], [.unk, .unk, .unk, .unk, .unk, .unk, .unk, .unk], [.unk, .unk, .unk, .unk, .unk, .unk, .unk, .unk], [.unk, .unk, .unk, .unk, .unk, .unk, .unk, .unk], [.unk, .unk, .unk, .unk, .unk, .unk, .unk, .unk], [.unk, .unk, .unk, .unk, .unk, .unk, .unk, .unk], [.unk, .unk, (.pl (.tuple #[])), (.pl (.tuple #[])), (.pl (.tuple #[])), (.pl (.tuple #[])), (.pl (.tuple #[])), (.pl (.tuple #[]))]], sz := 91, dfs := [] }
def rcf2_h : RH := { bl := [some (.row (.avar 50) (.var 0) 3 1), some (.cells [(.si .i64 (.var 0)), (.fsl 0 4 (.lit (0)) (.var 1))] 24 false)], n := 2, base := 0, ch := [] }
theorem refCheckFlowOf_any (N : Int) (A B : Option Addr) (n c m d : Nat) (S : Nat → Nat → Int) (f : Nat → Int) (W : World) (hS : RowR W A (n * 4) (flat4 S)) (hT : RowR W B m (flat1 f)) (hc : n ≤ c) (hd : m ≤ d) (hN : 0 ≤ N ∧ N ≤ 200) (hn : n ≤ 600) (hm : m ≤ 1000000) (hR : ∀ i, i < n → ec N S i = 0) :
    Calls Try.prog 15 #[.agg #[.int .i64 N, .slice A n c], .slice B m d] W fun e w' => e = .returned (.tuple #[.int .i64 (rfR N n S m f).1, .int .i64 (rfR N n S m f).2]) ∧ Below W.heap.size W w' := by
  skip
  have hrows : RowsIn W [⟨A, n * 4, flat4 S⟩, ⟨B, m, flat1 f⟩] := ⟨hS, hT, trivial⟩
  letI : Rho := rhoL W.heap.size ([N, (n : Int), (m : Int)]) [⟨A, n * 4, flat4 S⟩, ⟨B, m, flat1 f⟩] [] []
  have hfar : Far W := far_list hrows
  have hx : RepL (fun _ => False) (fun _ => 0) (fun _ => 0) [.agg [.si .i64 (.var 0), .fsl 0 4 (.lit 0) (.var 1)], .fsl 1 1 (.lit 0) (.var 2)] (#[.agg #[.int .i64 N, .slice A n c], .slice B m d] : Array Value).toList := by
    refine repL_cons'.2 ⟨?_, repL_one (by simp only [Rep]; exact fsl_row 1 1 hrows rfl (by simp [rowAt]) (by omega) rfl rfl hd)⟩
    simp only [Rep]
    exact ⟨_, rfl, repL_cons'.2 ⟨by simp only [Rep]; rfl, repL_one (by simp only [Rep]; exact fsl_row 0 4 hrows rfl rfl (by omega) rfl rfl hc)⟩⟩
  by_cases f1 : (m : Int) = (n : Int)
  · skip
    have f2 : (0 ≤ N) := by
      first | omega | (have hq := ec_right (hR k (by omega)); omega) | (have hq := ec_right (hR k (by omega)); have hb := (flow_bound hR k (by omega) hz).1 (flat4 S ((k : Int) * 4 + 1)); rw [← hFe] at hb; constructor <;> omega) | (have hq := ec_right (hR k (by omega)); have hb := (flow_bound hR k (by omega) hz).1 (flat4 S ((k : Int) * 4)); rw [← hFe] at hb; constructor <;> omega) | (have hq := ec_right (hR k (by omega)); have hb := (flow_bound hR k (by omega) hz).2; rw [← ha] at hb; have hp := mul_two (x := flat1 f (k : Int)) (y := flat4 S ((k : Int) * 4 + 2)) (by omega) (by omega); constructor <;> omega)
    have f3 : (N ≤ 100000) := by
      first | omega | (have hq := ec_right (hR k (by omega)); omega) | (have hq := ec_right (hR k (by omega)); have hb := (flow_bound hR k (by omega) hz).1 (flat4 S ((k : Int) * 4 + 1)); rw [← hFe] at hb; constructor <;> omega) | (have hq := ec_right (hR k (by omega)); have hb := (flow_bound hR k (by omega) hz).1 (flat4 S ((k : Int) * 4)); rw [← hFe] at hb; constructor <;> omega) | (have hq := ec_right (hR k (by omega)); have hb := (flow_bound hR k (by omega) hz).2; rw [← ha] at hb; have hp := mul_two (x := flat1 f (k : Int)) (y := flat4 S ((k : Int) * 4 + 2)) (by omega) (by omega); constructor <;> omega)
    have hF : Facts [((.eq (.var 2) (.var 1)), true), ((.le (.lit (0)) (.var 0)), true), ((.le (.var 0) (.lit (100000))), true)] := ⟨f_eq f1 rfl rfl, f_le f2 rfl rfl, f_le f3 rfl rfl, trivial⟩
    refine call_start (P := Try.prog) (K := noK) (fl := []) (by kernel_rfl) (by kernel_rfl) hx hfar noK_ok (facD_ok hF) (enter_run (B := 3) (a' := rcf1_a) (h' := rcf1_h) (ρ' := rhoL W.heap.size ([N, (n : Int), (m : Int)] ++ [0, 0]) [⟨A, n * 4, flat4 S⟩, ⟨B, m, flat1 f⟩] [] [(fun _ : Int => 0)]) (ds := [.int (.lit (0)) (.var 3), .int (.lit (0)) (.var 4), .row .azero (.avar 50)]) (c := (loopIn (bodyC Try.prog 15) 0)) (by kernel_rfl) (by kernel_rfl) rfl (agree_list (l := [N, (n : Int), (m : Int)]) (x := []) (Nat.le_refl _) rfl) ⟨rfl, rfl, rfl, trivial⟩ fun A1 W1 hs1 => ?_)
    refine loop_ok (Inv := fun ρ => ∃ (acc : Int) (k : Nat) (F : Int → Int), (k ≤ n ∧ acc = vaR S f k ∧ F = atR S f k ∧ ∀ j, j < k → wc S f j = 0) ∧ ρ = rhoL W.heap.size ([N, (n : Int), (m : Int)] ++ [(acc : Int), (k : Int)]) [⟨A, n * 4, flat4 S⟩, ⟨B, m, flat1 f⟩] [] [F]) (μ := fun ρ => n - (@Rho.i ρ 4).toNat) (a := rcf1_a) (h := rcf1_h) ?_ _ ⟨0, 0, (fun _ : Int => 0), ?_, rfl⟩ A1 W1 hs1
    rotate_left
    · exact ⟨Nat.zero_le _, rfl, rfl, fun j hj => absurd hj (Nat.not_lt_zero j)⟩
    first | clear hs1 hx | clear hs1
    rintro ρ ⟨acc, k, F, hinv, rfl⟩ A2 W2 hs2
    letI : Rho := rhoL W.heap.size ([N, (n : Int), (m : Int)] ++ [(acc : Int), (k : Int)]) [⟨A, n * 4, flat4 S⟩, ⟨B, m, flat1 f⟩] [] [F]
    obtain ⟨hk, ha, hFe, hz⟩ := hinv
    by_cases f1 : (m : Int) ≤ (k : Int)
    · skip
      have hF : Facts [((.le (.var 2) (.var 4)), true)] := ⟨f_le f1 rfl rfl, trivial⟩
      refine out_run (P := Try.prog) (K := noK) (fl := []) (by kernel_rfl) noK_ok (facD_ok hF) hs2 (enter_run (B := 5) (a' := rcf2_a) (h' := rcf2_h) (ρ' := rhoL W.heap.size ([N, (n : Int), (m : Int), (acc : Int), (k : Int)] ++ [0]) [⟨A, n * 4, flat4 S⟩, ⟨B, m, flat1 f⟩] [] [F]) (ds := [.int (.lit (0)) (.var 5), .row (.avar 50) (.avar 50)]) (c := (loopIn (bodyC Try.prog 15) 1)) (by kernel_rfl) (by kernel_rfl) rfl (agree_list (l := [N, (n : Int), (m : Int), (acc : Int), (k : Int)]) (x := []) (Nat.le_refl _) rfl) ⟨rfl, rfl, trivial⟩ fun A1 W1 hs1 => ?_)
      refine loop_ok (Inv := fun ρ => ∃ (i : Nat), ((i : Int) ≤ N ∧ ∀ j : Nat, j < i → atR S f n (j : Int) = 0) ∧ ρ = rhoL W.heap.size ([N, (n : Int), (m : Int), (acc : Int), (k : Int)] ++ [(i : Int)]) [⟨A, n * 4, flat4 S⟩, ⟨B, m, flat1 f⟩] [] [F]) (μ := fun ρ => N.toNat - (@Rho.i ρ 5).toNat) (a := rcf2_a) (h := rcf2_h) ?_ _ ⟨0, ?_, rfl⟩ A1 W1 hs1
      rotate_left
      · exact ⟨hN.1, fun j hj => absurd hj (Nat.not_lt_zero j)⟩
      first | clear hs1 hx | clear hs1
      rintro ρ ⟨i, hinv, rfl⟩ A2 W2 hs2
      letI : Rho := rhoL W.heap.size ([N, (n : Int), (m : Int), (acc : Int), (k : Int)] ++ [(i : Int)]) [⟨A, n * 4, flat4 S⟩, ⟨B, m, flat1 f⟩] [] [F]
      obtain ⟨hi, hy⟩ := hinv
      by_cases f1 : N ≤ (i : Int)
      · skip
        have hF : Facts [((.le (.var 0) (.var 5)), true)] := ⟨f_le f1 rfl rfl, trivial⟩
        refine out_run (P := Try.prog) (K := noK) (fl := []) (by kernel_rfl) noK_ok (facD_ok hF) hs2 (fin_run (r := (.tup [(.si .i64 (.var 3)), (.pl (.int .i64 (0)))])) (by kernel_rfl) rfl fun W' hbel => ⟨?_, hbel⟩)
        show Ending.returned (.tuple #[(.int .i64 (acc : Int)), (.int .i64 0)]) = _
        have hkn : k = n := by omega
        have h1 : (wR n S f).2 = 0 := by rw [w_none (fun j hj => hz j (by omega))]
        have h2 : (oR N.toNat S f n).2 = 0 := by rw [o_none (fun j hj => hy j (by omega))]
        unfold rfR
        rw [if_pos (by omega), if_pos h1, if_pos h2, ha, hkn]
      · skip
        have f2 : (0 ≤ (i : Int)) := by
          first | omega | (have hq := ec_right (hR k (by omega)); omega) | (have hq := ec_right (hR k (by omega)); have hb := (flow_bound hR k (by omega) hz).1 (flat4 S ((k : Int) * 4 + 1)); rw [← hFe] at hb; constructor <;> omega) | (have hq := ec_right (hR k (by omega)); have hb := (flow_bound hR k (by omega) hz).1 (flat4 S ((k : Int) * 4)); rw [← hFe] at hb; constructor <;> omega) | (have hq := ec_right (hR k (by omega)); have hb := (flow_bound hR k (by omega) hz).2; rw [← ha] at hb; have hp := mul_two (x := flat1 f (k : Int)) (y := flat4 S ((k : Int) * 4 + 2)) (by omega) (by omega); constructor <;> omega)
        by_cases f3 : (F (i : Int)) = 0
        · skip
          have f4 : (-9223372036854775808 : Int) ≤ ((i : Int) + 1) ∧ ((i : Int) + 1) ≤ 9223372036854775807 := by
            first | omega | (have hq := ec_right (hR k (by omega)); omega) | (have hq := ec_right (hR k (by omega)); have hb := (flow_bound hR k (by omega) hz).1 (flat4 S ((k : Int) * 4 + 1)); rw [← hFe] at hb; constructor <;> omega) | (have hq := ec_right (hR k (by omega)); have hb := (flow_bound hR k (by omega) hz).1 (flat4 S ((k : Int) * 4)); rw [← hFe] at hb; constructor <;> omega) | (have hq := ec_right (hR k (by omega)); have hb := (flow_bound hR k (by omega) hz).2; rw [← ha] at hb; have hp := mul_two (x := flat1 f (k : Int)) (y := flat4 S ((k : Int) * 4 + 2)) (by omega) (by omega); constructor <;> omega)
          have hF : Facts [((.le (.var 0) (.var 5)), false), ((.le (.lit (0)) (.var 5)), true), ((.eq (.sel (.avar 50) (.var 5)) (.lit (0))), true), ((.inr .i64 (.add (.var 5) (.lit (1)))), true)] := ⟨f_nle f1 rfl rfl, f_le f2 rfl rfl, f_eq f3 rfl rfl, f_in f4 rfl, trivial⟩
          refine again_run (P := Try.prog) (K := noK) (fl := []) (B := 5) (a' := rcf2_a) (h' := rcf2_h) (ρ' := rhoL W.heap.size ([N, (n : Int), (m : Int), (acc : Int), (k : Int)] ++ [(((i + 1) : Nat) : Int)]) [⟨A, n * 4, flat4 S⟩, ⟨B, m, flat1 f⟩] [] [F]) (ds := [.int (.add (.var 5) (.lit (1))) (.var 5), .row (.avar 50) (.avar 50)]) (by kernel_rfl) noK_ok (facD_ok hF) (by kernel_rfl) (agree_list (l := [N, (n : Int), (m : Int), (acc : Int), (k : Int)]) (Nat.le_refl _) rfl) ⟨(show (((i : Int) + 1) : Int) = (((i + 1) : Nat) : Int) from by first | rfl | (push_cast; omega)), rfl, trivial⟩ hs2 fun A3 W3 hs3 => ⟨_, ⟨(i + 1), ?_, rfl⟩, ?_, hs3⟩
          · refine ⟨by push_cast; omega, fun j hj => ?_⟩
            rcases Nat.lt_or_ge j i with g | g
            · exact hy j g
            · obtain rfl : j = i := by omega
              have hkn : k = n := by omega
              rw [← hkn, ← hFe]
              exact f3
          · show N.toNat - ((i + 1 : Nat) : Int).toNat < N.toNat - ((i : Nat) : Int).toNat
            omega
        · skip
          have hF : Facts [((.le (.var 0) (.var 5)), false), ((.le (.lit (0)) (.var 5)), true), ((.eq (.sel (.avar 50) (.var 5)) (.lit (0))), false)] := ⟨f_nle f1 rfl rfl, f_le f2 rfl rfl, f_ne f3 rfl rfl, trivial⟩
          refine out_run (P := Try.prog) (K := noK) (fl := []) (by kernel_rfl) noK_ok (facD_ok hF) hs2 (fin_run (r := (.tup [(.pl (.int .i64 (0))), (.pl (.int .i64 (25)))])) (by kernel_rfl) rfl fun W' hbel => ⟨?_, hbel⟩)
          show Ending.returned (.tuple #[(.int .i64 0), (.int .i64 25)]) = _
          have h1 : (wR n S f).2 = 0 := by rw [w_none (fun j hj => hz j (by omega))]
          have h2 : (oR N.toNat S f n).2 ≠ 0 := by
            rw [o_hit hy (k := i) (by have hkn : k = n := by omega
                                      rw [← hkn, ← hFe]; simp only [f1, f2, f3, if_false]) (by omega)]
            show (25 : Int) ≠ 0
            decide
          unfold rfR
          rw [if_pos (by omega), if_pos h1, if_neg h2]
    · skip
      have f2 : (0 ≤ (k : Int)) := by
        first | omega | (have hq := ec_right (hR k (by omega)); omega) | (have hq := ec_right (hR k (by omega)); have hb := (flow_bound hR k (by omega) hz).1 (flat4 S ((k : Int) * 4 + 1)); rw [← hFe] at hb; constructor <;> omega) | (have hq := ec_right (hR k (by omega)); have hb := (flow_bound hR k (by omega) hz).1 (flat4 S ((k : Int) * 4)); rw [← hFe] at hb; constructor <;> omega) | (have hq := ec_right (hR k (by omega)); have hb := (flow_bound hR k (by omega) hz).2; rw [← ha] at hb; have hp := mul_two (x := flat1 f (k : Int)) (y := flat4 S ((k : Int) * 4 + 2)) (by omega) (by omega); constructor <;> omega)
      have f3 : ¬ ((n : Int) ≤ (k : Int)) := by
        first | omega | (have hq := ec_right (hR k (by omega)); omega) | (have hq := ec_right (hR k (by omega)); have hb := (flow_bound hR k (by omega) hz).1 (flat4 S ((k : Int) * 4 + 1)); rw [← hFe] at hb; constructor <;> omega) | (have hq := ec_right (hR k (by omega)); have hb := (flow_bound hR k (by omega) hz).1 (flat4 S ((k : Int) * 4)); rw [← hFe] at hb; constructor <;> omega) | (have hq := ec_right (hR k (by omega)); have hb := (flow_bound hR k (by omega) hz).2; rw [← ha] at hb; have hp := mul_two (x := flat1 f (k : Int)) (y := flat4 S ((k : Int) * 4 + 2)) (by omega) (by omega); constructor <;> omega)
      have f4 : (-9223372036854775808 : Int) ≤ (0 - (flat4 S (((k : Int) * 4) + 3))) ∧ (0 - (flat4 S (((k : Int) * 4) + 3))) ≤ 9223372036854775807 := by
        first | omega | (have hq := ec_right (hR k (by omega)); omega) | (have hq := ec_right (hR k (by omega)); have hb := (flow_bound hR k (by omega) hz).1 (flat4 S ((k : Int) * 4 + 1)); rw [← hFe] at hb; constructor <;> omega) | (have hq := ec_right (hR k (by omega)); have hb := (flow_bound hR k (by omega) hz).1 (flat4 S ((k : Int) * 4)); rw [← hFe] at hb; constructor <;> omega) | (have hq := ec_right (hR k (by omega)); have hb := (flow_bound hR k (by omega) hz).2; rw [← ha] at hb; have hp := mul_two (x := flat1 f (k : Int)) (y := flat4 S ((k : Int) * 4 + 2)) (by omega) (by omega); constructor <;> omega)
      by_cases f5 : (0 - (flat4 S (((k : Int) * 4) + 3))) ≤ (flat1 f (k : Int))
      · skip
        by_cases f6 : (flat1 f (k : Int)) ≤ (flat4 S (((k : Int) * 4) + 3))
        · skip
          have f7 : (0 ≤ (flat4 S (((k : Int) * 4) + 1))) := by
            first | omega | (have hq := ec_right (hR k (by omega)); omega) | (have hq := ec_right (hR k (by omega)); have hb := (flow_bound hR k (by omega) hz).1 (flat4 S ((k : Int) * 4 + 1)); rw [← hFe] at hb; constructor <;> omega) | (have hq := ec_right (hR k (by omega)); have hb := (flow_bound hR k (by omega) hz).1 (flat4 S ((k : Int) * 4)); rw [← hFe] at hb; constructor <;> omega) | (have hq := ec_right (hR k (by omega)); have hb := (flow_bound hR k (by omega) hz).2; rw [← ha] at hb; have hp := mul_two (x := flat1 f (k : Int)) (y := flat4 S ((k : Int) * 4 + 2)) (by omega) (by omega); constructor <;> omega)
          have f8 : ¬ (N ≤ (flat4 S (((k : Int) * 4) + 1))) := by
            first | omega | (have hq := ec_right (hR k (by omega)); omega) | (have hq := ec_right (hR k (by omega)); have hb := (flow_bound hR k (by omega) hz).1 (flat4 S ((k : Int) * 4 + 1)); rw [← hFe] at hb; constructor <;> omega) | (have hq := ec_right (hR k (by omega)); have hb := (flow_bound hR k (by omega) hz).1 (flat4 S ((k : Int) * 4)); rw [← hFe] at hb; constructor <;> omega) | (have hq := ec_right (hR k (by omega)); have hb := (flow_bound hR k (by omega) hz).2; rw [← ha] at hb; have hp := mul_two (x := flat1 f (k : Int)) (y := flat4 S ((k : Int) * 4 + 2)) (by omega) (by omega); constructor <;> omega)
          have f9 : (-9223372036854775808 : Int) ≤ ((F (flat4 S (((k : Int) * 4) + 1))) + (flat1 f (k : Int))) ∧ ((F (flat4 S (((k : Int) * 4) + 1))) + (flat1 f (k : Int))) ≤ 9223372036854775807 := by
            first | omega | (have hq := ec_right (hR k (by omega)); omega) | (have hq := ec_right (hR k (by omega)); have hb := (flow_bound hR k (by omega) hz).1 (flat4 S ((k : Int) * 4 + 1)); rw [← hFe] at hb; constructor <;> omega) | (have hq := ec_right (hR k (by omega)); have hb := (flow_bound hR k (by omega) hz).1 (flat4 S ((k : Int) * 4)); rw [← hFe] at hb; constructor <;> omega) | (have hq := ec_right (hR k (by omega)); have hb := (flow_bound hR k (by omega) hz).2; rw [← ha] at hb; have hp := mul_two (x := flat1 f (k : Int)) (y := flat4 S ((k : Int) * 4 + 2)) (by omega) (by omega); constructor <;> omega)
          have f10 : (0 ≤ (flat4 S ((k : Int) * 4))) := by
            first | omega | (have hq := ec_right (hR k (by omega)); omega) | (have hq := ec_right (hR k (by omega)); have hb := (flow_bound hR k (by omega) hz).1 (flat4 S ((k : Int) * 4 + 1)); rw [← hFe] at hb; constructor <;> omega) | (have hq := ec_right (hR k (by omega)); have hb := (flow_bound hR k (by omega) hz).1 (flat4 S ((k : Int) * 4)); rw [← hFe] at hb; constructor <;> omega) | (have hq := ec_right (hR k (by omega)); have hb := (flow_bound hR k (by omega) hz).2; rw [← ha] at hb; have hp := mul_two (x := flat1 f (k : Int)) (y := flat4 S ((k : Int) * 4 + 2)) (by omega) (by omega); constructor <;> omega)
          have f11 : ¬ (N ≤ (flat4 S ((k : Int) * 4))) := by
            first | omega | (have hq := ec_right (hR k (by omega)); omega) | (have hq := ec_right (hR k (by omega)); have hb := (flow_bound hR k (by omega) hz).1 (flat4 S ((k : Int) * 4 + 1)); rw [← hFe] at hb; constructor <;> omega) | (have hq := ec_right (hR k (by omega)); have hb := (flow_bound hR k (by omega) hz).1 (flat4 S ((k : Int) * 4)); rw [← hFe] at hb; constructor <;> omega) | (have hq := ec_right (hR k (by omega)); have hb := (flow_bound hR k (by omega) hz).2; rw [← ha] at hb; have hp := mul_two (x := flat1 f (k : Int)) (y := flat4 S ((k : Int) * 4 + 2)) (by omega) (by omega); constructor <;> omega)
          have f12 : (-9223372036854775808 : Int) ≤ ((F (flat4 S ((k : Int) * 4))) - (flat1 f (k : Int))) ∧ ((F (flat4 S ((k : Int) * 4))) - (flat1 f (k : Int))) ≤ 9223372036854775807 := by
            first | omega | (have hq := ec_right (hR k (by omega)); omega) | (have hq := ec_right (hR k (by omega)); have hb := (flow_bound hR k (by omega) hz).1 (flat4 S ((k : Int) * 4 + 1)); rw [← hFe] at hb; constructor <;> omega) | (have hq := ec_right (hR k (by omega)); have hb := (flow_bound hR k (by omega) hz).1 (flat4 S ((k : Int) * 4)); rw [← hFe] at hb; constructor <;> omega) | (have hq := ec_right (hR k (by omega)); have hb := (flow_bound hR k (by omega) hz).2; rw [← ha] at hb; have hp := mul_two (x := flat1 f (k : Int)) (y := flat4 S ((k : Int) * 4 + 2)) (by omega) (by omega); constructor <;> omega)
          have f13 : (-9223372036854775808 : Int) ≤ ((flat1 f (k : Int)) * (flat4 S (((k : Int) * 4) + 2))) ∧ ((flat1 f (k : Int)) * (flat4 S (((k : Int) * 4) + 2))) ≤ 9223372036854775807 := by
            first | omega | (have hq := ec_right (hR k (by omega)); omega) | (have hq := ec_right (hR k (by omega)); have hb := (flow_bound hR k (by omega) hz).1 (flat4 S ((k : Int) * 4 + 1)); rw [← hFe] at hb; constructor <;> omega) | (have hq := ec_right (hR k (by omega)); have hb := (flow_bound hR k (by omega) hz).1 (flat4 S ((k : Int) * 4)); rw [← hFe] at hb; constructor <;> omega) | (have hq := ec_right (hR k (by omega)); have hb := (flow_bound hR k (by omega) hz).2; rw [← ha] at hb; have hp := mul_two (x := flat1 f (k : Int)) (y := flat4 S ((k : Int) * 4 + 2)) (by omega) (by omega); constructor <;> omega)
          have f14 : (-9223372036854775808 : Int) ≤ ((acc : Int) + ((flat1 f (k : Int)) * (flat4 S (((k : Int) * 4) + 2)))) ∧ ((acc : Int) + ((flat1 f (k : Int)) * (flat4 S (((k : Int) * 4) + 2)))) ≤ 9223372036854775807 := by
            first | omega | (have hq := ec_right (hR k (by omega)); omega) | (have hq := ec_right (hR k (by omega)); have hb := (flow_bound hR k (by omega) hz).1 (flat4 S ((k : Int) * 4 + 1)); rw [← hFe] at hb; constructor <;> omega) | (have hq := ec_right (hR k (by omega)); have hb := (flow_bound hR k (by omega) hz).1 (flat4 S ((k : Int) * 4)); rw [← hFe] at hb; constructor <;> omega) | (have hq := ec_right (hR k (by omega)); have hb := (flow_bound hR k (by omega) hz).2; rw [← ha] at hb; have hp := mul_two (x := flat1 f (k : Int)) (y := flat4 S ((k : Int) * 4 + 2)) (by omega) (by omega); constructor <;> omega)
          have f15 : (-9223372036854775808 : Int) ≤ ((k : Int) + 1) ∧ ((k : Int) + 1) ≤ 9223372036854775807 := by
            first | omega | (have hq := ec_right (hR k (by omega)); omega) | (have hq := ec_right (hR k (by omega)); have hb := (flow_bound hR k (by omega) hz).1 (flat4 S ((k : Int) * 4 + 1)); rw [← hFe] at hb; constructor <;> omega) | (have hq := ec_right (hR k (by omega)); have hb := (flow_bound hR k (by omega) hz).1 (flat4 S ((k : Int) * 4)); rw [← hFe] at hb; constructor <;> omega) | (have hq := ec_right (hR k (by omega)); have hb := (flow_bound hR k (by omega) hz).2; rw [← ha] at hb; have hp := mul_two (x := flat1 f (k : Int)) (y := flat4 S ((k : Int) * 4 + 2)) (by omega) (by omega); constructor <;> omega)
          have hF : Facts [((.le (.var 2) (.var 4)), false), ((.le (.lit (0)) (.var 4)), true), ((.le (.var 1) (.var 4)), false), ((.inr .i64 (.sub (.lit (0)) (.sel (.avar 0) (.add (.mul (.var 4) (.lit (4))) (.lit (3)))))), true), ((.le (.sub (.lit (0)) (.sel (.avar 0) (.add (.mul (.var 4) (.lit (4))) (.lit (3))))) (.sel (.avar 1) (.var 4))), true), ((.le (.sel (.avar 1) (.var 4)) (.sel (.avar 0) (.add (.mul (.var 4) (.lit (4))) (.lit (3))))), true), ((.le (.lit (0)) (.sel (.avar 0) (.add (.mul (.var 4) (.lit (4))) (.lit (1))))), true), ((.le (.var 0) (.sel (.avar 0) (.add (.mul (.var 4) (.lit (4))) (.lit (1))))), false), ((.inr .i64 (.add (.sel (.avar 50) (.sel (.avar 0) (.add (.mul (.var 4) (.lit (4))) (.lit (1))))) (.sel (.avar 1) (.var 4)))), true), ((.le (.lit (0)) (.sel (.avar 0) (.mul (.var 4) (.lit (4))))), true), ((.le (.var 0) (.sel (.avar 0) (.mul (.var 4) (.lit (4))))), false), ((.inr .i64 (.sub (.sel (.avar 50) (.sel (.avar 0) (.mul (.var 4) (.lit (4))))) (.sel (.avar 1) (.var 4)))), true), ((.inr .i64 (.mul (.sel (.avar 1) (.var 4)) (.sel (.avar 0) (.add (.mul (.var 4) (.lit (4))) (.lit (2)))))), true), ((.inr .i64 (.add (.var 3) (.mul (.sel (.avar 1) (.var 4)) (.sel (.avar 0) (.add (.mul (.var 4) (.lit (4))) (.lit (2))))))), true), ((.inr .i64 (.add (.var 4) (.lit (1)))), true)] := ⟨f_nle f1 rfl rfl, f_le f2 rfl rfl, f_nle f3 rfl rfl, f_in f4 rfl, f_le f5 rfl rfl, f_le f6 rfl rfl, f_le f7 rfl rfl, f_nle f8 rfl rfl, f_in f9 rfl, f_le f10 rfl rfl, f_nle f11 rfl rfl, f_in f12 rfl, f_in f13 rfl, f_in f14 rfl, f_in f15 rfl, trivial⟩
          refine again_run (P := Try.prog) (K := noK) (fl := []) (B := 3) (a' := rcf1_a) (h' := rcf1_h) (ρ' := rhoL W.heap.size ([N, (n : Int), (m : Int)] ++ [((((acc : Int) + ((flat1 f (k : Int)) * (flat4 S (((k : Int) * 4) + 2)))) : Int) : Int), (((k + 1) : Nat) : Int)]) [⟨A, n * 4, flat4 S⟩, ⟨B, m, flat1 f⟩] [] [(fun j : Int => if j = (flat4 S ((k : Int) * 4)) then ((F (flat4 S ((k : Int) * 4))) - (flat1 f (k : Int))) else (fun j : Int => if j = (flat4 S (((k : Int) * 4) + 1)) then ((F (flat4 S (((k : Int) * 4) + 1))) + (flat1 f (k : Int))) else F j) j)]) (ds := [.int (.add (.var 3) (.mul (.sel (.avar 1) (.var 4)) (.sel (.avar 0) (.add (.mul (.var 4) (.lit (4))) (.lit (2)))))) (.var 3), .int (.add (.var 4) (.lit (1))) (.var 4), .row (.upd (.upd (.avar 50) (.sel (.avar 0) (.add (.mul (.var 4) (.lit (4))) (.lit (1)))) (.add (.sel (.avar 50) (.sel (.avar 0) (.add (.mul (.var 4) (.lit (4))) (.lit (1))))) (.sel (.avar 1) (.var 4)))) (.sel (.avar 0) (.mul (.var 4) (.lit (4)))) (.sub (.sel (.avar 50) (.sel (.avar 0) (.mul (.var 4) (.lit (4))))) (.sel (.avar 1) (.var 4)))) (.avar 50)]) (by kernel_rfl) noK_ok (facD_ok hF) (by kernel_rfl) (agree_list (l := [N, (n : Int), (m : Int)]) (Nat.le_refl _) rfl) ⟨(show (((acc : Int) + ((flat1 f (k : Int)) * (flat4 S (((k : Int) * 4) + 2)))) : Int) = ((((acc : Int) + ((flat1 f (k : Int)) * (flat4 S (((k : Int) * 4) + 2)))) : Int) : Int) from by first | rfl | (push_cast; omega)), (show (((k : Int) + 1) : Int) = (((k + 1) : Nat) : Int) from by first | rfl | (push_cast; omega)), rfl, trivial⟩ hs2 fun A3 W3 hs3 => ⟨_, ⟨((acc : Int) + ((flat1 f (k : Int)) * (flat4 S (((k : Int) * 4) + 2)))), (k + 1), (fun j : Int => if j = (flat4 S ((k : Int) * 4)) then ((F (flat4 S ((k : Int) * 4))) - (flat1 f (k : Int))) else (fun j : Int => if j = (flat4 S (((k : Int) * 4) + 1)) then ((F (flat4 S (((k : Int) * 4) + 1))) + (flat1 f (k : Int))) else F j) j), ?_, rfl⟩, ?_, hs3⟩
          · refine ⟨by omega, by rw [ha]; rfl, by rw [hFe]; rfl, fun j hj => ?_⟩
            rcases Nat.lt_or_ge j k with g | g
            · exact hz j g
            · obtain rfl : j = k := by omega
              simp only [wc, wcode, f1, f2, f3, f5, f6, f7, f8, f10, f11, and_true, true_and, and_false, false_and, and_self, if_true, if_false]
          · show n - ((k + 1 : Nat) : Int).toNat < n - ((k : Nat) : Int).toNat
            omega
        · skip
          have hF : Facts [((.le (.var 2) (.var 4)), false), ((.le (.lit (0)) (.var 4)), true), ((.le (.var 1) (.var 4)), false), ((.inr .i64 (.sub (.lit (0)) (.sel (.avar 0) (.add (.mul (.var 4) (.lit (4))) (.lit (3)))))), true), ((.le (.sub (.lit (0)) (.sel (.avar 0) (.add (.mul (.var 4) (.lit (4))) (.lit (3))))) (.sel (.avar 1) (.var 4))), true), ((.le (.sel (.avar 1) (.var 4)) (.sel (.avar 0) (.add (.mul (.var 4) (.lit (4))) (.lit (3))))), false)] := ⟨f_nle f1 rfl rfl, f_le f2 rfl rfl, f_nle f3 rfl rfl, f_in f4 rfl, f_le f5 rfl rfl, f_nle f6 rfl rfl, trivial⟩
          refine out_run (P := Try.prog) (K := noK) (fl := []) (by kernel_rfl) noK_ok (facD_ok hF) hs2 (fin_run (r := (.tup [(.pl (.int .i64 (0))), (.pl (.int .i64 (2)))])) (by kernel_rfl) rfl fun W' hbel => ⟨?_, hbel⟩)
          show Ending.returned (.tuple #[(.int .i64 0), (.int .i64 2)]) = _
          have h1 : (wR n S f).2 ≠ 0 := by
            rw [w_hit hz (k := k) (by simp only [wc, wcode, f1, f2, f3, f5, f6, and_true, true_and, and_false, false_and, and_self, if_true, if_false]) (by omega)]
            show (2 : Int) ≠ 0
            decide
          unfold rfR
          rw [if_pos (by omega), if_neg h1]
      · skip
        have hF : Facts [((.le (.var 2) (.var 4)), false), ((.le (.lit (0)) (.var 4)), true), ((.le (.var 1) (.var 4)), false), ((.inr .i64 (.sub (.lit (0)) (.sel (.avar 0) (.add (.mul (.var 4) (.lit (4))) (.lit (3)))))), true), ((.le (.sub (.lit (0)) (.sel (.avar 0) (.add (.mul (.var 4) (.lit (4))) (.lit (3))))) (.sel (.avar 1) (.var 4))), false)] := ⟨f_nle f1 rfl rfl, f_le f2 rfl rfl, f_nle f3 rfl rfl, f_in f4 rfl, f_nle f5 rfl rfl, trivial⟩
        refine out_run (P := Try.prog) (K := noK) (fl := []) (by kernel_rfl) noK_ok (facD_ok hF) hs2 (fin_run (r := (.tup [(.pl (.int .i64 (0))), (.pl (.int .i64 (2)))])) (by kernel_rfl) rfl fun W' hbel => ⟨?_, hbel⟩)
        show Ending.returned (.tuple #[(.int .i64 0), (.int .i64 2)]) = _
        have h1 : (wR n S f).2 ≠ 0 := by
          rw [w_hit hz (k := k) (by simp only [wc, wcode, f1, f2, f3, f5, and_true, true_and, and_false, false_and, and_self, if_true, if_false]) (by omega)]
          show (2 : Int) ≠ 0
          decide
        unfold rfR
        rw [if_pos (by omega), if_neg h1]
  · skip
    have hF : Facts [((.eq (.var 2) (.var 1)), false)] := ⟨f_ne f1 rfl rfl, trivial⟩
    refine call_start (P := Try.prog) (K := noK) (fl := []) (by kernel_rfl) (by kernel_rfl) hx hfar noK_ok (facD_ok hF) (fin_run (r := (.tup [(.pl (.int .i64 (0))), (.pl (.int .i64 (10)))])) (by kernel_rfl) rfl fun W' hbel => ⟨?_, hbel⟩)
    show Ending.returned (.tuple #[(.int .i64 0), (.int .i64 10)]) = _
    unfold rfR
    rw [if_neg (by omega)]

end Go.Proofs.Ytmglofemnobakaa
