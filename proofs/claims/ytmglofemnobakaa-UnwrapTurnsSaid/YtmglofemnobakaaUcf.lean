/- Contract: what is wrong with a flow, or its value. -/
import Derived.Test.YtmglofemnobakaaUkn
import Derived.Test.YtmglofemnobakaaUsu
import Derived.Test.YtmglofemnobakaaUrf
namespace Go.Proofs.Ytmglofemnobakaa
open Go.RowKit
set_option maxHeartbeats 4000000
set_option maxRecDepth 100000
set_option linter.unusedSimpArgs false
set_option linter.unusedVariables false

/-- what is wrong with a flow, or its value -/
def cfR (N : Int) (n : Nat) (S : Nat → Nat → Int) (m : Nat) (f : Nat → Int) : Int × Int := if (cnR N n S).2 = 0 then rfR N n S m f else (0, (cnR N n S).2)
theorem sur_at {N : Int} {n : Nat} {S : Nat → Nat → Int} {f : Nat → Int} (hR : ∀ i, i < n → ec N S i = 0) : ∀ k, k ≤ n → ∀ j, sur S f k j = atR S f k j
  | 0, _, _ => rfl
  | k + 1, hk, j => by
    have ih := sur_at (f := f) hR k (by omega)
    simp only [sur, atR, ih]
    have hne : flat4 S ((k : Int) * 4) ≠ flat4 S ((k : Int) * 4 + 1) := by
      have h := hR k (by omega)
      unfold ec ecode at h
      split at h
      · split at h
        · cases h
        · assumption
      · cases h
    rw [if_neg hne]
noncomputable def suK : Know := fun k args h =>
  match Nat.beq k 37 with
  | true => (match cvL 1000000 0 args coC with | some [] => some (.osl h.n 1 (.var 0), h.push (.row (.avar 2) (.var 0) 3 1)) | _ => none)
  | false => none
theorem suK_ok [ρ : Rho] {N : Int} {n m : Nat} {S : Nat → Nat → Int} {f : Nat → Int} (ha : Rho.a 0 = flat4 S) (hb : Rho.a 1 = flat1 f) (h0 : Rho.i 0 = N) (h1 : Rho.i 1 = (n : Int)) (h2 : Rho.i 2 = (m : Int)) (h3 : Rho.a 2 = sur S f n) (hN : 0 ≤ N ∧ N ≤ 200) (hn : n ≤ 600) (hm : m = n) (hR : ∀ i, i < n → ec N S i = 0) (hf : ∀ i, i < n → -1000 ≤ f i ∧ f i ≤ 1000) : KOk Try.prog suK := fun k args hh r h' he V m' g xs W nn hx hw => by
  simp only [suK] at he
  split at he
  · rename_i hq
    obtain rfl := Nat.eq_of_beq_eq_true hq
    split at he
    · rename_i hc
      cases he
      have q1 := cvL_ok (V := V) (m := m') (g := g) (Agree.refl 1000000 ρ) _ _ _ _ hc trivial hx
      have q2 : RepL (fun _ => False) (fun _ => 0) (fun _ => 0) coC xs.toList := repL_mono (fun k hk => absurd hk.2 (Nat.not_lt_zero k)) _ _ q1
      obtain ⟨A, B, c, d, rfl, y1, y2, y3, y4⟩ := coC_open ha hb h0 h1 h2 q2 hw.far
      refine callsIn_wide.2 ((surplusOf_any N A B n c m d S f W y1 y2 y3 y4 hN hn hm hR hf).mono ?_)
      rintro e w' ⟨⟨b, L, k, arr, rfl, e1, e2, e3, e4, e5, e6⟩, hb⟩
      exact ⟨_, rfl, row_call hw hb e3 e4 (by show Rho.i 0 = _; rw [h0, e1]) (fun j hj => by rw [e6 j hj]; show _ = some (Value.int .i64 (Rho.a 2 (j : Int))); rw [h3]) e5 e2⟩
    · cases he
  · cases he
theorem wc_bound {N : Int} {n : Nat} {S : Nat → Nat → Int} {f : Nat → Int} (hR : ∀ i, i < n → ec N S i = 0) (hz : ∀ j, j < n → wc S f j = 0) : ∀ i, i < n → -1000 ≤ f i ∧ f i ≤ 1000 := fun i hi => by
  have h1 := ec_right (hR i hi)
  have h2 : _ ∧ f i ≤ _ := wc_in (hz i hi)
  have h3 : 0 - _ ≤ f i := h2.1
  omega


def ucf1_a : RA := { tmps := [[(.agg [(.si .i64 (.var 0)), (.fsl 0 4 (.lit (0)) (.var 1))]), (.fsl 1 1 (.lit (0)) (.var 2)), (.ptr 0 0), (.pl (.tuple #[])), (.pl (.int .i64 (0))), (.pl (.int .i64 (0))), (.pl (.int .i64 (0))), .unk], [.unk, (.pl (.tuple #[])), (.pl (.tuple #[])), (.pl (.tuple #[])), (.pl (.tuple #[])), (.pl (.tuple #[])), (.agg [(.si .i64 (.var 0)), (.fsl 0 4 (.lit (0)) (.var 1))]), (.si .i64 (.var 4))], [(.fsl 1 1 (.lit (0)) (.var 2)), (.si .i64 (.var 2)), (.ptr 0 1), (.fsl 0 4 (.lit (0)) (.var 1)), (.si .i64 (.var 1)), (.sb (.not (.eq (.var 2) (.var 1)))), (.pl (.int .i64 (0))), (.slc 1 0 2 (some 2))], [(.pl (.int .i64 (0))), (.pl (.int .i64 (0))), (.pl (.bool false)), (.pl (.tuple #[])), (.ptr 0 1), (.fsl 0 4 (.lit (0)) (.var 1)), (.si .i64 (.var 1)), (.si .i64 (.var 5))], [.unk, .unk, .unk, .unk, .unk, .unk, .unk, .unk], [.unk, .unk, .unk, .unk, .unk, (.pl (.tuple #[])), (.pl (.tuple #[])), (.pl (.tuple #[]))], [(.pl (.tuple #[])), (.pl (.tuple #[])), (.pl (.tuple #[])), (.pl (.tuple #[])), (.pl (.tuple #[])), (.pl (.tuple #[])), (.pl (.tuple #[])), (.pl (.tuple #[]))], [(.pl (.tuple #[])), (.pl (.tuple #[])), (.pl (.tuple #[])), (.pl (.tuple #[])), (.pl (.tuple #[])), (.pl (.tuple #[])), (.pl (.tuple #[])), (.pl (.tuple #[]))], [(.pl (.tuple #[])), (.pl (.tuple #[])), (.pl (.tuple #[])), (.pl (.tuple #[])), (.pl (.tuple #[])), (.pl (.tuple #[])), (.pl (.tuple #[])), (.pl (.tuple #[]))], [(.pl (.tuple #[])), (.pl (.tuple #[])), (.pl (.tuple #[])), (.pl (.tuple #[])), (.pl (.tuple #[])), (.pl (.tuple #[])), (.pl (.tuple #[])), (.pl (.tuple #[]))]], sz := 75, dfs := [] }
def ucf1_h : RH := { bl := [some (.cells [(.si .i64 (.var 4)), (.pl (.int .i64 (0)))] 28 false), some (.cells [(.si .i64 (.var 0)), (.fsl 0 4 (.lit (0)) (.var 1))] 24 false)], n := 2, base := 0, ch := [] }
def ucf2_a : RA := { tmps := [[(.agg [(.si .i64 (.var 0)), (.fsl 0 4 (.lit (0)) (.var 1))]), (.fsl 1 1 (.lit (0)) (.var 2)), (.ptr 0 0), (.pl (.tuple #[])), (.pl (.int .i64 (0))), (.pl (.int .i64 (0))), (.pl (.int .i64 (0))), .unk], [.unk, (.pl (.tuple #[])), .unk, (.pl (.tuple #[])), (.pl (.tuple #[])), (.pl (.tuple #[])), (.agg [(.si .i64 (.var 0)), (.fsl 0 4 (.lit (0)) (.var 1))]), (.si .i64 (.var 4))], [(.fsl 1 1 (.lit (0)) (.var 2)), (.si .i64 (.var 2)), (.ptr 0 1), (.fsl 0 4 (.lit (0)) (.var 1)), (.si .i64 (.var 1)), (.sb (.not (.eq (.var 2) (.var 1)))), (.pl (.int .i64 (0))), (.slc 1 0 2 (some 2))], [(.pl (.int .i64 (0))), (.pl (.int .i64 (0))), (.pl (.bool false)), (.pl (.tuple #[])), (.ptr 0 1), (.fsl 0 4 (.lit (0)) (.var 1)), (.si .i64 (.var 1)), (.si .i64 (.var 5))], [(.sb (.not (.le (.var 1) (.var 5)))), .unk, .unk, .unk, .unk, .unk, .unk, .unk], [.unk, .unk, .unk, .unk, .unk, (.agg [(.si .i64 (.var 0)), (.fsl 0 4 (.lit (0)) (.var 1))]), (.fsl 1 1 (.lit (0)) (.var 2)), (.osl 2 1 (.var 0))], [(.si .i64 (.var 0)), (.si .i64 (.var 6)), .unk, .unk, .unk, .unk, .unk, .unk], [(.pl (.tuple #[])), (.pl (.tuple #[])), (.pl (.tuple #[])), (.pl (.tuple #[])), (.pl (.tuple #[])), (.pl (.tuple #[])), (.pl (.tuple #[])), (.pl (.tuple #[]))], [(.pl (.tuple #[])), (.pl (.tuple #[])), (.pl (.tuple #[])), (.pl (.tuple #[])), (.pl (.tuple #[])), (.pl (.tuple #[])), (.pl (.tuple #[])), (.pl (.tuple #[]))], [(.pl (.tuple #[])), (.pl (.tuple #[])), (.pl (.tuple #[])), (.pl (.tuple #[])), (.pl (.tuple #[])), (.pl (.tuple #[])), (.pl (.tuple #[])), (.pl (.tuple #[]))]], sz := 75, dfs := [] }
def ucf2_h : RH := { bl := [some (.row (.avar 2) (.var 0) 3 1), some (.cells [(.si .i64 (.var 4)), (.pl (.int .i64 (0)))] 28 false), some (.cells [(.si .i64 (.var 0)), (.fsl 0 4 (.lit (0)) (.var 1))] 24 false)], n := 3, base := 0, ch := [] }
def ucf3_a : RA := { tmps := [[(.agg [(.si .i64 (.var 0)), (.fsl 0 4 (.lit (0)) (.var 1))]), (.fsl 1 1 (.lit (0)) (.var 2)), (.ptr 0 0), (.pl (.tuple #[])), (.pl (.int .i64 (0))), (.pl (.int .i64 (0))), (.pl (.int .i64 (0))), .unk], [.unk, (.pl (.tuple #[])), .unk, (.si .i64 (.var 7)), .unk, .unk, (.agg [(.si .i64 (.var 0)), (.fsl 0 4 (.lit (0)) (.var 1))]), (.si .i64 (.var 4))], [(.fsl 1 1 (.lit (0)) (.var 2)), (.si .i64 (.var 2)), (.ptr 0 1), (.fsl 0 4 (.lit (0)) (.var 1)), (.si .i64 (.var 1)), (.sb (.not (.eq (.var 2) (.var 1)))), (.pl (.int .i64 (0))), (.slc 1 0 2 (some 2))], [(.pl (.int .i64 (0))), (.pl (.int .i64 (0))), (.pl (.bool false)), (.pl (.tuple #[])), (.ptr 0 1), (.fsl 0 4 (.lit (0)) (.var 1)), (.si .i64 (.var 1)), (.si .i64 (.var 5))], [(.sb (.not (.le (.var 1) (.var 5)))), .unk, .unk, .unk, .unk, .unk, .unk, .unk], [.unk, .unk, .unk, .unk, .unk, (.agg [(.si .i64 (.var 0)), (.fsl 0 4 (.lit (0)) (.var 1))]), (.fsl 1 1 (.lit (0)) (.var 2)), (.osl 2 1 (.var 0))], [(.si .i64 (.var 0)), (.si .i64 (.var 6)), (.sb (.not (.le (.var 0) (.var 6)))), .unk, .unk, .unk, .unk, .unk], [(.ptr 0 1), (.fsl 0 4 (.lit (0)) (.var 1)), (.si .i64 (.var 1)), (.si .i64 (.var 8)), .unk, .unk, .unk, .unk], [.unk, .unk, .unk, .unk, .unk, .unk, .unk, .unk], [.unk, .unk, (.pl (.tuple #[])), (.pl (.tuple #[])), (.pl (.tuple #[])), (.pl (.tuple #[])), (.pl (.tuple #[])), (.pl (.tuple #[]))]], sz := 75, dfs := [] }
def ucf3_h : RH := { bl := [some (.row (.avar 2) (.var 0) 3 1), some (.cells [(.si .i64 (.var 4)), (.pl (.int .i64 (0)))] 28 false), some (.cells [(.si .i64 (.var 0)), (.fsl 0 4 (.lit (0)) (.var 1))] 24 false)], n := 3, base := 0, ch := [] }
theorem checkFlowOf_any (N : Int) (A B : Option Addr) (n c m d : Nat) (S : Nat → Nat → Int) (f : Nat → Int) (W : World) (hS : RowR W A (n * 4) (flat4 S)) (hT : RowR W B m (flat1 f)) (hN : I64 N) (hc : n ≤ c) (hd : m ≤ d) (hn : n ≤ 9223372036854775807) (hm : m ≤ 1000000) :
    Calls Try.prog 14 #[.agg #[.int .i64 N, .slice A n c], .slice B m d] W fun e w' => e = .returned (.tuple #[.int .i64 (cfR N n S m f).1, .int .i64 (cfR N n S m f).2]) ∧ Below W.heap.size W w' := by
  skip
  have hrows : RowsIn W [⟨A, n * 4, flat4 S⟩, ⟨B, m, flat1 f⟩, ⟨none, 0, sur S f n⟩] := ⟨hS, hT, fun h => absurd h (Nat.lt_irrefl 0), trivial⟩
  letI : Rho := rhoL W.heap.size ([N, (n : Int), (m : Int), (feR N n S).1, (feR N n S).2]) [⟨A, n * 4, flat4 S⟩, ⟨B, m, flat1 f⟩, ⟨none, 0, sur S f n⟩] [] []
  have hfar : Far W := far_list hrows
  have hx : RepL (fun _ => False) (fun _ => 0) (fun _ => 0) coC (#[.agg #[.int .i64 N, .slice A n c], .slice B m d] : Array Value).toList := by
    refine repL_cons'.2 ⟨?_, repL_one (by simp only [Rep]; exact fsl_row 1 1 hrows rfl (by simp [rowAt]) (by omega) rfl rfl hd)⟩
    simp only [Rep]
    exact ⟨_, rfl, repL_cons'.2 ⟨by simp only [Rep]; rfl, repL_one (by simp only [Rep]; exact fsl_row 0 4 hrows rfl rfl (by omega) rfl rfl hc)⟩⟩
  by_cases f1 : 0 ≤ N
  · skip
    by_cases f2 : N ≤ 200
    · skip
      by_cases f3 : (n : Int) ≤ 600
      · skip
        by_cases f4 : (m : Int) = (n : Int)
        · skip
          by_cases f5 : (feR N n S).2 = 0
          · skip
            have hF : Facts [((.le (.lit (0)) (.var 0)), true), ((.le (.var 0) (.lit (200))), true), ((.le (.var 1) (.lit (600))), true), ((.eq (.var 2) (.var 1)), true), ((.eq (.var 4) (.lit (0))), true)] := ⟨f_le f1 rfl rfl, f_le f2 rfl rfl, f_le f3 rfl rfl, f_eq f4 rfl rfl, f_eq f5 rfl rfl, trivial⟩
            have hN200 : 0 ≤ N ∧ N ≤ 200 := by omega
            have hmn : m = n := by omega
            have hn6 : n ≤ 600 := by omega
            have hR0 : (cnR N n S).2 = 0 := by rw [cn_edges (by omega) (by omega)]; assumption
            have hR := (cn_right hR0).2.2
            refine call_start (P := Try.prog) (K := feK 3) (fl := []) (by kernel_rfl) (by kernel_rfl) hx hfar (feK_ok (N := N) (n := n) (S := S) rfl rfl rfl rfl rfl hN (by omega) (by omega)) (facD_ok hF) (enter_run (B := 5) (a' := ucf1_a) (h' := ucf1_h) (ρ' := rhoL W.heap.size ([N, (n : Int), (m : Int), (feR N n S).1, (feR N n S).2] ++ [0]) [⟨A, n * 4, flat4 S⟩, ⟨B, m, flat1 f⟩, ⟨none, 0, sur S f n⟩] [] []) (ds := [.int (.lit (0)) (.var 5)]) (c := (loopIn (bodyC Try.prog 14) 0)) (by kernel_rfl) (by kernel_rfl) rfl (agree_list (l := [N, (n : Int), (m : Int), (feR N n S).1, (feR N n S).2]) (x := []) (Nat.le_refl _) rfl) ⟨rfl, trivial⟩ fun A1 W1 hs1 => ?_)
            refine loop_ok (Inv := fun ρ => ∃ (k : Nat), (k ≤ n ∧ ∀ j, j < k → wc S f j = 0) ∧ ρ = rhoL W.heap.size ([N, (n : Int), (m : Int), (feR N n S).1, (feR N n S).2] ++ [(k : Int)]) [⟨A, n * 4, flat4 S⟩, ⟨B, m, flat1 f⟩, ⟨none, 0, sur S f n⟩] [] []) (μ := fun ρ => n - (@Rho.i ρ 5).toNat) (a := ucf1_a) (h := ucf1_h) ?_ _ ⟨0, ?_, rfl⟩ A1 W1 hs1
            rotate_left
            · exact ⟨Nat.zero_le _, fun j hj => absurd hj (Nat.not_lt_zero j)⟩
            first | clear hs1 hx | clear hs1
            rintro ρ ⟨k, hinv, rfl⟩ A2 W2 hs2
            letI : Rho := rhoL W.heap.size ([N, (n : Int), (m : Int), (feR N n S).1, (feR N n S).2] ++ [(k : Int)]) [⟨A, n * 4, flat4 S⟩, ⟨B, m, flat1 f⟩, ⟨none, 0, sur S f n⟩] [] []
            obtain ⟨hk, hz⟩ := hinv
            by_cases f1 : (n : Int) ≤ (k : Int)
            · skip
              have hF : Facts [((.le (.var 1) (.var 5)), true)] := ⟨f_le f1 rfl rfl, trivial⟩
              have hkn : k = n := by omega
              have hz' : ∀ j, j < n → wc S f j = 0 := fun j hj => hz j (by omega)
              have hf := wc_bound hR hz'
              refine out_run (P := Try.prog) (K := orK (feK 3) suK) (fl := []) (by kernel_rfl) (orK_ok (feK_ok (N := N) (n := n) (S := S) rfl rfl rfl rfl rfl hN (by omega) (by omega)) (suK_ok (N := N) (n := n) (m := m) (S := S) (f := f) rfl rfl rfl rfl rfl rfl hN200 (by omega) hmn hR hf)) (facD_ok hF) hs2 (enter_run (B := 6) (a' := ucf2_a) (h' := ucf2_h) (ρ' := rhoL W.heap.size ([N, (n : Int), (m : Int), (feR N n S).1, (feR N n S).2, (k : Int)] ++ [0]) [⟨A, n * 4, flat4 S⟩, ⟨B, m, flat1 f⟩, ⟨none, 0, sur S f n⟩] [] []) (ds := [.int (.lit (0)) (.var 6)]) (c := (loopIn (bodyC Try.prog 14) 1)) (by kernel_rfl) (by kernel_rfl) rfl (agree_list (l := [N, (n : Int), (m : Int), (feR N n S).1, (feR N n S).2, (k : Int)]) (x := []) (Nat.le_refl _) rfl) ⟨rfl, trivial⟩ fun A1 W1 hs1 => ?_)
              refine loop_ok (Inv := fun ρ => ∃ (i : Nat), ((i : Int) ≤ N ∧ ∀ j : Nat, j < i → atR S f n (j : Int) = 0) ∧ ρ = rhoL W.heap.size ([N, (n : Int), (m : Int), (feR N n S).1, (feR N n S).2, (k : Int)] ++ [(i : Int)]) [⟨A, n * 4, flat4 S⟩, ⟨B, m, flat1 f⟩, ⟨none, 0, sur S f n⟩] [] []) (μ := fun ρ => N.toNat - (@Rho.i ρ 6).toNat) (a := ucf2_a) (h := ucf2_h) ?_ _ ⟨0, ?_, rfl⟩ A1 W1 hs1
              rotate_left
              · exact ⟨hN200.1, fun j hj => absurd hj (Nat.not_lt_zero j)⟩
              first | clear hs1 hx | clear hs1
              rintro ρ ⟨i, hinv, rfl⟩ A2 W2 hs2
              letI : Rho := rhoL W.heap.size ([N, (n : Int), (m : Int), (feR N n S).1, (feR N n S).2, (k : Int)] ++ [(i : Int)]) [⟨A, n * 4, flat4 S⟩, ⟨B, m, flat1 f⟩, ⟨none, 0, sur S f n⟩] [] []
              obtain ⟨hi, hy⟩ := hinv
              by_cases f1 : N ≤ (i : Int)
              · skip
                have hF : Facts [((.le (.var 0) (.var 6)), true)] := ⟨f_le f1 rfl rfl, trivial⟩
                have hy' : ∀ j : Nat, j < N.toNat → atR S f n (j : Int) = 0 := fun j hj => hy j (by omega)
                refine out_run (P := Try.prog) (K := noK) (fl := []) (by kernel_rfl) noK_ok (facD_ok hF) hs2 (enter_run (B := 7) (a' := ucf3_a) (h' := ucf3_h) (ρ' := rhoL W.heap.size ([N, (n : Int), (m : Int), (feR N n S).1, (feR N n S).2, (k : Int), (i : Int)] ++ [0, 0]) [⟨A, n * 4, flat4 S⟩, ⟨B, m, flat1 f⟩, ⟨none, 0, sur S f n⟩] [] []) (ds := [.int (.lit (0)) (.var 7), .int (.lit (0)) (.var 8)]) (c := (loopIn (bodyC Try.prog 14) 2)) (by kernel_rfl) (by kernel_rfl) rfl (agree_list (l := [N, (n : Int), (m : Int), (feR N n S).1, (feR N n S).2, (k : Int), (i : Int)]) (x := []) (Nat.le_refl _) rfl) ⟨rfl, rfl, trivial⟩ fun A1 W1 hs1 => ?_)
                refine loop_ok (Inv := fun ρ => ∃ (acc : Int) (q : Nat), (q ≤ n ∧ acc = vaR S f q) ∧ ρ = rhoL W.heap.size ([N, (n : Int), (m : Int), (feR N n S).1, (feR N n S).2, (k : Int), (i : Int)] ++ [(acc : Int), (q : Int)]) [⟨A, n * 4, flat4 S⟩, ⟨B, m, flat1 f⟩, ⟨none, 0, sur S f n⟩] [] []) (μ := fun ρ => n - (@Rho.i ρ 8).toNat) (a := ucf3_a) (h := ucf3_h) ?_ _ ⟨0, 0, ?_, rfl⟩ A1 W1 hs1
                rotate_left
                · exact ⟨Nat.zero_le _, rfl⟩
                first | clear hs1 hx | clear hs1
                rintro ρ ⟨acc, q, hinv, rfl⟩ A2 W2 hs2
                letI : Rho := rhoL W.heap.size ([N, (n : Int), (m : Int), (feR N n S).1, (feR N n S).2, (k : Int), (i : Int)] ++ [(acc : Int), (q : Int)]) [⟨A, n * 4, flat4 S⟩, ⟨B, m, flat1 f⟩, ⟨none, 0, sur S f n⟩] [] []
                obtain ⟨hq, ha⟩ := hinv
                by_cases f1 : (n : Int) ≤ (q : Int)
                · skip
                  have hF : Facts [((.le (.var 1) (.var 8)), true)] := ⟨f_le f1 rfl rfl, trivial⟩
                  refine out_run (P := Try.prog) (K := noK) (fl := []) (by kernel_rfl) noK_ok (facD_ok hF) hs2 (fin_run (r := (.tup [(.si .i64 (.var 7)), (.pl (.int .i64 (0)))])) (by kernel_rfl) rfl fun W' hbel => ⟨?_, hbel⟩)
                  show Ending.returned (.tuple #[(.int .i64 (acc : Int)), (.int .i64 0)]) = _
                  unfold cfR
                  rw [if_pos hR0]
                  have hjn : q = n := by omega
                  have h1 : (wR n S f).2 = 0 := by rw [w_none hz']
                  have h2 : (oR N.toNat S f n).2 = 0 := by rw [o_none hy']
                  unfold rfR
                  rw [if_pos hmn, if_pos h1, if_pos h2, ha, hjn]
                · skip
                  have f2 : (0 ≤ (q : Int)) := by
                    first | omega | (have hq := ec_right (hR k (by omega)); omega) | (have hq := ec_right (hR q (by omega)); have hb := (flow_bound hR q (by omega) (fun j hj => hz' j (by omega))).2; rw [← ha] at hb; have hf1 : -1000 ≤ flat1 f (q : Int) ∧ flat1 f (q : Int) ≤ 1000 := hf q (by omega); have hp := mul_two (x := flat1 f (q : Int)) (y := flat4 S ((q : Int) * 4 + 2)) (by omega) (by omega); constructor <;> omega)
                  have f3 : ¬ ((m : Int) ≤ (q : Int)) := by
                    first | omega | (have hq := ec_right (hR k (by omega)); omega) | (have hq := ec_right (hR q (by omega)); have hb := (flow_bound hR q (by omega) (fun j hj => hz' j (by omega))).2; rw [← ha] at hb; have hf1 : -1000 ≤ flat1 f (q : Int) ∧ flat1 f (q : Int) ≤ 1000 := hf q (by omega); have hp := mul_two (x := flat1 f (q : Int)) (y := flat4 S ((q : Int) * 4 + 2)) (by omega) (by omega); constructor <;> omega)
                  have f4 : (-9223372036854775808 : Int) ≤ ((flat1 f (q : Int)) * (flat4 S (((q : Int) * 4) + 2))) ∧ ((flat1 f (q : Int)) * (flat4 S (((q : Int) * 4) + 2))) ≤ 9223372036854775807 := by
                    first | omega | (have hq := ec_right (hR k (by omega)); omega) | (have hq := ec_right (hR q (by omega)); have hb := (flow_bound hR q (by omega) (fun j hj => hz' j (by omega))).2; rw [← ha] at hb; have hf1 : -1000 ≤ flat1 f (q : Int) ∧ flat1 f (q : Int) ≤ 1000 := hf q (by omega); have hp := mul_two (x := flat1 f (q : Int)) (y := flat4 S ((q : Int) * 4 + 2)) (by omega) (by omega); constructor <;> omega)
                  have f5 : (-9223372036854775808 : Int) ≤ ((acc : Int) + ((flat1 f (q : Int)) * (flat4 S (((q : Int) * 4) + 2)))) ∧ ((acc : Int) + ((flat1 f (q : Int)) * (flat4 S (((q : Int) * 4) + 2)))) ≤ 9223372036854775807 := by
                    first | omega | (have hq := ec_right (hR k (by omega)); omega) | (have hq := ec_right (hR q (by omega)); have hb := (flow_bound hR q (by omega) (fun j hj => hz' j (by omega))).2; rw [← ha] at hb; have hf1 : -1000 ≤ flat1 f (q : Int) ∧ flat1 f (q : Int) ≤ 1000 := hf q (by omega); have hp := mul_two (x := flat1 f (q : Int)) (y := flat4 S ((q : Int) * 4 + 2)) (by omega) (by omega); constructor <;> omega)
                  have f6 : (-9223372036854775808 : Int) ≤ ((q : Int) + 1) ∧ ((q : Int) + 1) ≤ 9223372036854775807 := by
                    first | omega | (have hq := ec_right (hR k (by omega)); omega) | (have hq := ec_right (hR q (by omega)); have hb := (flow_bound hR q (by omega) (fun j hj => hz' j (by omega))).2; rw [← ha] at hb; have hf1 : -1000 ≤ flat1 f (q : Int) ∧ flat1 f (q : Int) ≤ 1000 := hf q (by omega); have hp := mul_two (x := flat1 f (q : Int)) (y := flat4 S ((q : Int) * 4 + 2)) (by omega) (by omega); constructor <;> omega)
                  have hF : Facts [((.le (.var 1) (.var 8)), false), ((.le (.lit (0)) (.var 8)), true), ((.le (.var 2) (.var 8)), false), ((.inr .i64 (.mul (.sel (.avar 1) (.var 8)) (.sel (.avar 0) (.add (.mul (.var 8) (.lit (4))) (.lit (2)))))), true), ((.inr .i64 (.add (.var 7) (.mul (.sel (.avar 1) (.var 8)) (.sel (.avar 0) (.add (.mul (.var 8) (.lit (4))) (.lit (2))))))), true), ((.inr .i64 (.add (.var 8) (.lit (1)))), true)] := ⟨f_nle f1 rfl rfl, f_le f2 rfl rfl, f_nle f3 rfl rfl, f_in f4 rfl, f_in f5 rfl, f_in f6 rfl, trivial⟩
                  refine again_run (P := Try.prog) (K := noK) (fl := []) (B := 7) (a' := ucf3_a) (h' := ucf3_h) (ρ' := rhoL W.heap.size ([N, (n : Int), (m : Int), (feR N n S).1, (feR N n S).2, (k : Int), (i : Int)] ++ [((((acc : Int) + ((flat1 f (q : Int)) * (flat4 S (((q : Int) * 4) + 2)))) : Int) : Int), (((q + 1) : Nat) : Int)]) [⟨A, n * 4, flat4 S⟩, ⟨B, m, flat1 f⟩, ⟨none, 0, sur S f n⟩] [] []) (ds := [.int (.add (.var 7) (.mul (.sel (.avar 1) (.var 8)) (.sel (.avar 0) (.add (.mul (.var 8) (.lit (4))) (.lit (2)))))) (.var 7), .int (.add (.var 8) (.lit (1))) (.var 8)]) (by kernel_rfl) noK_ok (facD_ok hF) (by kernel_rfl) (agree_list (l := [N, (n : Int), (m : Int), (feR N n S).1, (feR N n S).2, (k : Int), (i : Int)]) (Nat.le_refl _) rfl) ⟨(show (((acc : Int) + ((flat1 f (q : Int)) * (flat4 S (((q : Int) * 4) + 2)))) : Int) = ((((acc : Int) + ((flat1 f (q : Int)) * (flat4 S (((q : Int) * 4) + 2)))) : Int) : Int) from by first | rfl | (push_cast; omega)), (show (((q : Int) + 1) : Int) = (((q + 1) : Nat) : Int) from by first | rfl | (push_cast; omega)), trivial⟩ hs2 fun A3 W3 hs3 => ⟨_, ⟨((acc : Int) + ((flat1 f (q : Int)) * (flat4 S (((q : Int) * 4) + 2)))), (q + 1), ?_, rfl⟩, ?_, hs3⟩
                  · refine ⟨by omega, by rw [ha]; rfl⟩
                  · show n - ((q + 1 : Nat) : Int).toNat < n - ((q : Nat) : Int).toNat
                    omega
              · skip
                have f2 : (0 ≤ (i : Int)) := by
                  first | omega | (have hq := ec_right (hR k (by omega)); omega) | (have hq := ec_right (hR q (by omega)); have hb := (flow_bound hR q (by omega) (fun j hj => hz' j (by omega))).2; rw [← ha] at hb; have hf1 : -1000 ≤ flat1 f (q : Int) ∧ flat1 f (q : Int) ≤ 1000 := hf q (by omega); have hp := mul_two (x := flat1 f (q : Int)) (y := flat4 S ((q : Int) * 4 + 2)) (by omega) (by omega); constructor <;> omega)
                by_cases f3 : (sur S f n (i : Int)) = 0
                · skip
                  have f4 : (-9223372036854775808 : Int) ≤ ((i : Int) + 1) ∧ ((i : Int) + 1) ≤ 9223372036854775807 := by
                    first | omega | (have hq := ec_right (hR k (by omega)); omega) | (have hq := ec_right (hR q (by omega)); have hb := (flow_bound hR q (by omega) (fun j hj => hz' j (by omega))).2; rw [← ha] at hb; have hf1 : -1000 ≤ flat1 f (q : Int) ∧ flat1 f (q : Int) ≤ 1000 := hf q (by omega); have hp := mul_two (x := flat1 f (q : Int)) (y := flat4 S ((q : Int) * 4 + 2)) (by omega) (by omega); constructor <;> omega)
                  have hF : Facts [((.le (.var 0) (.var 6)), false), ((.le (.lit (0)) (.var 6)), true), ((.eq (.sel (.avar 2) (.var 6)) (.lit (0))), true), ((.inr .i64 (.add (.var 6) (.lit (1)))), true)] := ⟨f_nle f1 rfl rfl, f_le f2 rfl rfl, f_eq f3 rfl rfl, f_in f4 rfl, trivial⟩
                  refine again_run (P := Try.prog) (K := noK) (fl := []) (B := 6) (a' := ucf2_a) (h' := ucf2_h) (ρ' := rhoL W.heap.size ([N, (n : Int), (m : Int), (feR N n S).1, (feR N n S).2, (k : Int)] ++ [(((i + 1) : Nat) : Int)]) [⟨A, n * 4, flat4 S⟩, ⟨B, m, flat1 f⟩, ⟨none, 0, sur S f n⟩] [] []) (ds := [.int (.add (.var 6) (.lit (1))) (.var 6)]) (by kernel_rfl) noK_ok (facD_ok hF) (by kernel_rfl) (agree_list (l := [N, (n : Int), (m : Int), (feR N n S).1, (feR N n S).2, (k : Int)]) (Nat.le_refl _) rfl) ⟨(show (((i : Int) + 1) : Int) = (((i + 1) : Nat) : Int) from by first | rfl | (push_cast; omega)), trivial⟩ hs2 fun A3 W3 hs3 => ⟨_, ⟨(i + 1), ?_, rfl⟩, ?_, hs3⟩
                  · refine ⟨by push_cast; omega, fun j hj => ?_⟩
                    rcases Nat.lt_or_ge j i with g | g
                    · exact hy j g
                    · obtain rfl : j = i := by omega
                      rw [← sur_at hR n (Nat.le_refl n)]
                      exact f3
                  · show N.toNat - ((i + 1 : Nat) : Int).toNat < N.toNat - ((i : Nat) : Int).toNat
                    omega
                · skip
                  have hF : Facts [((.le (.var 0) (.var 6)), false), ((.le (.lit (0)) (.var 6)), true), ((.eq (.sel (.avar 2) (.var 6)) (.lit (0))), false)] := ⟨f_nle f1 rfl rfl, f_le f2 rfl rfl, f_ne f3 rfl rfl, trivial⟩
                  refine out_run (P := Try.prog) (K := noK) (fl := []) (by kernel_rfl) noK_ok (facD_ok hF) hs2 (fin_run (r := (.tup [(.pl (.int .i64 (0))), (.pl (.int .i64 (25)))])) (by kernel_rfl) rfl fun W' hbel => ⟨?_, hbel⟩)
                  show Ending.returned (.tuple #[(.int .i64 0), (.int .i64 25)]) = _
                  unfold cfR
                  rw [if_pos hR0]
                  have h1 : (wR n S f).2 = 0 := by rw [w_none hz']
                  have h2 : (oR N.toNat S f n).2 ≠ 0 := by
                    rw [o_hit hy (k := i) (by rw [← sur_at hR n (Nat.le_refl n)]; simp only [f1, f2, f3, if_false]) (by omega)]
                    show (25 : Int) ≠ 0
                    decide
                  unfold rfR
                  rw [if_pos hmn, if_pos h1, if_neg h2]
            · skip
              have f2 : (0 ≤ (k : Int)) := by
                first | omega | (have hq := ec_right (hR k (by omega)); omega) | (have hq := ec_right (hR q (by omega)); have hb := (flow_bound hR q (by omega) (fun j hj => hz' j (by omega))).2; rw [← ha] at hb; have hf1 : -1000 ≤ flat1 f (q : Int) ∧ flat1 f (q : Int) ≤ 1000 := hf q (by omega); have hp := mul_two (x := flat1 f (q : Int)) (y := flat4 S ((q : Int) * 4 + 2)) (by omega) (by omega); constructor <;> omega)
              have f3 : ¬ ((m : Int) ≤ (k : Int)) := by
                first | omega | (have hq := ec_right (hR k (by omega)); omega) | (have hq := ec_right (hR q (by omega)); have hb := (flow_bound hR q (by omega) (fun j hj => hz' j (by omega))).2; rw [← ha] at hb; have hf1 : -1000 ≤ flat1 f (q : Int) ∧ flat1 f (q : Int) ≤ 1000 := hf q (by omega); have hp := mul_two (x := flat1 f (q : Int)) (y := flat4 S ((q : Int) * 4 + 2)) (by omega) (by omega); constructor <;> omega)
              have f4 : (-9223372036854775808 : Int) ≤ (0 - (flat4 S (((k : Int) * 4) + 3))) ∧ (0 - (flat4 S (((k : Int) * 4) + 3))) ≤ 9223372036854775807 := by
                first | omega | (have hq := ec_right (hR k (by omega)); omega) | (have hq := ec_right (hR q (by omega)); have hb := (flow_bound hR q (by omega) (fun j hj => hz' j (by omega))).2; rw [← ha] at hb; have hf1 : -1000 ≤ flat1 f (q : Int) ∧ flat1 f (q : Int) ≤ 1000 := hf q (by omega); have hp := mul_two (x := flat1 f (q : Int)) (y := flat4 S ((q : Int) * 4 + 2)) (by omega) (by omega); constructor <;> omega)
              by_cases f5 : (0 - (flat4 S (((k : Int) * 4) + 3))) ≤ (flat1 f (k : Int))
              · skip
                by_cases f6 : (flat1 f (k : Int)) ≤ (flat4 S (((k : Int) * 4) + 3))
                · skip
                  have f7 : (-9223372036854775808 : Int) ≤ ((k : Int) + 1) ∧ ((k : Int) + 1) ≤ 9223372036854775807 := by
                    first | omega | (have hq := ec_right (hR k (by omega)); omega) | (have hq := ec_right (hR q (by omega)); have hb := (flow_bound hR q (by omega) (fun j hj => hz' j (by omega))).2; rw [← ha] at hb; have hf1 : -1000 ≤ flat1 f (q : Int) ∧ flat1 f (q : Int) ≤ 1000 := hf q (by omega); have hp := mul_two (x := flat1 f (q : Int)) (y := flat4 S ((q : Int) * 4 + 2)) (by omega) (by omega); constructor <;> omega)
                  have hF : Facts [((.le (.var 1) (.var 5)), false), ((.le (.lit (0)) (.var 5)), true), ((.le (.var 2) (.var 5)), false), ((.inr .i64 (.sub (.lit (0)) (.sel (.avar 0) (.add (.mul (.var 5) (.lit (4))) (.lit (3)))))), true), ((.le (.sub (.lit (0)) (.sel (.avar 0) (.add (.mul (.var 5) (.lit (4))) (.lit (3))))) (.sel (.avar 1) (.var 5))), true), ((.le (.sel (.avar 1) (.var 5)) (.sel (.avar 0) (.add (.mul (.var 5) (.lit (4))) (.lit (3))))), true), ((.inr .i64 (.add (.var 5) (.lit (1)))), true)] := ⟨f_nle f1 rfl rfl, f_le f2 rfl rfl, f_nle f3 rfl rfl, f_in f4 rfl, f_le f5 rfl rfl, f_le f6 rfl rfl, f_in f7 rfl, trivial⟩
                  refine again_run (P := Try.prog) (K := noK) (fl := []) (B := 5) (a' := ucf1_a) (h' := ucf1_h) (ρ' := rhoL W.heap.size ([N, (n : Int), (m : Int), (feR N n S).1, (feR N n S).2] ++ [(((k + 1) : Nat) : Int)]) [⟨A, n * 4, flat4 S⟩, ⟨B, m, flat1 f⟩, ⟨none, 0, sur S f n⟩] [] []) (ds := [.int (.add (.var 5) (.lit (1))) (.var 5)]) (by kernel_rfl) noK_ok (facD_ok hF) (by kernel_rfl) (agree_list (l := [N, (n : Int), (m : Int), (feR N n S).1, (feR N n S).2]) (Nat.le_refl _) rfl) ⟨(show (((k : Int) + 1) : Int) = (((k + 1) : Nat) : Int) from by first | rfl | (push_cast; omega)), trivial⟩ hs2 fun A3 W3 hs3 => ⟨_, ⟨(k + 1), ?_, rfl⟩, ?_, hs3⟩
                  · refine ⟨by omega, fun j hj => ?_⟩
                    rcases Nat.lt_or_ge j k with g | g
                    · exact hz j g
                    · obtain rfl : j = k := by omega
                      simp only [wc, wcode, f1, f2, f3, f5, f6, and_true, true_and, and_false, false_and, and_self, if_true, if_false]
                  · show n - ((k + 1 : Nat) : Int).toNat < n - ((k : Nat) : Int).toNat
                    omega
                · skip
                  have hF : Facts [((.le (.var 1) (.var 5)), false), ((.le (.lit (0)) (.var 5)), true), ((.le (.var 2) (.var 5)), false), ((.inr .i64 (.sub (.lit (0)) (.sel (.avar 0) (.add (.mul (.var 5) (.lit (4))) (.lit (3)))))), true), ((.le (.sub (.lit (0)) (.sel (.avar 0) (.add (.mul (.var 5) (.lit (4))) (.lit (3))))) (.sel (.avar 1) (.var 5))), true), ((.le (.sel (.avar 1) (.var 5)) (.sel (.avar 0) (.add (.mul (.var 5) (.lit (4))) (.lit (3))))), false)] := ⟨f_nle f1 rfl rfl, f_le f2 rfl rfl, f_nle f3 rfl rfl, f_in f4 rfl, f_le f5 rfl rfl, f_nle f6 rfl rfl, trivial⟩
                  refine out_run (P := Try.prog) (K := noK) (fl := []) (by kernel_rfl) noK_ok (facD_ok hF) hs2 (fin_run (r := (.tup [(.pl (.int .i64 (0))), (.pl (.int .i64 (2)))])) (by kernel_rfl) rfl fun W' hbel => ⟨?_, hbel⟩)
                  show Ending.returned (.tuple #[(.int .i64 0), (.int .i64 2)]) = _
                  unfold cfR
                  rw [if_pos hR0]
                  have h1 : (wR n S f).2 ≠ 0 := by
                    rw [w_hit hz (k := k) (by simp only [wc, wcode, f1, f2, f3, f5, f6, and_true, true_and, and_false, false_and, and_self, if_true, if_false]) (by omega)]
                    show (2 : Int) ≠ 0
                    decide
                  unfold rfR
                  rw [if_pos hmn, if_neg h1]
              · skip
                have hF : Facts [((.le (.var 1) (.var 5)), false), ((.le (.lit (0)) (.var 5)), true), ((.le (.var 2) (.var 5)), false), ((.inr .i64 (.sub (.lit (0)) (.sel (.avar 0) (.add (.mul (.var 5) (.lit (4))) (.lit (3)))))), true), ((.le (.sub (.lit (0)) (.sel (.avar 0) (.add (.mul (.var 5) (.lit (4))) (.lit (3))))) (.sel (.avar 1) (.var 5))), false)] := ⟨f_nle f1 rfl rfl, f_le f2 rfl rfl, f_nle f3 rfl rfl, f_in f4 rfl, f_nle f5 rfl rfl, trivial⟩
                refine out_run (P := Try.prog) (K := noK) (fl := []) (by kernel_rfl) noK_ok (facD_ok hF) hs2 (fin_run (r := (.tup [(.pl (.int .i64 (0))), (.pl (.int .i64 (2)))])) (by kernel_rfl) rfl fun W' hbel => ⟨?_, hbel⟩)
                show Ending.returned (.tuple #[(.int .i64 0), (.int .i64 2)]) = _
                unfold cfR
                rw [if_pos hR0]
                have h1 : (wR n S f).2 ≠ 0 := by
                  rw [w_hit hz (k := k) (by simp only [wc, wcode, f1, f2, f3, f5, and_true, true_and, and_false, false_and, and_self, if_true, if_false]) (by omega)]
                  show (2 : Int) ≠ 0
                  decide
                unfold rfR
                rw [if_pos hmn, if_neg h1]
          · skip
            have hF : Facts [((.le (.lit (0)) (.var 0)), true), ((.le (.var 0) (.lit (200))), true), ((.le (.var 1) (.lit (600))), true), ((.eq (.var 2) (.var 1)), true), ((.eq (.var 4) (.lit (0))), false)] := ⟨f_le f1 rfl rfl, f_le f2 rfl rfl, f_le f3 rfl rfl, f_eq f4 rfl rfl, f_ne f5 rfl rfl, trivial⟩
            refine call_start (P := Try.prog) (K := feK 3) (fl := []) (by kernel_rfl) (by kernel_rfl) hx hfar (feK_ok (N := N) (n := n) (S := S) rfl rfl rfl rfl rfl hN (by omega) (by omega)) (facD_ok hF) (fin_run (r := (.tup [(.pl (.int .i64 (0))), (.si .i64 (.var 4))])) (by kernel_rfl) rfl fun W' hbel => ⟨?_, hbel⟩)
            show Ending.returned (.tuple #[(.int .i64 0), (.int .i64 (feR N n S).2)]) = _
            have hcn : cnR N n S = feR N n S := cn_edges (by omega) (by omega)
            unfold cfR
            rw [hcn, if_neg f5]
        · skip
          by_cases f5 : (feR N n S).2 = 0
          · skip
            have hF : Facts [((.le (.lit (0)) (.var 0)), true), ((.le (.var 0) (.lit (200))), true), ((.le (.var 1) (.lit (600))), true), ((.eq (.var 2) (.var 1)), false), ((.eq (.var 4) (.lit (0))), true)] := ⟨f_le f1 rfl rfl, f_le f2 rfl rfl, f_le f3 rfl rfl, f_ne f4 rfl rfl, f_eq f5 rfl rfl, trivial⟩
            refine call_start (P := Try.prog) (K := feK 3) (fl := []) (by kernel_rfl) (by kernel_rfl) hx hfar (feK_ok (N := N) (n := n) (S := S) rfl rfl rfl rfl rfl hN (by omega) (by omega)) (facD_ok hF) (fin_run (r := (.tup [(.pl (.int .i64 (0))), (.pl (.int .i64 (10)))])) (by kernel_rfl) rfl fun W' hbel => ⟨?_, hbel⟩)
            show Ending.returned (.tuple #[(.int .i64 0), (.int .i64 10)]) = _
            have hcn : cnR N n S = feR N n S := cn_edges (by omega) (by omega)
            unfold cfR
            rw [hcn, if_pos f5]
            unfold rfR
            rw [if_neg (by omega)]
          · skip
            have hF : Facts [((.le (.lit (0)) (.var 0)), true), ((.le (.var 0) (.lit (200))), true), ((.le (.var 1) (.lit (600))), true), ((.eq (.var 2) (.var 1)), false), ((.eq (.var 4) (.lit (0))), false)] := ⟨f_le f1 rfl rfl, f_le f2 rfl rfl, f_le f3 rfl rfl, f_ne f4 rfl rfl, f_ne f5 rfl rfl, trivial⟩
            refine call_start (P := Try.prog) (K := feK 3) (fl := []) (by kernel_rfl) (by kernel_rfl) hx hfar (feK_ok (N := N) (n := n) (S := S) rfl rfl rfl rfl rfl hN (by omega) (by omega)) (facD_ok hF) (fin_run (r := (.tup [(.pl (.int .i64 (0))), (.si .i64 (.var 4))])) (by kernel_rfl) rfl fun W' hbel => ⟨?_, hbel⟩)
            show Ending.returned (.tuple #[(.int .i64 0), (.int .i64 (feR N n S).2)]) = _
            have hcn : cnR N n S = feR N n S := cn_edges (by omega) (by omega)
            unfold cfR
            rw [hcn, if_neg f5]
      · skip
        by_cases f4 : (m : Int) = (n : Int)
        · skip
          have hF : Facts [((.le (.lit (0)) (.var 0)), true), ((.le (.var 0) (.lit (200))), true), ((.le (.var 1) (.lit (600))), false), ((.eq (.var 2) (.var 1)), true)] := ⟨f_le f1 rfl rfl, f_le f2 rfl rfl, f_nle f3 rfl rfl, f_eq f4 rfl rfl, trivial⟩
          refine call_start (P := Try.prog) (K := noK) (fl := []) (by kernel_rfl) (by kernel_rfl) hx hfar noK_ok (facD_ok hF) (fin_run (r := (.tup [(.pl (.int .i64 (0))), (.pl (.int .i64 (8)))])) (by kernel_rfl) rfl fun W' hbel => ⟨?_, hbel⟩)
          show Ending.returned (.tuple #[(.int .i64 0), (.int .i64 8)]) = _
          have hcn : cnR N n S = (0, 8) := cn_large (by omega) (by omega)
          unfold cfR
          rw [hcn, if_neg (by decide)]
        · skip
          have hF : Facts [((.le (.lit (0)) (.var 0)), true), ((.le (.var 0) (.lit (200))), true), ((.le (.var 1) (.lit (600))), false), ((.eq (.var 2) (.var 1)), false)] := ⟨f_le f1 rfl rfl, f_le f2 rfl rfl, f_nle f3 rfl rfl, f_ne f4 rfl rfl, trivial⟩
          refine call_start (P := Try.prog) (K := noK) (fl := []) (by kernel_rfl) (by kernel_rfl) hx hfar noK_ok (facD_ok hF) (fin_run (r := (.tup [(.pl (.int .i64 (0))), (.pl (.int .i64 (8)))])) (by kernel_rfl) rfl fun W' hbel => ⟨?_, hbel⟩)
          show Ending.returned (.tuple #[(.int .i64 0), (.int .i64 8)]) = _
          have hcn : cnR N n S = (0, 8) := cn_large (by omega) (by omega)
          unfold cfR
          rw [hcn, if_neg (by decide)]
    · skip
      by_cases f3 : (m : Int) = (n : Int)
      · skip
        have hF : Facts [((.le (.lit (0)) (.var 0)), true), ((.le (.var 0) (.lit (200))), false), ((.eq (.var 2) (.var 1)), true)] := ⟨f_le f1 rfl rfl, f_nle f2 rfl rfl, f_eq f3 rfl rfl, trivial⟩
        refine call_start (P := Try.prog) (K := noK) (fl := []) (by kernel_rfl) (by kernel_rfl) hx hfar noK_ok (facD_ok hF) (fin_run (r := (.tup [(.pl (.int .i64 (0))), (.pl (.int .i64 (2)))])) (by kernel_rfl) rfl fun W' hbel => ⟨?_, hbel⟩)
        show Ending.returned (.tuple #[(.int .i64 0), (.int .i64 2)]) = _
        have hcn : cnR N n S = (0, 2) := cn_range (by omega)
        unfold cfR
        rw [hcn, if_neg (by decide)]
      · skip
        have hF : Facts [((.le (.lit (0)) (.var 0)), true), ((.le (.var 0) (.lit (200))), false), ((.eq (.var 2) (.var 1)), false)] := ⟨f_le f1 rfl rfl, f_nle f2 rfl rfl, f_ne f3 rfl rfl, trivial⟩
        refine call_start (P := Try.prog) (K := noK) (fl := []) (by kernel_rfl) (by kernel_rfl) hx hfar noK_ok (facD_ok hF) (fin_run (r := (.tup [(.pl (.int .i64 (0))), (.pl (.int .i64 (2)))])) (by kernel_rfl) rfl fun W' hbel => ⟨?_, hbel⟩)
        show Ending.returned (.tuple #[(.int .i64 0), (.int .i64 2)]) = _
        have hcn : cnR N n S = (0, 2) := cn_range (by omega)
        unfold cfR
        rw [hcn, if_neg (by decide)]
  · skip
    by_cases f2 : (m : Int) = (n : Int)
    · skip
      have hF : Facts [((.le (.lit (0)) (.var 0)), false), ((.eq (.var 2) (.var 1)), true)] := ⟨f_nle f1 rfl rfl, f_eq f2 rfl rfl, trivial⟩
      refine call_start (P := Try.prog) (K := noK) (fl := []) (by kernel_rfl) (by kernel_rfl) hx hfar noK_ok (facD_ok hF) (fin_run (r := (.tup [(.pl (.int .i64 (0))), (.pl (.int .i64 (2)))])) (by kernel_rfl) rfl fun W' hbel => ⟨?_, hbel⟩)
      show Ending.returned (.tuple #[(.int .i64 0), (.int .i64 2)]) = _
      have hcn : cnR N n S = (0, 2) := cn_range (by omega)
      unfold cfR
      rw [hcn, if_neg (by decide)]
    · skip
      have hF : Facts [((.le (.lit (0)) (.var 0)), false), ((.eq (.var 2) (.var 1)), false)] := ⟨f_nle f1 rfl rfl, f_ne f2 rfl rfl, trivial⟩
      refine call_start (P := Try.prog) (K := noK) (fl := []) (by kernel_rfl) (by kernel_rfl) hx hfar noK_ok (facD_ok hF) (fin_run (r := (.tup [(.pl (.int .i64 (0))), (.pl (.int .i64 (2)))])) (by kernel_rfl) rfl fun W' hbel => ⟨?_, hbel⟩)
      show Ending.returned (.tuple #[(.int .i64 0), (.int .i64 2)]) = _
      have hcn : cnR N n S = (0, 2) := cn_range (by omega)
      unfold cfR
      rw [hcn, if_neg (by decide)]

end Go.Proofs.Ytmglofemnobakaa
