/- Contract: the phases along a path, or what is wrong. -/
import Derived.Test.YtmglofemnobakaaFww
import Derived.Test.YtmglofemnobakaaSyq
import Derived.Test.YtmglofemnobakaaGar
namespace Go.Proofs.Ytmglofemnobakaa
open Go.RowKit
set_option maxHeartbeats 4000000
set_option maxRecDepth 100000
set_option linter.unusedSimpArgs false
set_option linter.unusedVariables false

/-- what is wrong with the size of a map; with a wrapped map -/
def szErr (R C : Int) (n : Nat) : Int := if 1 ≤ R ∧ R ≤ 64 ∧ 1 ≤ C ∧ C ≤ 64 then (if (n : Int) = R * C then 0 else 10) else 2
def wrErr (R C : Int) (n : Nat) (s : Nat → Int) : Int := if szErr R C n = 0 then (prR n s).2 else szErr R C n
/-- two pixels beside one another -/
def nb (C a b : Int) : Prop := if a ≤ b then (b - a = C ∨ (b - a = 1 ∧ ¬ b.tmod C = 0)) else (a - b = C ∨ (a - b = 1 ∧ ¬ a.tmod C = 0))
instance (C a b : Int) : Decidable (nb C a b) := by unfold nb; infer_instance
def acode (C : Int) (n : Nat) (S P : Int → Int) (k : Nat) : Int := if 0 ≤ P (k : Int) ∧ P (k : Int) ≤ (n : Int) + -1 then (if S (P (k : Int)) = 1000000000000 then 31 else if k = 0 then 0 else if nb C (P ((k : Int) + -1)) (P (k : Int)) then 0 else 14) else 6
def wrp (x : Int) : Int := if 0 ≤ (x + 2048).tmod 4096 then (x + 2048).tmod 4096 + -2048 else (x + 2048).tmod 4096 + 2048
def stp (S : Int → Int) (a b : Int) : Int := if a ≤ b then wrp (S b - S a) else 0 - wrp (S a - S b)
def aval (S P : Int → Int) : Nat → Int
  | 0 => S (P 0)
  | k + 1 => aval S P k + stp S (P (((k + 1 : Nat) : Int) + -1)) (P ((k + 1 : Nat) : Int))
/-- what is wrong with a path -/
def aErr (R C : Int) (n : Nat) (s : Nat → Int) (m : Nat) (p : Nat → Int) : Int := if wrErr R C n s = 0 then (if (m : Int) ≤ 200 then (fw (acode C n (flat1 s) (flat1 p)) m).2 else 8) else wrErr R C n s
theorem aErr_in {R C : Int} {n m : Nat} {s p : Nat → Int} (h : wrErr R C n s = 0) (h2 : (m : Int) ≤ 200) : aErr R C n s m p = (fw (acode C n (flat1 s) (flat1 p)) m).2 := by unfold aErr; rw [if_pos h, if_pos h2]
theorem aval_step {S P : Int → Int} {k : Nat} (hk : 1 ≤ k) : aval S P k = aval S P (k - 1) + stp S (P ((k : Int) + -1)) (P (k : Int)) := by
  obtain ⟨q, rfl⟩ : ∃ q, k = q + 1 := ⟨k - 1, by omega⟩
  rfl
theorem tmod_bound (x : Int) : -4096 < x.tmod 4096 ∧ x.tmod 4096 < 4096 := by
  have h1 := Int.tmod_lt_of_pos x (b := 4096) (by decide)
  have h2 := Int.lt_tmod_of_pos x (b := 4096) (by decide)
  omega
theorem wrp_bound (x : Int) : -2048 ≤ wrp x ∧ wrp x ≤ 2048 := by
  have h := tmod_bound (x + 2048)
  unfold wrp
  split
  · rename_i g; constructor <;> omega
  · rename_i g; constructor <;> omega
theorem stp_bound (S : Int → Int) (a b : Int) : -2048 ≤ stp S a b ∧ stp S a b ≤ 2048 := by
  unfold stp
  split
  · exact wrp_bound _
  · have := wrp_bound (S a - S b); omega
theorem aval_bound {S P : Int → Int} (h0 : -2048 ≤ S (P 0) ∧ S (P 0) ≤ 2047) : ∀ k : Nat, -(2048 * ((k : Int) + 1)) ≤ aval S P k ∧ aval S P k ≤ 2048 * ((k : Int) + 1)
  | 0 => by simp only [aval]; omega
  | k + 1 => by
    have := aval_bound h0 k
    have h2 := stp_bound S (P (((k + 1 : Nat) : Int) + -1)) (P ((k + 1 : Nat) : Int))
    simp only [aval]
    push_cast at h2 ⊢
    omega
theorem mul_64 {R C : Int} (h1 : 1 ≤ R) (h2 : R ≤ 64) (h3 : 1 ≤ C) (h4 : C ≤ 64) : 1 ≤ R * C ∧ R * C ≤ 4096 := by
  have a : R * 1 ≤ R * C := Int.mul_le_mul_of_nonneg_left h3 (by omega)
  have b : R * C ≤ R * 64 := Int.mul_le_mul_of_nonneg_left h4 (by omega)
  omega
/-- the phases of a right map, where they are read -/
theorem ph_at {n : Nat} {s : Nat → Int} {x : Int} (h : (prR n s).2 = 0) (h0 : 0 ≤ x) (h1 : x ≤ (n : Int) + -1) (hv : ¬ flat1 s x = 1000000000000) : -2048 ≤ flat1 s x ∧ flat1 s x ≤ 2047 := by
  have := pr_right h x.toNat (by omega)
  have e : flat1 s x = s x.toNat := rfl
  rw [e] at hv ⊢
  omega
theorem ac_zero {C : Int} {n k : Nat} {S P : Int → Int} (h : acode C n S P k = 0) : 0 ≤ P (k : Int) ∧ P (k : Int) ≤ (n : Int) + -1 ∧ ¬ S (P (k : Int)) = 1000000000000 := by
  unfold acode at h
  split at h
  · rename_i h1
    split at h
    · cases h
    · rename_i h2
      exact ⟨h1.1, h1.2, h2⟩
  · cases h
/-- all that a round asks that is no fact of its own -/
theorem ob_round {C : Int} {n k : Nat} {s p : Nat → Int} {F1 : Int} (hpr : (prR n s).2 = 0) (hk : 1 ≤ k) (hz : ∀ j : Nat, j < k → acode C n (flat1 s) (flat1 p) j = 0) (h00 : -2048 ≤ flat1 s (flat1 p 0) ∧ flat1 s (flat1 p 0) ≤ 2047) (hF1 : F1 = aval (flat1 s) (flat1 p) (k - 1))
    (h1 : 0 ≤ flat1 p (k : Int)) (h2 : flat1 p (k : Int) ≤ (n : Int) + -1) (h3 : ¬ flat1 s (flat1 p (k : Int)) = 1000000000000) :
    (0 ≤ flat1 p ((k : Int) + -1) ∧ flat1 p ((k : Int) + -1) ≤ (n : Int) + -1 ∧ ¬ flat1 s (flat1 p ((k : Int) + -1)) = 1000000000000) ∧ (-2048 ≤ flat1 s (flat1 p ((k : Int) + -1)) ∧ flat1 s (flat1 p ((k : Int) + -1)) ≤ 2047) ∧ (-2048 ≤ flat1 s (flat1 p (k : Int)) ∧ flat1 s (flat1 p (k : Int)) ≤ 2047) ∧
      (-(2048 * (k : Int)) ≤ F1 ∧ F1 ≤ 2048 * (k : Int)) ∧
      (-4096 < (flat1 s (flat1 p (k : Int)) - flat1 s (flat1 p ((k : Int) + -1)) + 2048).tmod 4096 ∧ (flat1 s (flat1 p (k : Int)) - flat1 s (flat1 p ((k : Int) + -1)) + 2048).tmod 4096 < 4096) ∧
      (-4096 < (flat1 s (flat1 p ((k : Int) + -1)) - flat1 s (flat1 p (k : Int)) + 2048).tmod 4096 ∧ (flat1 s (flat1 p ((k : Int) + -1)) - flat1 s (flat1 p (k : Int)) + 2048).tmod 4096 < 4096) := by
  have q0 := ac_zero (hz (k - 1) (by omega))
  rw [show ((k - 1 : Nat) : Int) = (k : Int) + -1 by omega] at q0
  have q3 := aval_bound (S := flat1 s) (P := flat1 p) h00 (k - 1)
  rw [← hF1] at q3
  rw [show ((k - 1 : Nat) : Int) = (k : Int) + -1 by omega] at q3
  exact ⟨q0, ph_at hpr q0.1 q0.2.1 q0.2.2, ph_at hpr h1 h2 h3, by omega, tmod_bound _, tmod_bound _⟩
theorem tup2_open [Rho] {V : Nat → Prop} {m g : Nat → Nat} {r1 r2 : RV} {x : Value} (h : Rep V m g (.tup [r1, r2]) x) : ∃ v1 v2, x = .tuple #[v1, v2] ∧ Rep V m g r1 v1 ∧ Rep V m g r2 v2 := by
  simp only [Rep] at h
  obtain ⟨a, rfl, h⟩ := h
  obtain ⟨v1, vs1, e1, h1, h⟩ := repL_cons.1 h
  obtain ⟨v2, vs2, rfl, h2, h⟩ := repL_cons.1 h
  rw [repL_nil.1 h] at e1
  exact ⟨v1, v2, by rw [show a = #[v1, v2] from Array.toList_inj.1 e1], h1, h2⟩
noncomputable def fwwK (v : Nat) : Know := canK 57 [.fsl 0 1 (.lit 0) (.var 2), .fn 61 [] []] (.tup [.si .i64 (.var v), .si .i64 (.var (.succ v))])
theorem fwwK_ok [Rho] {v n : Nat} {s : Nat → Int} (ha : Rho.a 0 = flat1 s) (h1 : Rho.i 2 = (n : Int)) (h2 : Rho.i v = (prR n s).1) (h3 : Rho.i (v + 1) = (prR n s).2) (hm : n ≤ 9223372036854775807) : KOk Try.prog (fwwK v) := canK_ok fun xs W hx hf => by
  obtain ⟨v0, vs0, e0, r0, hx⟩ := repL_cons.1 hx
  obtain ⟨v1, vs1, rfl, r1, hx⟩ := repL_cons.1 hx
  rw [repL_nil.1 hx] at e0
  simp only [Rep] at r0 r1
  obtain ⟨A, L, c, rfl, y1, y2, y3⟩ := fsl_rowR r0 hf
  have hL : L = n := by
    have : (SE.var 2).ev.i = (n : Int) := h1
    omega
  subst hL
  rw [ha, Nat.mul_one] at y3
  obtain ⟨fa, fb, rfl, z1, z2⟩ := r1
  have hfa : fa = #[] := Array.toList_inj.1 (repL_nil.1 z1)
  have hfb : fb = #[] := Array.toList_inj.1 (repL_nil.1 z2)
  have hxs : xs = #[.slice A L c, .func (.func 61) fa fb] := Array.toList_inj.1 (by simpa using e0)
  rw [hxs, hfa, hfb]
  refine (firstWrapped_any s A L c W y3 y2 hm).mono ?_
  rintro e w' ⟨rfl, hb⟩
  refine ⟨⟨_, rfl, ?_⟩, hb⟩
  simp only [Rep]
  refine ⟨_, rfl, repL_cons'.2 ⟨?_, repL_one ?_⟩⟩
  · simp only [Rep]; show _ = Value.int .i64 (Rho.i v); rw [h2]
  · simp only [Rep]; show _ = Value.int .i64 (Rho.i (v + 1)); rw [h3]


def ual1_a : RA := { tmps := [[(.agg [(.si .i64 (.var 0)), (.si .i64 (.var 1)), (.fsl 0 1 (.lit (0)) (.var 2))]), (.fsl 1 1 (.lit (0)) (.var 3)), (.ptr 0 0), (.pl (.tuple #[])), (.pl (.slice none 0 0)), (.pl (.int .i64 (0))), (.pl (.int .i64 (0))), (.pl (.slice none 0 0))], [(.pl (.tuple #[])), (.pl (.tuple #[])), (.pl (.tuple #[])), (.agg [(.si .i64 (.var 0)), (.si .i64 (.var 1)), (.fsl 0 1 (.lit (0)) (.var 2))]), (.pl (.int .i64 (0))), (.fsl 1 1 (.lit (0)) (.var 3)), (.si .i64 (.var 3)), (.sb (.not (.le (.var 3) (.lit (200)))))], [(.pl (.int .i64 (0))), (.slc 1 0 2 (some 2)), (.pl (.int .i64 (0))), (.pl (.int .i64 (0))), (.pl (.bool false)), (.pl (.tuple #[])), (.fsl 1 1 (.lit (0)) (.var 3)), (.si .i64 (.var 3))], [(.pl (.int .i64 (0))), (.pl (.tuple #[])), (.pl (.tuple #[])), (.pl (.tuple #[])), (.pl (.tuple #[])), (.pl (.tuple #[])), (.pl (.tuple #[])), (.pl (.tuple #[]))], [(.pl (.tuple #[])), (.pl (.tuple #[])), (.pl (.tuple #[])), (.pl (.tuple #[])), (.pl (.tuple #[])), (.pl (.tuple #[])), (.pl (.tuple #[])), (.pl (.tuple #[]))], [(.pl (.tuple #[])), (.pl (.tuple #[])), (.pl (.tuple #[])), (.pl (.tuple #[])), (.pl (.tuple #[])), (.pl (.tuple #[])), (.pl (.tuple #[])), (.pl (.tuple #[]))], [(.pl (.tuple #[])), (.pl (.tuple #[])), (.pl (.tuple #[])), (.pl (.tuple #[])), (.pl (.tuple #[])), (.pl (.tuple #[])), (.pl (.tuple #[])), (.pl (.tuple #[]))], [(.pl (.tuple #[])), (.pl (.tuple #[])), (.pl (.tuple #[])), (.pl (.tuple #[])), (.pl (.tuple #[])), (.pl (.tuple #[])), (.pl (.tuple #[])), (.pl (.tuple #[]))], [(.pl (.tuple #[])), (.pl (.tuple #[])), (.pl (.tuple #[])), (.pl (.tuple #[])), (.pl (.tuple #[])), (.pl (.tuple #[])), (.pl (.tuple #[])), (.pl (.tuple #[]))], [(.pl (.tuple #[])), (.pl (.tuple #[])), (.pl (.tuple #[])), (.pl (.tuple #[])), (.pl (.tuple #[])), (.pl (.tuple #[])), (.pl (.tuple #[])), (.pl (.tuple #[]))]], sz := 78, dfs := [] }
def ual1_h : RH := { bl := [some (.cells [(.pl (.int .i64 (0))), (.pl (.int .i64 (0)))] 28 false), some (.cells [(.si .i64 (.var 0)), (.si .i64 (.var 1)), (.fsl 0 1 (.lit (0)) (.var 2))] 40 false)], n := 2, base := 0, ch := [] }
def ual1_1_a : RA := { tmps := [[(.agg [(.si .i64 (.var 0)), (.si .i64 (.var 1)), (.fsl 0 1 (.lit (0)) (.var 2))]), (.fsl 1 1 (.lit (0)) (.var 3)), (.ptr 0 0), (.pl (.tuple #[])), (.pl (.slice none 0 0)), (.pl (.int .i64 (0))), (.pl (.int .i64 (0))), (.osl 3 1 (.var 6))], [.unk, .unk, .unk, (.agg [(.si .i64 (.var 0)), (.si .i64 (.var 1)), (.fsl 0 1 (.lit (0)) (.var 2))]), (.pl (.int .i64 (0))), (.fsl 1 1 (.lit (0)) (.var 3)), (.si .i64 (.var 3)), (.sb (.not (.le (.var 3) (.lit (200)))))], [(.pl (.int .i64 (0))), (.slc 1 0 2 (some 2)), (.pl (.int .i64 (0))), (.pl (.int .i64 (0))), (.pl (.bool false)), (.pl (.tuple #[])), (.fsl 1 1 (.lit (0)) (.var 3)), (.si .i64 (.var 3))], [(.si .i64 (.var 7)), .unk, .unk, .unk, .unk, .unk, .unk, .unk], [.unk, .unk, .unk, .unk, .unk, .unk, .unk, .unk], [.unk, .unk, .unk, .unk, .unk, .unk, .unk, .unk], [.unk, .unk, .unk, .unk, .unk, .unk, .unk, .unk], [.unk, .unk, .unk, .unk, .unk, .unk, .unk, .unk], [.unk, .unk, .unk, .unk, .unk, .unk, .unk, .unk], [.unk, .unk, .unk, .unk, .unk, (.pl (.tuple #[])), (.pl (.tuple #[])), (.pl (.tuple #[]))]], sz := 78, dfs := [] }
def ual1_1_h : RH := { bl := [some (.row (.avar 50) (.var 6) 3 1), some (.cells [(.si .i64 (.sel (.avar 0) (.sel (.avar 1) (.lit (0)))))] 3 false), some (.cells [(.pl (.int .i64 (0))), (.pl (.int .i64 (0)))] 28 false), some (.cells [(.si .i64 (.var 0)), (.si .i64 (.var 1)), (.fsl 0 1 (.lit (0)) (.var 2))] 40 false)], n := 4, base := 0, ch := [] }
theorem along_any (R C : Int) (A B : Option Addr) (n c m d : Nat) (s p : Nat → Int) (W : World) (hS : RowR W A n (flat1 s)) (hT : RowR W B m (flat1 p)) (hc : n ≤ c) (hd : m ≤ d) (hn : n ≤ 9223372036854775807) (hm : m ≤ 1000000) :
    Calls Try.prog 16 #[.agg #[.int .i64 R, .int .i64 C, .slice A n c], .slice B m d] W fun e w' => (aErr R C n s m p ≠ 0 ∧ e = .returned (.tuple #[.slice none 0 0, .int .i64 (aErr R C n s m p)]) ∨ aErr R C n s m p = 0 ∧ m = 0 ∧ e = .returned (.tuple #[.slice none 0 0, .int .i64 0]) ∨ aErr R C n s m p = 0 ∧ 0 < m ∧ ∃ b k arr, e = .returned (.tuple #[.slice (some ⟨b, 0, none⟩) m k, .int .i64 0]) ∧ m ≤ k ∧ W.heap.size ≤ b ∧ w'.heap[b]? = some (.cells arr 3 (0, 0)) ∧ arr.size = k * 1 ∧ ∀ j : Nat, j < m * 1 → arr[j]? = some (.int .i64 (aval (flat1 s) (flat1 p) j))) ∧ Below W.heap.size W w' := by
 skip
 have hrows : RowsIn W [⟨A, n, flat1 s⟩, ⟨B, m, flat1 p⟩] := ⟨hS, hT, trivial⟩
 letI : Rho := rhoL W.heap.size ([R, C, (n : Int), (m : Int), (prR n s).1, (prR n s).2]) [⟨A, n, flat1 s⟩, ⟨B, m, flat1 p⟩] [] []
 have hfar : Far W := far_list hrows
 have hx : RepL (fun _ => False) (fun _ => 0) (fun _ => 0) [.agg [.si .i64 (.var 0), .si .i64 (.var 1), .fsl 0 1 (.lit 0) (.var 2)], .fsl 1 1 (.lit 0) (.var 3)] (#[.agg #[.int .i64 R, .int .i64 C, .slice A n c], .slice B m d] : Array Value).toList := by
  refine repL_cons'.2 ⟨?_, repL_one (by simp only [Rep]; exact fsl_row 1 1 hrows rfl (by simp [rowAt]) (by omega) rfl rfl hd)⟩
  simp only [Rep]
  exact ⟨_, rfl, repL_cons'.2 ⟨by simp only [Rep]; rfl, repL_cons'.2 ⟨by simp only [Rep]; rfl, repL_one (by simp only [Rep]; exact fsl_row 0 1 hrows rfl (by simp [rowAt]) (by omega) rfl rfl hc)⟩⟩⟩
 by_cases f1 : 1 ≤ R
 ·
  by_cases f2 : R ≤ 64
  ·
   by_cases f3 : 1 ≤ C
   ·
    by_cases f4 : C ≤ 64
    ·
     have f5 : (-9223372036854775808 : Int) ≤ (R * C) ∧ (R * C) ≤ 9223372036854775807 := by
      first | omega | (have h := mul_64 f1 f2 f3 f4; omega) | (have h := hob (by assumption) (by assumption) (by assumption); omega)
     by_cases f6 : (n : Int) = (R * C)
     ·
      by_cases f7 : (prR n s).2 = 0
      ·
       by_cases f8 : (m : Int) ≤ 200
       ·
        have hF : Facts [((.le (.lit (1)) (.var 0)), true), ((.le (.var 0) (.lit (64))), true), ((.le (.lit (1)) (.var 1)), true), ((.le (.var 1) (.lit (64))), true), ((.inr .i64 (.mul (.var 0) (.var 1))), true), ((.eq (.var 2) (.mul (.var 0) (.var 1))), true), ((.eq (.var 5) (.lit (0))), true), ((.le (.var 3) (.lit (200))), true)] := ⟨f_le f1 rfl rfl, f_le f2 rfl rfl, f_le f3 rfl rfl, f_le f4 rfl rfl, f_in f5 rfl, f_eq f6 rfl rfl, f_eq f7 rfl rfl, f_le f8 rfl rfl, trivial⟩
        have hpr : (prR n s).2 = 0 := f7
        have hsz : szErr R C n = 0 := by unfold szErr; rw [if_pos ⟨f1, f2, f3, f4⟩, if_pos f6]
        have hw0 : wrErr R C n s = 0 := by unfold wrErr; rw [if_pos hsz]; exact hpr
        have hm200 : (m : Int) ≤ 200 := f8
        have hC1 : 1 ≤ C := f3
        have hn4 : (n : Int) ≤ 4096 := by have h := mul_64 f1 f2 f3 f4; omega
        refine call_start (P := Try.prog) (K := fwwK 4) (fl := []) (by kernel_rfl) (by kernel_rfl) hx hfar (fwwK_ok (n := n) (s := s) rfl rfl rfl rfl hn) (facD_ok hF) (enter_run (B := 6) (a' := ual1_a) (h' := ual1_h) (ρ' := rhoL W.heap.size ([R, C, (n : Int), (m : Int), (prR n s).1, (prR n s).2] ++ [0, 0]) [⟨A, n, flat1 s⟩, ⟨B, m, flat1 p⟩] [] [(fun _ : Int => 0)]) (ds := []) (c := (loopIn (bodyC Try.prog 16) 0)) (by kernel_rfl) (by kernel_rfl) rfl (agree_list (l := [R, C, (n : Int), (m : Int), (prR n s).1, (prR n s).2]) (x := []) (Nat.le_refl _) rfl) trivial fun A1 W1 hs1 => ?_)
        refine loop_okS (Inv := fun ρ a h => ∃ (L : Nat) (k : Nat) (F : Int → Int), (k ≤ m ∧ L = k ∧ (∀ j : Nat, j < k → acode C n (flat1 s) (flat1 p) j = 0) ∧ (∀ j : Nat, j < k → F (j : Int) = aval (flat1 s) (flat1 p) j)) ∧ ρ = rhoL W.heap.size ([R, C, (n : Int), (m : Int), (prR n s).1, (prR n s).2] ++ [(L : Int), (k : Int)]) [⟨A, n, flat1 s⟩, ⟨B, m, flat1 p⟩] [] [F] ∧ ((a = ual1_a ∧ h = ual1_h ∧ (k = 0)) ∨ (a = ual1_1_a ∧ h = ual1_1_h ∧ (1 ≤ k)))) (μ := fun ρ => m - (@Rho.i ρ 7).toNat) ?_ _ _ _ ⟨0, 0, (fun _ : Int => 0), ?_, rfl, .inl ⟨rfl, rfl, ?_⟩⟩ A1 W1 hs1
        rotate_left
        · exact ⟨Nat.zero_le _, rfl, fun j hj => absurd hj (Nat.not_lt_zero j), fun j hj => absurd hj (Nat.not_lt_zero j)⟩
        · rfl
        first | clear hs1 hx | clear hs1
        rintro ρ a h ⟨L, k, F, hinv, rfl, hhead⟩ A2 W2 hs2
        letI : Rho := rhoL W.heap.size ([R, C, (n : Int), (m : Int), (prR n s).1, (prR n s).2] ++ [(L : Int), (k : Int)]) [⟨A, n, flat1 s⟩, ⟨B, m, flat1 p⟩] [] [F]
        obtain ⟨hk, hL, hz, hFe⟩ := hinv
        rcases hhead with ⟨rfl, rfl, hcond⟩ | ⟨rfl, rfl, hcond⟩
        ·
         have e0 : (k : Int) = 0 := by omega
         by_cases f1 : (m : Int) ≤ 0
         ·
          have hF : Facts [((.le (.var 3) (.lit (0))), true)] := ⟨f_le f1 rfl rfl, trivial⟩
          refine out_run (P := Try.prog) (K := noK) (fl := []) (by kernel_rfl) noK_ok (facD_ok hF) hs2 (fin_gen (r := (.tup [(.pl (.slice none 0 0)), (.pl (.int .i64 (0)))])) (h' := { bl := [some (.cells [(.pl (.int .i64 (0))), (.pl (.int .i64 (0)))] 28 false), some (.cells [(.si .i64 (.var 0)), (.si .i64 (.var 1)), (.fsl 0 1 (.lit (0)) (.var 2))] 40 false)], n := 2, base := 0, ch := [] }) (by kernel_rfl) fun V mb gb v W' hv hw hbel => ?_)
          obtain rfl := rep_den _ (.tuple #[.slice none 0 0, .int .i64 0]) _ rfl hv
          have e : aErr R C n s m p = 0 := by rw [aErr_in hw0 hm200, fw_none (fun j hj => hz j (by omega))]
          exact ⟨.inr (.inl ⟨e, by omega, rfl⟩), hbel⟩
         ·
          have f2 : (-9223372036854775808 : Int) ≤ ((n : Int) + (-1)) ∧ ((n : Int) + (-1)) ≤ 9223372036854775807 := by
           first | omega | (have h := mul_64 f1 f2 f3 f4; omega) | (have h := hob (by assumption) (by assumption) (by assumption); omega)
          by_cases f3 : 0 ≤ (flat1 p 0)
          ·
           by_cases f4 : (flat1 p 0) ≤ ((n : Int) + (-1))
           ·
            have f5 : ¬ ((n : Int) ≤ (flat1 p 0)) := by
             first | omega | (have h := mul_64 f1 f2 f3 f4; omega) | (have h := hob (by assumption) (by assumption) (by assumption); omega)
            by_cases f6 : (flat1 s (flat1 p 0)) = 1000000000000
            ·
             have hF : Facts [((.le (.var 3) (.lit (0))), false), ((.inr .i64 (.add (.var 2) (.lit (-1)))), true), ((.le (.lit (0)) (.sel (.avar 1) (.lit (0)))), true), ((.le (.sel (.avar 1) (.lit (0))) (.add (.var 2) (.lit (-1)))), true), ((.le (.var 2) (.sel (.avar 1) (.lit (0)))), false), ((.eq (.sel (.avar 0) (.sel (.avar 1) (.lit (0)))) (.lit (1000000000000))), true)] := ⟨f_nle f1 rfl rfl, f_in f2 rfl, f_le f3 rfl rfl, f_le f4 rfl rfl, f_nle f5 rfl rfl, f_eq f6 rfl rfl, trivial⟩
             refine out_run (P := Try.prog) (K := noK) (fl := []) (by kernel_rfl) noK_ok (facD_ok hF) hs2 (fin_gen (r := (.tup [(.pl (.slice none 0 0)), (.pl (.int .i64 (31)))])) (h' := { bl := [some (.cells [(.pl (.int .i64 (0))), (.pl (.int .i64 (0)))] 28 false), some (.cells [(.si .i64 (.var 0)), (.si .i64 (.var 1)), (.fsl 0 1 (.lit (0)) (.var 2))] 40 false)], n := 2, base := 0, ch := [] }) (by kernel_rfl) fun V mb gb v W' hv hw hbel => ?_)
             obtain rfl := rep_den _ (.tuple #[.slice none 0 0, .int .i64 31]) _ rfl hv
             first
               | (exfalso; omega)
               | (have hc : acode C n (flat1 s) (flat1 p) k = 31 := by
                   unfold acode nb
                   simp [f1, f3, f4, f5, f6, hcond]
                   try omega
                  have e : aErr R C n s m p = 31 := by rw [aErr_in hw0 hm200, fw_hit (k := k) hz (by rw [hc]; decide) (by omega), hc]
                  exact ⟨.inl ⟨by rw [e]; decide, by rw [e]⟩, hbel⟩)
            ·
             have hF : Facts [((.le (.var 3) (.lit (0))), false), ((.inr .i64 (.add (.var 2) (.lit (-1)))), true), ((.le (.lit (0)) (.sel (.avar 1) (.lit (0)))), true), ((.le (.sel (.avar 1) (.lit (0))) (.add (.var 2) (.lit (-1)))), true), ((.le (.var 2) (.sel (.avar 1) (.lit (0)))), false), ((.eq (.sel (.avar 0) (.sel (.avar 1) (.lit (0)))) (.lit (1000000000000))), false)] := ⟨f_nle f1 rfl rfl, f_in f2 rfl, f_le f3 rfl rfl, f_le f4 rfl rfl, f_nle f5 rfl rfl, f_ne f6 rfl rfl, trivial⟩
             refine again_runP (P := Try.prog) (K := noK) (fl := []) (B := 6) (l := [.row 3 1 1]) (a' := ual1_1_a) (h' := ual1_1_h) (ρ' := rhoL W.heap.size ([R, C, (n : Int), (m : Int), (prR n s).1, (prR n s).2] ++ [(((L + 1) : Nat) : Int), (((k + 1) : Nat) : Int)]) [⟨A, n, flat1 s⟩, ⟨B, m, flat1 p⟩] [] [(fun j : Int => if j = 0 then (flat1 s (flat1 p 0)) else (fun _ : Int => 0) j)]) (ds := [.int (.lit (1)) (.var 6), .int (.lit (1)) (.var 7), .row (.upd .azero (.lit (0)) (.sel (.avar 0) (.sel (.avar 1) (.lit (0))))) (.avar 50), .int (.lit (1)) (.var 6)]) (by kernel_rfl) noK_ok (facD_ok hF) (by kernel_rfl) (agree_list (l := [R, C, (n : Int), (m : Int), (prR n s).1, (prR n s).2]) (Nat.le_refl _) rfl) ⟨(show (1 : Int) = (((L + 1) : Nat) : Int) from by first | rfl | (push_cast; omega)), (show (1 : Int) = (((k + 1) : Nat) : Int) from by first | rfl | (push_cast; omega)), rfl, (show (1 : Int) = (((L + 1) : Nat) : Int) from by first | rfl | (push_cast; omega)), trivial⟩ hs2 fun A3 W3 hs3 => ⟨_, _, _, ⟨(L + 1), (k + 1), (fun j : Int => if j = 0 then (flat1 s (flat1 p 0)) else (fun _ : Int => 0) j), ?_, rfl, .inr ⟨rfl, rfl, ?_⟩⟩, ?_, hs3⟩
             · refine ⟨by omega, by omega, fun j hj => ?_, fun j hj => ?_⟩
               · obtain rfl : j = 0 := by omega
                 have e0 : ((0 : Nat) : Int) = 0 := rfl
                 unfold acode
                 simp only [e0]
                 simp [f1, f3, f4, f5, f6]
               · obtain rfl : j = 0 := by omega
                 exact if_pos (by simp)
             · omega
             · show m - ((k + 1 : Nat) : Int).toNat < m - ((k : Nat) : Int).toNat
               omega
           ·
            have hF : Facts [((.le (.var 3) (.lit (0))), false), ((.inr .i64 (.add (.var 2) (.lit (-1)))), true), ((.le (.lit (0)) (.sel (.avar 1) (.lit (0)))), true), ((.le (.sel (.avar 1) (.lit (0))) (.add (.var 2) (.lit (-1)))), false)] := ⟨f_nle f1 rfl rfl, f_in f2 rfl, f_le f3 rfl rfl, f_nle f4 rfl rfl, trivial⟩
            refine out_run (P := Try.prog) (K := noK) (fl := []) (by kernel_rfl) noK_ok (facD_ok hF) hs2 (fin_gen (r := (.tup [(.pl (.slice none 0 0)), (.pl (.int .i64 (6)))])) (h' := { bl := [some (.cells [(.pl (.int .i64 (0))), (.pl (.int .i64 (0)))] 28 false), some (.cells [(.si .i64 (.var 0)), (.si .i64 (.var 1)), (.fsl 0 1 (.lit (0)) (.var 2))] 40 false)], n := 2, base := 0, ch := [] }) (by kernel_rfl) fun V mb gb v W' hv hw hbel => ?_)
            obtain rfl := rep_den _ (.tuple #[.slice none 0 0, .int .i64 6]) _ rfl hv
            first
              | (exfalso; omega)
              | (have hc : acode C n (flat1 s) (flat1 p) k = 6 := by
                  unfold acode nb
                  simp [f1, f3, f4, hcond]
                  try omega
                 have e : aErr R C n s m p = 6 := by rw [aErr_in hw0 hm200, fw_hit (k := k) hz (by rw [hc]; decide) (by omega), hc]
                 exact ⟨.inl ⟨by rw [e]; decide, by rw [e]⟩, hbel⟩)
          ·
           have hF : Facts [((.le (.var 3) (.lit (0))), false), ((.inr .i64 (.add (.var 2) (.lit (-1)))), true), ((.le (.lit (0)) (.sel (.avar 1) (.lit (0)))), false)] := ⟨f_nle f1 rfl rfl, f_in f2 rfl, f_nle f3 rfl rfl, trivial⟩
           refine out_run (P := Try.prog) (K := noK) (fl := []) (by kernel_rfl) noK_ok (facD_ok hF) hs2 (fin_gen (r := (.tup [(.pl (.slice none 0 0)), (.pl (.int .i64 (6)))])) (h' := { bl := [some (.cells [(.pl (.int .i64 (0))), (.pl (.int .i64 (0)))] 28 false), some (.cells [(.si .i64 (.var 0)), (.si .i64 (.var 1)), (.fsl 0 1 (.lit (0)) (.var 2))] 40 false)], n := 2, base := 0, ch := [] }) (by kernel_rfl) fun V mb gb v W' hv hw hbel => ?_)
           obtain rfl := rep_den _ (.tuple #[.slice none 0 0, .int .i64 6]) _ rfl hv
           first
             | (exfalso; omega)
             | (have hc : acode C n (flat1 s) (flat1 p) k = 6 := by
                 unfold acode nb
                 simp [f1, f3, hcond]
                 try omega
                have e : aErr R C n s m p = 6 := by rw [aErr_in hw0 hm200, fw_hit (k := k) hz (by rw [hc]; decide) (by omega), hc]
                exact ⟨.inl ⟨by rw [e]; decide, by rw [e]⟩, hbel⟩)
        ·
         have hF1 : F ((k : Int) + -1) = aval (flat1 s) (flat1 p) (k - 1) := by
           have := hFe (k - 1) (by omega)
           rw [show ((k - 1 : Nat) : Int) = (k : Int) + -1 by omega] at this
           exact this
         have h00 : -2048 ≤ flat1 s (flat1 p 0) ∧ flat1 s (flat1 p 0) ≤ 2047 := by
           have h := ac_zero (hz 0 (by omega))
           exact ph_at hpr h.1 h.2.1 h.2.2
         have hob := fun a b c => ob_round (C := C) (n := n) (k := k) (s := s) (p := p) (F1 := F ((k : Int) + -1)) hpr hcond hz h00 hF1 a b c
         by_cases f1 : (m : Int) ≤ (k : Int)
         ·
          have hF : Facts [((.le (.var 3) (.var 7)), true)] := ⟨f_le f1 rfl rfl, trivial⟩
          refine out_run (P := Try.prog) (K := noK) (fl := []) (by kernel_rfl) noK_ok (facD_ok hF) hs2 (fin_gen (r := (.tup [(.osl 3 1 (.var 6)), (.pl (.int .i64 (0)))])) (h' := { bl := [some (.row (.avar 50) (.var 6) 3 1), some (.cells [(.si .i64 (.sel (.avar 0) (.sel (.avar 1) (.lit (0)))))] 3 false), some (.cells [(.pl (.int .i64 (0))), (.pl (.int .i64 (0)))] 28 false), some (.cells [(.si .i64 (.var 0)), (.si .i64 (.var 1)), (.fsl 0 1 (.lit (0)) (.var 2))] 40 false)], n := 4, base := 0, ch := [] }) (by kernel_rfl) fun V mb gb v W' hv hw hbel => ?_)
          obtain ⟨v1, v2, rfl, h1, h2⟩ := tup2_open hv
          simp only [Rep] at h2
          subst h2
          obtain ⟨b, L', kk, cc, rfl, e1, e2, e3, e4, e5, e6⟩ := osl_block h1 hw rfl
          have e : aErr R C n s m p = 0 := by rw [aErr_in hw0 hm200, fw_none (fun j hj => hz j (by omega))]
          have eL : L' = m := by
            have : (L : Int) = (L' : Int) := e1
            omega
          subst eL
          exact ⟨.inr (.inr ⟨e, by omega, b, kk, cc, rfl, e2, e3, e4, e5, fun j hj => by rw [← hFe j (by omega)]; exact e6 j hj⟩), hbel⟩
         ·
          have f2 : (0 ≤ (k : Int)) := by
           first | omega | (have h := mul_64 f1 f2 f3 f4; omega) | (have h := hob (by assumption) (by assumption) (by assumption); omega)
          have f3 : (-9223372036854775808 : Int) ≤ ((n : Int) + (-1)) ∧ ((n : Int) + (-1)) ≤ 9223372036854775807 := by
           first | omega | (have h := mul_64 f1 f2 f3 f4; omega) | (have h := hob (by assumption) (by assumption) (by assumption); omega)
          by_cases f4 : 0 ≤ (flat1 p (k : Int))
          ·
           by_cases f5 : (flat1 p (k : Int)) ≤ ((n : Int) + (-1))
           ·
            have f6 : ¬ ((n : Int) ≤ (flat1 p (k : Int))) := by
             first | omega | (have h := mul_64 f1 f2 f3 f4; omega) | (have h := hob (by assumption) (by assumption) (by assumption); omega)
            by_cases f7 : (flat1 s (flat1 p (k : Int))) = 1000000000000
            ·
             have hF : Facts [((.le (.var 3) (.var 7)), false), ((.le (.lit (0)) (.var 7)), true), ((.inr .i64 (.add (.var 2) (.lit (-1)))), true), ((.le (.lit (0)) (.sel (.avar 1) (.var 7))), true), ((.le (.sel (.avar 1) (.var 7)) (.add (.var 2) (.lit (-1)))), true), ((.le (.var 2) (.sel (.avar 1) (.var 7))), false), ((.eq (.sel (.avar 0) (.sel (.avar 1) (.var 7))) (.lit (1000000000000))), true)] := ⟨f_nle f1 rfl rfl, f_le f2 rfl rfl, f_in f3 rfl, f_le f4 rfl rfl, f_le f5 rfl rfl, f_nle f6 rfl rfl, f_eq f7 rfl rfl, trivial⟩
             refine out_run (P := Try.prog) (K := noK) (fl := []) (by kernel_rfl) noK_ok (facD_ok hF) hs2 (fin_gen (r := (.tup [(.pl (.slice none 0 0)), (.pl (.int .i64 (31)))])) (h' := { bl := [some (.row (.avar 50) (.var 6) 3 1), some (.cells [(.si .i64 (.sel (.avar 0) (.sel (.avar 1) (.lit (0)))))] 3 false), some (.cells [(.pl (.int .i64 (0))), (.pl (.int .i64 (0)))] 28 false), some (.cells [(.si .i64 (.var 0)), (.si .i64 (.var 1)), (.fsl 0 1 (.lit (0)) (.var 2))] 40 false)], n := 4, base := 0, ch := [] }) (by kernel_rfl) fun V mb gb v W' hv hw hbel => ?_)
             obtain rfl := rep_den _ (.tuple #[.slice none 0 0, .int .i64 31]) _ rfl hv
             first
               | (exfalso; omega)
               | (have hc : acode C n (flat1 s) (flat1 p) k = 31 := by
                   unfold acode nb
                   simp [f1, f2, f4, f5, f6, f7]
                   try omega
                  have e : aErr R C n s m p = 31 := by rw [aErr_in hw0 hm200, fw_hit (k := k) hz (by rw [hc]; decide) (by omega), hc]
                  exact ⟨.inl ⟨by rw [e]; decide, by rw [e]⟩, hbel⟩)
            ·
             by_cases f8 : (k : Int) = 0
             ·
              have f9 : ((L : Int) ≤ 99999) := by
               first | omega | (have h := mul_64 f1 f2 f3 f4; omega) | (have h := hob (by assumption) (by assumption) (by assumption); omega)
              have f10 : (-9223372036854775808 : Int) ≤ ((k : Int) + 1) ∧ ((k : Int) + 1) ≤ 9223372036854775807 := by
               first | omega | (have h := mul_64 f1 f2 f3 f4; omega) | (have h := hob (by assumption) (by assumption) (by assumption); omega)
              have hF : Facts [((.le (.var 3) (.var 7)), false), ((.le (.lit (0)) (.var 7)), true), ((.inr .i64 (.add (.var 2) (.lit (-1)))), true), ((.le (.lit (0)) (.sel (.avar 1) (.var 7))), true), ((.le (.sel (.avar 1) (.var 7)) (.add (.var 2) (.lit (-1)))), true), ((.le (.var 2) (.sel (.avar 1) (.var 7))), false), ((.eq (.sel (.avar 0) (.sel (.avar 1) (.var 7))) (.lit (1000000000000))), false), ((.eq (.var 7) (.lit (0))), true), ((.le (.var 6) (.lit (99999))), true), ((.inr .i64 (.add (.var 7) (.lit (1)))), true)] := ⟨f_nle f1 rfl rfl, f_le f2 rfl rfl, f_in f3 rfl, f_le f4 rfl rfl, f_le f5 rfl rfl, f_nle f6 rfl rfl, f_ne f7 rfl rfl, f_eq f8 rfl rfl, f_le f9 rfl rfl, f_in f10 rfl, trivial⟩
              refine again_runP (P := Try.prog) (K := noK) (fl := []) (B := 6) (l := [.mov 3 5]) (a' := ual1_1_a) (h' := ual1_1_h) (ρ' := rhoL W.heap.size ([R, C, (n : Int), (m : Int), (prR n s).1, (prR n s).2] ++ [(((L + 1) : Nat) : Int), (((k + 1) : Nat) : Int)]) [⟨A, n, flat1 s⟩, ⟨B, m, flat1 p⟩] [] [(fun j : Int => if j = (L : Int) then (flat1 s (flat1 p (k : Int))) else F j)]) (ds := [.int (.add (.var 6) (.lit (1))) (.var 6), .int (.add (.var 7) (.lit (1))) (.var 7), .row (.upd (.avar 50) (.var 6) (.sel (.avar 0) (.sel (.avar 1) (.var 7)))) (.avar 50), .int (.add (.var 6) (.lit (1))) (.var 6)]) (by kernel_rfl) noK_ok (facD_ok hF) (by kernel_rfl) (agree_list (l := [R, C, (n : Int), (m : Int), (prR n s).1, (prR n s).2]) (Nat.le_refl _) rfl) ⟨(show (((L : Int) + 1) : Int) = (((L + 1) : Nat) : Int) from by first | rfl | (push_cast; omega)), (show (((k : Int) + 1) : Int) = (((k + 1) : Nat) : Int) from by first | rfl | (push_cast; omega)), rfl, (show (((L : Int) + 1) : Int) = (((L + 1) : Nat) : Int) from by first | rfl | (push_cast; omega)), trivial⟩ hs2 fun A3 W3 hs3 => ⟨_, _, _, ⟨(L + 1), (k + 1), (fun j : Int => if j = (L : Int) then (flat1 s (flat1 p (k : Int))) else F j), ?_, rfl, .inr ⟨rfl, rfl, ?_⟩⟩, ?_, hs3⟩
              · first
                  | (exfalso; omega)
                  | (refine ⟨by omega, by omega, fun j hj => ?_, fun j hj => ?_⟩
                     · rcases Nat.lt_or_ge j k with g | g
                       · exact hz j g
                       · obtain rfl : j = k := by omega
                         unfold acode nb
                         simp [f1, f2, f4, f5, f6, f7, f8, f9]
                         try omega
                     · dsimp only
                       rcases Nat.lt_or_ge j k with g | g
                       · rw [if_neg (by omega)]
                         exact hFe j g
                       · obtain rfl : j = k := by omega
                         rw [if_pos (by omega), aval_step hcond, hF1]
                         unfold stp wrp
                         simp only [f1, f2, f4, f5, f6, f7, f8, f9, if_true, if_false]
                         try omega)
              · omega
              · show m - ((k + 1 : Nat) : Int).toNat < m - ((k : Nat) : Int).toNat
                omega
             ·
              have f9 : (-9223372036854775808 : Int) ≤ ((k : Int) + (-1)) ∧ ((k : Int) + (-1)) ≤ 9223372036854775807 := by
               first | omega | (have h := mul_64 f1 f2 f3 f4; omega) | (have h := hob (by assumption) (by assumption) (by assumption); omega)
              have f10 : (0 ≤ ((k : Int) + (-1))) := by
               first | omega | (have h := mul_64 f1 f2 f3 f4; omega) | (have h := hob (by assumption) (by assumption) (by assumption); omega)
              have f11 : ¬ ((m : Int) ≤ ((k : Int) + (-1))) := by
               first | omega | (have h := mul_64 f1 f2 f3 f4; omega) | (have h := hob (by assumption) (by assumption) (by assumption); omega)
              by_cases f12 : (flat1 p ((k : Int) + (-1))) ≤ (flat1 p (k : Int))
              ·
               by_cases f13 : (flat1 p (k : Int)) ≤ (flat1 p ((k : Int) + (-1)))
               ·
                have f14 : (-9223372036854775808 : Int) ≤ ((flat1 p ((k : Int) + (-1))) - (flat1 p ((k : Int) + (-1)))) ∧ ((flat1 p ((k : Int) + (-1))) - (flat1 p ((k : Int) + (-1)))) ≤ 9223372036854775807 := by
                 first | omega | (have h := mul_64 f1 f2 f3 f4; omega) | (have h := hob (by assumption) (by assumption) (by assumption); omega)
                by_cases f15 : ((flat1 p ((k : Int) + (-1))) - (flat1 p ((k : Int) + (-1)))) = C
                ·
                 have f16 : (0 ≤ (flat1 p ((k : Int) + (-1)))) := by
                  first | omega | (have h := mul_64 f1 f2 f3 f4; omega) | (have h := hob (by assumption) (by assumption) (by assumption); omega)
                 have f17 : ¬ ((n : Int) ≤ (flat1 p ((k : Int) + (-1)))) := by
                  first | omega | (have h := mul_64 f1 f2 f3 f4; omega) | (have h := hob (by assumption) (by assumption) (by assumption); omega)
                 have f18 : (-9223372036854775808 : Int) ≤ ((flat1 s (flat1 p (k : Int))) - (flat1 s (flat1 p ((k : Int) + (-1))))) ∧ ((flat1 s (flat1 p (k : Int))) - (flat1 s (flat1 p ((k : Int) + (-1))))) ≤ 9223372036854775807 := by
                  first | omega | (have h := mul_64 f1 f2 f3 f4; omega) | (have h := hob (by assumption) (by assumption) (by assumption); omega)
                 have f19 : (-9223372036854775808 : Int) ≤ (((flat1 s (flat1 p (k : Int))) - (flat1 s (flat1 p ((k : Int) + (-1))))) + 2048) ∧ (((flat1 s (flat1 p (k : Int))) - (flat1 s (flat1 p ((k : Int) + (-1))))) + 2048) ≤ 9223372036854775807 := by
                  first | omega | (have h := mul_64 f1 f2 f3 f4; omega) | (have h := hob (by assumption) (by assumption) (by assumption); omega)
                 by_cases f20 : 0 ≤ (Int.tmod (((flat1 s (flat1 p (k : Int))) - (flat1 s (flat1 p ((k : Int) + (-1))))) + 2048) 4096)
                 ·
                  have f21 : (-9223372036854775808 : Int) ≤ ((Int.tmod (((flat1 s (flat1 p (k : Int))) - (flat1 s (flat1 p ((k : Int) + (-1))))) + 2048) 4096) + (-2048)) ∧ ((Int.tmod (((flat1 s (flat1 p (k : Int))) - (flat1 s (flat1 p ((k : Int) + (-1))))) + 2048) 4096) + (-2048)) ≤ 9223372036854775807 := by
                   first | omega | (have h := mul_64 f1 f2 f3 f4; omega) | (have h := hob (by assumption) (by assumption) (by assumption); omega)
                  have f22 : ¬ ((L : Int) ≤ ((k : Int) + (-1))) := by
                   first | omega | (have h := mul_64 f1 f2 f3 f4; omega) | (have h := hob (by assumption) (by assumption) (by assumption); omega)
                  have f23 : (-9223372036854775808 : Int) ≤ ((F ((k : Int) + (-1))) + ((Int.tmod (((flat1 s (flat1 p (k : Int))) - (flat1 s (flat1 p ((k : Int) + (-1))))) + 2048) 4096) + (-2048))) ∧ ((F ((k : Int) + (-1))) + ((Int.tmod (((flat1 s (flat1 p (k : Int))) - (flat1 s (flat1 p ((k : Int) + (-1))))) + 2048) 4096) + (-2048))) ≤ 9223372036854775807 := by
                   first | omega | (have h := mul_64 f1 f2 f3 f4; omega) | (have h := hob (by assumption) (by assumption) (by assumption); omega)
                  have f24 : ((L : Int) ≤ 99999) := by
                   first | omega | (have h := mul_64 f1 f2 f3 f4; omega) | (have h := hob (by assumption) (by assumption) (by assumption); omega)
                  have f25 : (-9223372036854775808 : Int) ≤ ((k : Int) + 1) ∧ ((k : Int) + 1) ≤ 9223372036854775807 := by
                   first | omega | (have h := mul_64 f1 f2 f3 f4; omega) | (have h := hob (by assumption) (by assumption) (by assumption); omega)
                  have hF : Facts [((.le (.var 3) (.var 7)), false), ((.le (.lit (0)) (.var 7)), true), ((.inr .i64 (.add (.var 2) (.lit (-1)))), true), ((.le (.lit (0)) (.sel (.avar 1) (.var 7))), true), ((.le (.sel (.avar 1) (.var 7)) (.add (.var 2) (.lit (-1)))), true), ((.le (.var 2) (.sel (.avar 1) (.var 7))), false), ((.eq (.sel (.avar 0) (.sel (.avar 1) (.var 7))) (.lit (1000000000000))), false), ((.eq (.var 7) (.lit (0))), false), ((.inr .i64 (.add (.var 7) (.lit (-1)))), true), ((.le (.lit (0)) (.add (.var 7) (.lit (-1)))), true), ((.le (.var 3) (.add (.var 7) (.lit (-1)))), false), ((.le (.sel (.avar 1) (.add (.var 7) (.lit (-1)))) (.sel (.avar 1) (.var 7))), true), ((.le (.sel (.avar 1) (.var 7)) (.sel (.avar 1) (.add (.var 7) (.lit (-1))))), true), ((.inr .i64 (.sub (.sel (.avar 1) (.add (.var 7) (.lit (-1)))) (.sel (.avar 1) (.add (.var 7) (.lit (-1)))))), true), ((.eq (.sub (.sel (.avar 1) (.add (.var 7) (.lit (-1)))) (.sel (.avar 1) (.add (.var 7) (.lit (-1))))) (.var 1)), true), ((.le (.lit (0)) (.sel (.avar 1) (.add (.var 7) (.lit (-1))))), true), ((.le (.var 2) (.sel (.avar 1) (.add (.var 7) (.lit (-1))))), false), ((.inr .i64 (.sub (.sel (.avar 0) (.sel (.avar 1) (.var 7))) (.sel (.avar 0) (.sel (.avar 1) (.add (.var 7) (.lit (-1))))))), true), ((.inr .i64 (.add (.sub (.sel (.avar 0) (.sel (.avar 1) (.var 7))) (.sel (.avar 0) (.sel (.avar 1) (.add (.var 7) (.lit (-1)))))) (.lit (2048)))), true), ((.le (.lit (0)) (.rem (.add (.sub (.sel (.avar 0) (.sel (.avar 1) (.var 7))) (.sel (.avar 0) (.sel (.avar 1) (.add (.var 7) (.lit (-1)))))) (.lit (2048))) (.lit (4096)))), true), ((.inr .i64 (.add (.rem (.add (.sub (.sel (.avar 0) (.sel (.avar 1) (.var 7))) (.sel (.avar 0) (.sel (.avar 1) (.add (.var 7) (.lit (-1)))))) (.lit (2048))) (.lit (4096))) (.lit (-2048)))), true), ((.le (.var 6) (.add (.var 7) (.lit (-1)))), false), ((.inr .i64 (.add (.sel (.avar 50) (.add (.var 7) (.lit (-1)))) (.add (.rem (.add (.sub (.sel (.avar 0) (.sel (.avar 1) (.var 7))) (.sel (.avar 0) (.sel (.avar 1) (.add (.var 7) (.lit (-1)))))) (.lit (2048))) (.lit (4096))) (.lit (-2048))))), true), ((.le (.var 6) (.lit (99999))), true), ((.inr .i64 (.add (.var 7) (.lit (1)))), true)] := ⟨f_nle f1 rfl rfl, f_le f2 rfl rfl, f_in f3 rfl, f_le f4 rfl rfl, f_le f5 rfl rfl, f_nle f6 rfl rfl, f_ne f7 rfl rfl, f_ne f8 rfl rfl, f_in f9 rfl, f_le f10 rfl rfl, f_nle f11 rfl rfl, f_le f12 rfl rfl, f_le f13 rfl rfl, f_in f14 rfl, f_eq f15 rfl rfl, f_le f16 rfl rfl, f_nle f17 rfl rfl, f_in f18 rfl, f_in f19 rfl, f_le f20 rfl rfl, f_in f21 rfl, f_nle f22 rfl rfl, f_in f23 rfl, f_le f24 rfl rfl, f_in f25 rfl, trivial⟩
                  refine again_runP (P := Try.prog) (K := noK) (fl := []) (B := 6) (l := [.mov 3 5]) (a' := ual1_1_a) (h' := ual1_1_h) (ρ' := rhoL W.heap.size ([R, C, (n : Int), (m : Int), (prR n s).1, (prR n s).2] ++ [(((L + 1) : Nat) : Int), (((k + 1) : Nat) : Int)]) [⟨A, n, flat1 s⟩, ⟨B, m, flat1 p⟩] [] [(fun j : Int => if j = (L : Int) then ((F ((k : Int) + (-1))) + ((Int.tmod (((flat1 s (flat1 p (k : Int))) - (flat1 s (flat1 p ((k : Int) + (-1))))) + 2048) 4096) + (-2048))) else F j)]) (ds := [.int (.add (.var 6) (.lit (1))) (.var 6), .int (.add (.var 7) (.lit (1))) (.var 7), .row (.upd (.avar 50) (.var 6) (.add (.sel (.avar 50) (.add (.var 7) (.lit (-1)))) (.add (.rem (.add (.sub (.sel (.avar 0) (.sel (.avar 1) (.var 7))) (.sel (.avar 0) (.sel (.avar 1) (.add (.var 7) (.lit (-1)))))) (.lit (2048))) (.lit (4096))) (.lit (-2048))))) (.avar 50), .int (.add (.var 6) (.lit (1))) (.var 6)]) (by kernel_rfl) noK_ok (facD_ok hF) (by kernel_rfl) (agree_list (l := [R, C, (n : Int), (m : Int), (prR n s).1, (prR n s).2]) (Nat.le_refl _) rfl) ⟨(show (((L : Int) + 1) : Int) = (((L + 1) : Nat) : Int) from by first | rfl | (push_cast; omega)), (show (((k : Int) + 1) : Int) = (((k + 1) : Nat) : Int) from by first | rfl | (push_cast; omega)), rfl, (show (((L : Int) + 1) : Int) = (((L + 1) : Nat) : Int) from by first | rfl | (push_cast; omega)), trivial⟩ hs2 fun A3 W3 hs3 => ⟨_, _, _, ⟨(L + 1), (k + 1), (fun j : Int => if j = (L : Int) then ((F ((k : Int) + (-1))) + ((Int.tmod (((flat1 s (flat1 p (k : Int))) - (flat1 s (flat1 p ((k : Int) + (-1))))) + 2048) 4096) + (-2048))) else F j), ?_, rfl, .inr ⟨rfl, rfl, ?_⟩⟩, ?_, hs3⟩
                  · first
                      | (exfalso; omega)
                      | (refine ⟨by omega, by omega, fun j hj => ?_, fun j hj => ?_⟩
                         · rcases Nat.lt_or_ge j k with g | g
                           · exact hz j g
                           · obtain rfl : j = k := by omega
                             unfold acode nb
                             simp [f1, f2, f4, f5, f6, f7, f8, f10, f11, f12, f13, f15, f16, f17, f20, f22, f24]
                             try omega
                         · dsimp only
                           rcases Nat.lt_or_ge j k with g | g
                           · rw [if_neg (by omega)]
                             exact hFe j g
                           · obtain rfl : j = k := by omega
                             rw [if_pos (by omega), aval_step hcond, hF1]
                             unfold stp wrp
                             simp only [f1, f2, f4, f5, f6, f7, f8, f10, f11, f12, f13, f15, f16, f17, f20, f22, f24, if_true, if_false]
                             try omega)
                  · omega
                  · show m - ((k + 1 : Nat) : Int).toNat < m - ((k : Nat) : Int).toNat
                    omega
                 ·
                  have f21 : (-9223372036854775808 : Int) ≤ ((Int.tmod (((flat1 s (flat1 p (k : Int))) - (flat1 s (flat1 p ((k : Int) + (-1))))) + 2048) 4096) + 4096) ∧ ((Int.tmod (((flat1 s (flat1 p (k : Int))) - (flat1 s (flat1 p ((k : Int) + (-1))))) + 2048) 4096) + 4096) ≤ 9223372036854775807 := by
                   first | omega | (have h := mul_64 f1 f2 f3 f4; omega) | (have h := hob (by assumption) (by assumption) (by assumption); omega)
                  have f22 : (-9223372036854775808 : Int) ≤ ((Int.tmod (((flat1 s (flat1 p (k : Int))) - (flat1 s (flat1 p ((k : Int) + (-1))))) + 2048) 4096) + 2048) ∧ ((Int.tmod (((flat1 s (flat1 p (k : Int))) - (flat1 s (flat1 p ((k : Int) + (-1))))) + 2048) 4096) + 2048) ≤ 9223372036854775807 := by
                   first | omega | (have h := mul_64 f1 f2 f3 f4; omega) | (have h := hob (by assumption) (by assumption) (by assumption); omega)
                  have f23 : ¬ ((L : Int) ≤ ((k : Int) + (-1))) := by
                   first | omega | (have h := mul_64 f1 f2 f3 f4; omega) | (have h := hob (by assumption) (by assumption) (by assumption); omega)
                  have f24 : (-9223372036854775808 : Int) ≤ ((F ((k : Int) + (-1))) + ((Int.tmod (((flat1 s (flat1 p (k : Int))) - (flat1 s (flat1 p ((k : Int) + (-1))))) + 2048) 4096) + 2048)) ∧ ((F ((k : Int) + (-1))) + ((Int.tmod (((flat1 s (flat1 p (k : Int))) - (flat1 s (flat1 p ((k : Int) + (-1))))) + 2048) 4096) + 2048)) ≤ 9223372036854775807 := by
                   first | omega | (have h := mul_64 f1 f2 f3 f4; omega) | (have h := hob (by assumption) (by assumption) (by assumption); omega)
                  have f25 : ((L : Int) ≤ 99999) := by
                   first | omega | (have h := mul_64 f1 f2 f3 f4; omega) | (have h := hob (by assumption) (by assumption) (by assumption); omega)
                  have f26 : (-9223372036854775808 : Int) ≤ ((k : Int) + 1) ∧ ((k : Int) + 1) ≤ 9223372036854775807 := by
                   first | omega | (have h := mul_64 f1 f2 f3 f4; omega) | (have h := hob (by assumption) (by assumption) (by assumption); omega)
                  have hF : Facts [((.le (.var 3) (.var 7)), false), ((.le (.lit (0)) (.var 7)), true), ((.inr .i64 (.add (.var 2) (.lit (-1)))), true), ((.le (.lit (0)) (.sel (.avar 1) (.var 7))), true), ((.le (.sel (.avar 1) (.var 7)) (.add (.var 2) (.lit (-1)))), true), ((.le (.var 2) (.sel (.avar 1) (.var 7))), false), ((.eq (.sel (.avar 0) (.sel (.avar 1) (.var 7))) (.lit (1000000000000))), false), ((.eq (.var 7) (.lit (0))), false), ((.inr .i64 (.add (.var 7) (.lit (-1)))), true), ((.le (.lit (0)) (.add (.var 7) (.lit (-1)))), true), ((.le (.var 3) (.add (.var 7) (.lit (-1)))), false), ((.le (.sel (.avar 1) (.add (.var 7) (.lit (-1)))) (.sel (.avar 1) (.var 7))), true), ((.le (.sel (.avar 1) (.var 7)) (.sel (.avar 1) (.add (.var 7) (.lit (-1))))), true), ((.inr .i64 (.sub (.sel (.avar 1) (.add (.var 7) (.lit (-1)))) (.sel (.avar 1) (.add (.var 7) (.lit (-1)))))), true), ((.eq (.sub (.sel (.avar 1) (.add (.var 7) (.lit (-1)))) (.sel (.avar 1) (.add (.var 7) (.lit (-1))))) (.var 1)), true), ((.le (.lit (0)) (.sel (.avar 1) (.add (.var 7) (.lit (-1))))), true), ((.le (.var 2) (.sel (.avar 1) (.add (.var 7) (.lit (-1))))), false), ((.inr .i64 (.sub (.sel (.avar 0) (.sel (.avar 1) (.var 7))) (.sel (.avar 0) (.sel (.avar 1) (.add (.var 7) (.lit (-1))))))), true), ((.inr .i64 (.add (.sub (.sel (.avar 0) (.sel (.avar 1) (.var 7))) (.sel (.avar 0) (.sel (.avar 1) (.add (.var 7) (.lit (-1)))))) (.lit (2048)))), true), ((.le (.lit (0)) (.rem (.add (.sub (.sel (.avar 0) (.sel (.avar 1) (.var 7))) (.sel (.avar 0) (.sel (.avar 1) (.add (.var 7) (.lit (-1)))))) (.lit (2048))) (.lit (4096)))), false), ((.inr .i64 (.add (.rem (.add (.sub (.sel (.avar 0) (.sel (.avar 1) (.var 7))) (.sel (.avar 0) (.sel (.avar 1) (.add (.var 7) (.lit (-1)))))) (.lit (2048))) (.lit (4096))) (.lit (4096)))), true), ((.inr .i64 (.add (.rem (.add (.sub (.sel (.avar 0) (.sel (.avar 1) (.var 7))) (.sel (.avar 0) (.sel (.avar 1) (.add (.var 7) (.lit (-1)))))) (.lit (2048))) (.lit (4096))) (.lit (2048)))), true), ((.le (.var 6) (.add (.var 7) (.lit (-1)))), false), ((.inr .i64 (.add (.sel (.avar 50) (.add (.var 7) (.lit (-1)))) (.add (.rem (.add (.sub (.sel (.avar 0) (.sel (.avar 1) (.var 7))) (.sel (.avar 0) (.sel (.avar 1) (.add (.var 7) (.lit (-1)))))) (.lit (2048))) (.lit (4096))) (.lit (2048))))), true), ((.le (.var 6) (.lit (99999))), true), ((.inr .i64 (.add (.var 7) (.lit (1)))), true)] := ⟨f_nle f1 rfl rfl, f_le f2 rfl rfl, f_in f3 rfl, f_le f4 rfl rfl, f_le f5 rfl rfl, f_nle f6 rfl rfl, f_ne f7 rfl rfl, f_ne f8 rfl rfl, f_in f9 rfl, f_le f10 rfl rfl, f_nle f11 rfl rfl, f_le f12 rfl rfl, f_le f13 rfl rfl, f_in f14 rfl, f_eq f15 rfl rfl, f_le f16 rfl rfl, f_nle f17 rfl rfl, f_in f18 rfl, f_in f19 rfl, f_nle f20 rfl rfl, f_in f21 rfl, f_in f22 rfl, f_nle f23 rfl rfl, f_in f24 rfl, f_le f25 rfl rfl, f_in f26 rfl, trivial⟩
                  refine again_runP (P := Try.prog) (K := noK) (fl := []) (B := 6) (l := [.mov 3 5]) (a' := ual1_1_a) (h' := ual1_1_h) (ρ' := rhoL W.heap.size ([R, C, (n : Int), (m : Int), (prR n s).1, (prR n s).2] ++ [(((L + 1) : Nat) : Int), (((k + 1) : Nat) : Int)]) [⟨A, n, flat1 s⟩, ⟨B, m, flat1 p⟩] [] [(fun j : Int => if j = (L : Int) then ((F ((k : Int) + (-1))) + ((Int.tmod (((flat1 s (flat1 p (k : Int))) - (flat1 s (flat1 p ((k : Int) + (-1))))) + 2048) 4096) + 2048)) else F j)]) (ds := [.int (.add (.var 6) (.lit (1))) (.var 6), .int (.add (.var 7) (.lit (1))) (.var 7), .row (.upd (.avar 50) (.var 6) (.add (.sel (.avar 50) (.add (.var 7) (.lit (-1)))) (.add (.rem (.add (.sub (.sel (.avar 0) (.sel (.avar 1) (.var 7))) (.sel (.avar 0) (.sel (.avar 1) (.add (.var 7) (.lit (-1)))))) (.lit (2048))) (.lit (4096))) (.lit (2048))))) (.avar 50), .int (.add (.var 6) (.lit (1))) (.var 6)]) (by kernel_rfl) noK_ok (facD_ok hF) (by kernel_rfl) (agree_list (l := [R, C, (n : Int), (m : Int), (prR n s).1, (prR n s).2]) (Nat.le_refl _) rfl) ⟨(show (((L : Int) + 1) : Int) = (((L + 1) : Nat) : Int) from by first | rfl | (push_cast; omega)), (show (((k : Int) + 1) : Int) = (((k + 1) : Nat) : Int) from by first | rfl | (push_cast; omega)), rfl, (show (((L : Int) + 1) : Int) = (((L + 1) : Nat) : Int) from by first | rfl | (push_cast; omega)), trivial⟩ hs2 fun A3 W3 hs3 => ⟨_, _, _, ⟨(L + 1), (k + 1), (fun j : Int => if j = (L : Int) then ((F ((k : Int) + (-1))) + ((Int.tmod (((flat1 s (flat1 p (k : Int))) - (flat1 s (flat1 p ((k : Int) + (-1))))) + 2048) 4096) + 2048)) else F j), ?_, rfl, .inr ⟨rfl, rfl, ?_⟩⟩, ?_, hs3⟩
                  · first
                      | (exfalso; omega)
                      | (refine ⟨by omega, by omega, fun j hj => ?_, fun j hj => ?_⟩
                         · rcases Nat.lt_or_ge j k with g | g
                           · exact hz j g
                           · obtain rfl : j = k := by omega
                             unfold acode nb
                             simp [f1, f2, f4, f5, f6, f7, f8, f10, f11, f12, f13, f15, f16, f17, f20, f23, f25]
                             try omega
                         · dsimp only
                           rcases Nat.lt_or_ge j k with g | g
                           · rw [if_neg (by omega)]
                             exact hFe j g
                           · obtain rfl : j = k := by omega
                             rw [if_pos (by omega), aval_step hcond, hF1]
                             unfold stp wrp
                             simp only [f1, f2, f4, f5, f6, f7, f8, f10, f11, f12, f13, f15, f16, f17, f20, f23, f25, if_true, if_false]
                             try omega)
                  · omega
                  · show m - ((k + 1 : Nat) : Int).toNat < m - ((k : Nat) : Int).toNat
                    omega
                ·
                 by_cases f16 : ((flat1 p ((k : Int) + (-1))) - (flat1 p ((k : Int) + (-1)))) = 1
                 ·
                  have f17 : ¬ (C = 0) := by
                   first | omega | (have h := mul_64 f1 f2 f3 f4; omega) | (have h := hob (by assumption) (by assumption) (by assumption); omega)
                  by_cases f18 : (Int.tmod (flat1 p ((k : Int) + (-1))) C) = 0
                  ·
                   have hF : Facts [((.le (.var 3) (.var 7)), false), ((.le (.lit (0)) (.var 7)), true), ((.inr .i64 (.add (.var 2) (.lit (-1)))), true), ((.le (.lit (0)) (.sel (.avar 1) (.var 7))), true), ((.le (.sel (.avar 1) (.var 7)) (.add (.var 2) (.lit (-1)))), true), ((.le (.var 2) (.sel (.avar 1) (.var 7))), false), ((.eq (.sel (.avar 0) (.sel (.avar 1) (.var 7))) (.lit (1000000000000))), false), ((.eq (.var 7) (.lit (0))), false), ((.inr .i64 (.add (.var 7) (.lit (-1)))), true), ((.le (.lit (0)) (.add (.var 7) (.lit (-1)))), true), ((.le (.var 3) (.add (.var 7) (.lit (-1)))), false), ((.le (.sel (.avar 1) (.add (.var 7) (.lit (-1)))) (.sel (.avar 1) (.var 7))), true), ((.le (.sel (.avar 1) (.var 7)) (.sel (.avar 1) (.add (.var 7) (.lit (-1))))), true), ((.inr .i64 (.sub (.sel (.avar 1) (.add (.var 7) (.lit (-1)))) (.sel (.avar 1) (.add (.var 7) (.lit (-1)))))), true), ((.eq (.sub (.sel (.avar 1) (.add (.var 7) (.lit (-1)))) (.sel (.avar 1) (.add (.var 7) (.lit (-1))))) (.var 1)), false), ((.eq (.sub (.sel (.avar 1) (.add (.var 7) (.lit (-1)))) (.sel (.avar 1) (.add (.var 7) (.lit (-1))))) (.lit (1))), true), ((.eq (.var 1) (.lit (0))), false), ((.eq (.rem (.sel (.avar 1) (.add (.var 7) (.lit (-1)))) (.var 1)) (.lit (0))), true)] := ⟨f_nle f1 rfl rfl, f_le f2 rfl rfl, f_in f3 rfl, f_le f4 rfl rfl, f_le f5 rfl rfl, f_nle f6 rfl rfl, f_ne f7 rfl rfl, f_ne f8 rfl rfl, f_in f9 rfl, f_le f10 rfl rfl, f_nle f11 rfl rfl, f_le f12 rfl rfl, f_le f13 rfl rfl, f_in f14 rfl, f_ne f15 rfl rfl, f_eq f16 rfl rfl, f_ne f17 rfl rfl, f_eq f18 rfl rfl, trivial⟩
                   refine out_run (P := Try.prog) (K := noK) (fl := []) (by kernel_rfl) noK_ok (facD_ok hF) hs2 (fin_gen (r := (.tup [(.pl (.slice none 0 0)), (.pl (.int .i64 (14)))])) (h' := { bl := [some (.row (.avar 50) (.var 6) 3 1), some (.cells [(.si .i64 (.sel (.avar 0) (.sel (.avar 1) (.lit (0)))))] 3 false), some (.cells [(.pl (.int .i64 (0))), (.pl (.int .i64 (0)))] 28 false), some (.cells [(.si .i64 (.var 0)), (.si .i64 (.var 1)), (.fsl 0 1 (.lit (0)) (.var 2))] 40 false)], n := 4, base := 0, ch := [] }) (by kernel_rfl) fun V mb gb v W' hv hw hbel => ?_)
                   obtain rfl := rep_den _ (.tuple #[.slice none 0 0, .int .i64 14]) _ rfl hv
                   first
                     | (exfalso; omega)
                     | (have hc : acode C n (flat1 s) (flat1 p) k = 14 := by
                         unfold acode nb
                         simp [f1, f2, f4, f5, f6, f7, f8, f10, f11, f12, f13, f15, f16, f17, f18]
                         try omega
                        have e : aErr R C n s m p = 14 := by rw [aErr_in hw0 hm200, fw_hit (k := k) hz (by rw [hc]; decide) (by omega), hc]
                        exact ⟨.inl ⟨by rw [e]; decide, by rw [e]⟩, hbel⟩)
                  ·
                   have f19 : (0 ≤ (flat1 p ((k : Int) + (-1)))) := by
                    first | omega | (have h := mul_64 f1 f2 f3 f4; omega) | (have h := hob (by assumption) (by assumption) (by assumption); omega)
                   have f20 : ¬ ((n : Int) ≤ (flat1 p ((k : Int) + (-1)))) := by
                    first | omega | (have h := mul_64 f1 f2 f3 f4; omega) | (have h := hob (by assumption) (by assumption) (by assumption); omega)
                   have f21 : (-9223372036854775808 : Int) ≤ ((flat1 s (flat1 p (k : Int))) - (flat1 s (flat1 p ((k : Int) + (-1))))) ∧ ((flat1 s (flat1 p (k : Int))) - (flat1 s (flat1 p ((k : Int) + (-1))))) ≤ 9223372036854775807 := by
                    first | omega | (have h := mul_64 f1 f2 f3 f4; omega) | (have h := hob (by assumption) (by assumption) (by assumption); omega)
                   have f22 : (-9223372036854775808 : Int) ≤ (((flat1 s (flat1 p (k : Int))) - (flat1 s (flat1 p ((k : Int) + (-1))))) + 2048) ∧ (((flat1 s (flat1 p (k : Int))) - (flat1 s (flat1 p ((k : Int) + (-1))))) + 2048) ≤ 9223372036854775807 := by
                    first | omega | (have h := mul_64 f1 f2 f3 f4; omega) | (have h := hob (by assumption) (by assumption) (by assumption); omega)
                   by_cases f23 : 0 ≤ (Int.tmod (((flat1 s (flat1 p (k : Int))) - (flat1 s (flat1 p ((k : Int) + (-1))))) + 2048) 4096)
                   ·
                    have f24 : (-9223372036854775808 : Int) ≤ ((Int.tmod (((flat1 s (flat1 p (k : Int))) - (flat1 s (flat1 p ((k : Int) + (-1))))) + 2048) 4096) + (-2048)) ∧ ((Int.tmod (((flat1 s (flat1 p (k : Int))) - (flat1 s (flat1 p ((k : Int) + (-1))))) + 2048) 4096) + (-2048)) ≤ 9223372036854775807 := by
                     first | omega | (have h := mul_64 f1 f2 f3 f4; omega) | (have h := hob (by assumption) (by assumption) (by assumption); omega)
                    have f25 : ¬ ((L : Int) ≤ ((k : Int) + (-1))) := by
                     first | omega | (have h := mul_64 f1 f2 f3 f4; omega) | (have h := hob (by assumption) (by assumption) (by assumption); omega)
                    have f26 : (-9223372036854775808 : Int) ≤ ((F ((k : Int) + (-1))) + ((Int.tmod (((flat1 s (flat1 p (k : Int))) - (flat1 s (flat1 p ((k : Int) + (-1))))) + 2048) 4096) + (-2048))) ∧ ((F ((k : Int) + (-1))) + ((Int.tmod (((flat1 s (flat1 p (k : Int))) - (flat1 s (flat1 p ((k : Int) + (-1))))) + 2048) 4096) + (-2048))) ≤ 9223372036854775807 := by
                     first | omega | (have h := mul_64 f1 f2 f3 f4; omega) | (have h := hob (by assumption) (by assumption) (by assumption); omega)
                    have f27 : ((L : Int) ≤ 99999) := by
                     first | omega | (have h := mul_64 f1 f2 f3 f4; omega) | (have h := hob (by assumption) (by assumption) (by assumption); omega)
                    have f28 : (-9223372036854775808 : Int) ≤ ((k : Int) + 1) ∧ ((k : Int) + 1) ≤ 9223372036854775807 := by
                     first | omega | (have h := mul_64 f1 f2 f3 f4; omega) | (have h := hob (by assumption) (by assumption) (by assumption); omega)
                    have hF : Facts [((.le (.var 3) (.var 7)), false), ((.le (.lit (0)) (.var 7)), true), ((.inr .i64 (.add (.var 2) (.lit (-1)))), true), ((.le (.lit (0)) (.sel (.avar 1) (.var 7))), true), ((.le (.sel (.avar 1) (.var 7)) (.add (.var 2) (.lit (-1)))), true), ((.le (.var 2) (.sel (.avar 1) (.var 7))), false), ((.eq (.sel (.avar 0) (.sel (.avar 1) (.var 7))) (.lit (1000000000000))), false), ((.eq (.var 7) (.lit (0))), false), ((.inr .i64 (.add (.var 7) (.lit (-1)))), true), ((.le (.lit (0)) (.add (.var 7) (.lit (-1)))), true), ((.le (.var 3) (.add (.var 7) (.lit (-1)))), false), ((.le (.sel (.avar 1) (.add (.var 7) (.lit (-1)))) (.sel (.avar 1) (.var 7))), true), ((.le (.sel (.avar 1) (.var 7)) (.sel (.avar 1) (.add (.var 7) (.lit (-1))))), true), ((.inr .i64 (.sub (.sel (.avar 1) (.add (.var 7) (.lit (-1)))) (.sel (.avar 1) (.add (.var 7) (.lit (-1)))))), true), ((.eq (.sub (.sel (.avar 1) (.add (.var 7) (.lit (-1)))) (.sel (.avar 1) (.add (.var 7) (.lit (-1))))) (.var 1)), false), ((.eq (.sub (.sel (.avar 1) (.add (.var 7) (.lit (-1)))) (.sel (.avar 1) (.add (.var 7) (.lit (-1))))) (.lit (1))), true), ((.eq (.var 1) (.lit (0))), false), ((.eq (.rem (.sel (.avar 1) (.add (.var 7) (.lit (-1)))) (.var 1)) (.lit (0))), false), ((.le (.lit (0)) (.sel (.avar 1) (.add (.var 7) (.lit (-1))))), true), ((.le (.var 2) (.sel (.avar 1) (.add (.var 7) (.lit (-1))))), false), ((.inr .i64 (.sub (.sel (.avar 0) (.sel (.avar 1) (.var 7))) (.sel (.avar 0) (.sel (.avar 1) (.add (.var 7) (.lit (-1))))))), true), ((.inr .i64 (.add (.sub (.sel (.avar 0) (.sel (.avar 1) (.var 7))) (.sel (.avar 0) (.sel (.avar 1) (.add (.var 7) (.lit (-1)))))) (.lit (2048)))), true), ((.le (.lit (0)) (.rem (.add (.sub (.sel (.avar 0) (.sel (.avar 1) (.var 7))) (.sel (.avar 0) (.sel (.avar 1) (.add (.var 7) (.lit (-1)))))) (.lit (2048))) (.lit (4096)))), true), ((.inr .i64 (.add (.rem (.add (.sub (.sel (.avar 0) (.sel (.avar 1) (.var 7))) (.sel (.avar 0) (.sel (.avar 1) (.add (.var 7) (.lit (-1)))))) (.lit (2048))) (.lit (4096))) (.lit (-2048)))), true), ((.le (.var 6) (.add (.var 7) (.lit (-1)))), false), ((.inr .i64 (.add (.sel (.avar 50) (.add (.var 7) (.lit (-1)))) (.add (.rem (.add (.sub (.sel (.avar 0) (.sel (.avar 1) (.var 7))) (.sel (.avar 0) (.sel (.avar 1) (.add (.var 7) (.lit (-1)))))) (.lit (2048))) (.lit (4096))) (.lit (-2048))))), true), ((.le (.var 6) (.lit (99999))), true), ((.inr .i64 (.add (.var 7) (.lit (1)))), true)] := ⟨f_nle f1 rfl rfl, f_le f2 rfl rfl, f_in f3 rfl, f_le f4 rfl rfl, f_le f5 rfl rfl, f_nle f6 rfl rfl, f_ne f7 rfl rfl, f_ne f8 rfl rfl, f_in f9 rfl, f_le f10 rfl rfl, f_nle f11 rfl rfl, f_le f12 rfl rfl, f_le f13 rfl rfl, f_in f14 rfl, f_ne f15 rfl rfl, f_eq f16 rfl rfl, f_ne f17 rfl rfl, f_ne f18 rfl rfl, f_le f19 rfl rfl, f_nle f20 rfl rfl, f_in f21 rfl, f_in f22 rfl, f_le f23 rfl rfl, f_in f24 rfl, f_nle f25 rfl rfl, f_in f26 rfl, f_le f27 rfl rfl, f_in f28 rfl, trivial⟩
                    refine again_runP (P := Try.prog) (K := noK) (fl := []) (B := 6) (l := [.mov 3 5]) (a' := ual1_1_a) (h' := ual1_1_h) (ρ' := rhoL W.heap.size ([R, C, (n : Int), (m : Int), (prR n s).1, (prR n s).2] ++ [(((L + 1) : Nat) : Int), (((k + 1) : Nat) : Int)]) [⟨A, n, flat1 s⟩, ⟨B, m, flat1 p⟩] [] [(fun j : Int => if j = (L : Int) then ((F ((k : Int) + (-1))) + ((Int.tmod (((flat1 s (flat1 p (k : Int))) - (flat1 s (flat1 p ((k : Int) + (-1))))) + 2048) 4096) + (-2048))) else F j)]) (ds := [.int (.add (.var 6) (.lit (1))) (.var 6), .int (.add (.var 7) (.lit (1))) (.var 7), .row (.upd (.avar 50) (.var 6) (.add (.sel (.avar 50) (.add (.var 7) (.lit (-1)))) (.add (.rem (.add (.sub (.sel (.avar 0) (.sel (.avar 1) (.var 7))) (.sel (.avar 0) (.sel (.avar 1) (.add (.var 7) (.lit (-1)))))) (.lit (2048))) (.lit (4096))) (.lit (-2048))))) (.avar 50), .int (.add (.var 6) (.lit (1))) (.var 6)]) (by kernel_rfl) noK_ok (facD_ok hF) (by kernel_rfl) (agree_list (l := [R, C, (n : Int), (m : Int), (prR n s).1, (prR n s).2]) (Nat.le_refl _) rfl) ⟨(show (((L : Int) + 1) : Int) = (((L + 1) : Nat) : Int) from by first | rfl | (push_cast; omega)), (show (((k : Int) + 1) : Int) = (((k + 1) : Nat) : Int) from by first | rfl | (push_cast; omega)), rfl, (show (((L : Int) + 1) : Int) = (((L + 1) : Nat) : Int) from by first | rfl | (push_cast; omega)), trivial⟩ hs2 fun A3 W3 hs3 => ⟨_, _, _, ⟨(L + 1), (k + 1), (fun j : Int => if j = (L : Int) then ((F ((k : Int) + (-1))) + ((Int.tmod (((flat1 s (flat1 p (k : Int))) - (flat1 s (flat1 p ((k : Int) + (-1))))) + 2048) 4096) + (-2048))) else F j), ?_, rfl, .inr ⟨rfl, rfl, ?_⟩⟩, ?_, hs3⟩
                    · first
                        | (exfalso; omega)
                        | (refine ⟨by omega, by omega, fun j hj => ?_, fun j hj => ?_⟩
                           · rcases Nat.lt_or_ge j k with g | g
                             · exact hz j g
                             · obtain rfl : j = k := by omega
                               unfold acode nb
                               simp [f1, f2, f4, f5, f6, f7, f8, f10, f11, f12, f13, f15, f16, f17, f18, f19, f20, f23, f25, f27]
                               try omega
                           · dsimp only
                             rcases Nat.lt_or_ge j k with g | g
                             · rw [if_neg (by omega)]
                               exact hFe j g
                             · obtain rfl : j = k := by omega
                               rw [if_pos (by omega), aval_step hcond, hF1]
                               unfold stp wrp
                               simp only [f1, f2, f4, f5, f6, f7, f8, f10, f11, f12, f13, f15, f16, f17, f18, f19, f20, f23, f25, f27, if_true, if_false]
                               try omega)
                    · omega
                    · show m - ((k + 1 : Nat) : Int).toNat < m - ((k : Nat) : Int).toNat
                      omega
                   ·
                    have f24 : (-9223372036854775808 : Int) ≤ ((Int.tmod (((flat1 s (flat1 p (k : Int))) - (flat1 s (flat1 p ((k : Int) + (-1))))) + 2048) 4096) + 4096) ∧ ((Int.tmod (((flat1 s (flat1 p (k : Int))) - (flat1 s (flat1 p ((k : Int) + (-1))))) + 2048) 4096) + 4096) ≤ 9223372036854775807 := by
                     first | omega | (have h := mul_64 f1 f2 f3 f4; omega) | (have h := hob (by assumption) (by assumption) (by assumption); omega)
                    have f25 : (-9223372036854775808 : Int) ≤ ((Int.tmod (((flat1 s (flat1 p (k : Int))) - (flat1 s (flat1 p ((k : Int) + (-1))))) + 2048) 4096) + 2048) ∧ ((Int.tmod (((flat1 s (flat1 p (k : Int))) - (flat1 s (flat1 p ((k : Int) + (-1))))) + 2048) 4096) + 2048) ≤ 9223372036854775807 := by
                     first | omega | (have h := mul_64 f1 f2 f3 f4; omega) | (have h := hob (by assumption) (by assumption) (by assumption); omega)
                    have f26 : ¬ ((L : Int) ≤ ((k : Int) + (-1))) := by
                     first | omega | (have h := mul_64 f1 f2 f3 f4; omega) | (have h := hob (by assumption) (by assumption) (by assumption); omega)
                    have f27 : (-9223372036854775808 : Int) ≤ ((F ((k : Int) + (-1))) + ((Int.tmod (((flat1 s (flat1 p (k : Int))) - (flat1 s (flat1 p ((k : Int) + (-1))))) + 2048) 4096) + 2048)) ∧ ((F ((k : Int) + (-1))) + ((Int.tmod (((flat1 s (flat1 p (k : Int))) - (flat1 s (flat1 p ((k : Int) + (-1))))) + 2048) 4096) + 2048)) ≤ 9223372036854775807 := by
                     first | omega | (have h := mul_64 f1 f2 f3 f4; omega) | (have h := hob (by assumption) (by assumption) (by assumption); omega)
                    have f28 : ((L : Int) ≤ 99999) := by
                     first | omega | (have h := mul_64 f1 f2 f3 f4; omega) | (have h := hob (by assumption) (by assumption) (by assumption); omega)
                    have f29 : (-9223372036854775808 : Int) ≤ ((k : Int) + 1) ∧ ((k : Int) + 1) ≤ 9223372036854775807 := by
                     first | omega | (have h := mul_64 f1 f2 f3 f4; omega) | (have h := hob (by assumption) (by assumption) (by assumption); omega)
                    have hF : Facts [((.le (.var 3) (.var 7)), false), ((.le (.lit (0)) (.var 7)), true), ((.inr .i64 (.add (.var 2) (.lit (-1)))), true), ((.le (.lit (0)) (.sel (.avar 1) (.var 7))), true), ((.le (.sel (.avar 1) (.var 7)) (.add (.var 2) (.lit (-1)))), true), ((.le (.var 2) (.sel (.avar 1) (.var 7))), false), ((.eq (.sel (.avar 0) (.sel (.avar 1) (.var 7))) (.lit (1000000000000))), false), ((.eq (.var 7) (.lit (0))), false), ((.inr .i64 (.add (.var 7) (.lit (-1)))), true), ((.le (.lit (0)) (.add (.var 7) (.lit (-1)))), true), ((.le (.var 3) (.add (.var 7) (.lit (-1)))), false), ((.le (.sel (.avar 1) (.add (.var 7) (.lit (-1)))) (.sel (.avar 1) (.var 7))), true), ((.le (.sel (.avar 1) (.var 7)) (.sel (.avar 1) (.add (.var 7) (.lit (-1))))), true), ((.inr .i64 (.sub (.sel (.avar 1) (.add (.var 7) (.lit (-1)))) (.sel (.avar 1) (.add (.var 7) (.lit (-1)))))), true), ((.eq (.sub (.sel (.avar 1) (.add (.var 7) (.lit (-1)))) (.sel (.avar 1) (.add (.var 7) (.lit (-1))))) (.var 1)), false), ((.eq (.sub (.sel (.avar 1) (.add (.var 7) (.lit (-1)))) (.sel (.avar 1) (.add (.var 7) (.lit (-1))))) (.lit (1))), true), ((.eq (.var 1) (.lit (0))), false), ((.eq (.rem (.sel (.avar 1) (.add (.var 7) (.lit (-1)))) (.var 1)) (.lit (0))), false), ((.le (.lit (0)) (.sel (.avar 1) (.add (.var 7) (.lit (-1))))), true), ((.le (.var 2) (.sel (.avar 1) (.add (.var 7) (.lit (-1))))), false), ((.inr .i64 (.sub (.sel (.avar 0) (.sel (.avar 1) (.var 7))) (.sel (.avar 0) (.sel (.avar 1) (.add (.var 7) (.lit (-1))))))), true), ((.inr .i64 (.add (.sub (.sel (.avar 0) (.sel (.avar 1) (.var 7))) (.sel (.avar 0) (.sel (.avar 1) (.add (.var 7) (.lit (-1)))))) (.lit (2048)))), true), ((.le (.lit (0)) (.rem (.add (.sub (.sel (.avar 0) (.sel (.avar 1) (.var 7))) (.sel (.avar 0) (.sel (.avar 1) (.add (.var 7) (.lit (-1)))))) (.lit (2048))) (.lit (4096)))), false), ((.inr .i64 (.add (.rem (.add (.sub (.sel (.avar 0) (.sel (.avar 1) (.var 7))) (.sel (.avar 0) (.sel (.avar 1) (.add (.var 7) (.lit (-1)))))) (.lit (2048))) (.lit (4096))) (.lit (4096)))), true), ((.inr .i64 (.add (.rem (.add (.sub (.sel (.avar 0) (.sel (.avar 1) (.var 7))) (.sel (.avar 0) (.sel (.avar 1) (.add (.var 7) (.lit (-1)))))) (.lit (2048))) (.lit (4096))) (.lit (2048)))), true), ((.le (.var 6) (.add (.var 7) (.lit (-1)))), false), ((.inr .i64 (.add (.sel (.avar 50) (.add (.var 7) (.lit (-1)))) (.add (.rem (.add (.sub (.sel (.avar 0) (.sel (.avar 1) (.var 7))) (.sel (.avar 0) (.sel (.avar 1) (.add (.var 7) (.lit (-1)))))) (.lit (2048))) (.lit (4096))) (.lit (2048))))), true), ((.le (.var 6) (.lit (99999))), true), ((.inr .i64 (.add (.var 7) (.lit (1)))), true)] := ⟨f_nle f1 rfl rfl, f_le f2 rfl rfl, f_in f3 rfl, f_le f4 rfl rfl, f_le f5 rfl rfl, f_nle f6 rfl rfl, f_ne f7 rfl rfl, f_ne f8 rfl rfl, f_in f9 rfl, f_le f10 rfl rfl, f_nle f11 rfl rfl, f_le f12 rfl rfl, f_le f13 rfl rfl, f_in f14 rfl, f_ne f15 rfl rfl, f_eq f16 rfl rfl, f_ne f17 rfl rfl, f_ne f18 rfl rfl, f_le f19 rfl rfl, f_nle f20 rfl rfl, f_in f21 rfl, f_in f22 rfl, f_nle f23 rfl rfl, f_in f24 rfl, f_in f25 rfl, f_nle f26 rfl rfl, f_in f27 rfl, f_le f28 rfl rfl, f_in f29 rfl, trivial⟩
                    refine again_runP (P := Try.prog) (K := noK) (fl := []) (B := 6) (l := [.mov 3 5]) (a' := ual1_1_a) (h' := ual1_1_h) (ρ' := rhoL W.heap.size ([R, C, (n : Int), (m : Int), (prR n s).1, (prR n s).2] ++ [(((L + 1) : Nat) : Int), (((k + 1) : Nat) : Int)]) [⟨A, n, flat1 s⟩, ⟨B, m, flat1 p⟩] [] [(fun j : Int => if j = (L : Int) then ((F ((k : Int) + (-1))) + ((Int.tmod (((flat1 s (flat1 p (k : Int))) - (flat1 s (flat1 p ((k : Int) + (-1))))) + 2048) 4096) + 2048)) else F j)]) (ds := [.int (.add (.var 6) (.lit (1))) (.var 6), .int (.add (.var 7) (.lit (1))) (.var 7), .row (.upd (.avar 50) (.var 6) (.add (.sel (.avar 50) (.add (.var 7) (.lit (-1)))) (.add (.rem (.add (.sub (.sel (.avar 0) (.sel (.avar 1) (.var 7))) (.sel (.avar 0) (.sel (.avar 1) (.add (.var 7) (.lit (-1)))))) (.lit (2048))) (.lit (4096))) (.lit (2048))))) (.avar 50), .int (.add (.var 6) (.lit (1))) (.var 6)]) (by kernel_rfl) noK_ok (facD_ok hF) (by kernel_rfl) (agree_list (l := [R, C, (n : Int), (m : Int), (prR n s).1, (prR n s).2]) (Nat.le_refl _) rfl) ⟨(show (((L : Int) + 1) : Int) = (((L + 1) : Nat) : Int) from by first | rfl | (push_cast; omega)), (show (((k : Int) + 1) : Int) = (((k + 1) : Nat) : Int) from by first | rfl | (push_cast; omega)), rfl, (show (((L : Int) + 1) : Int) = (((L + 1) : Nat) : Int) from by first | rfl | (push_cast; omega)), trivial⟩ hs2 fun A3 W3 hs3 => ⟨_, _, _, ⟨(L + 1), (k + 1), (fun j : Int => if j = (L : Int) then ((F ((k : Int) + (-1))) + ((Int.tmod (((flat1 s (flat1 p (k : Int))) - (flat1 s (flat1 p ((k : Int) + (-1))))) + 2048) 4096) + 2048)) else F j), ?_, rfl, .inr ⟨rfl, rfl, ?_⟩⟩, ?_, hs3⟩
                    · first
                        | (exfalso; omega)
                        | (refine ⟨by omega, by omega, fun j hj => ?_, fun j hj => ?_⟩
                           · rcases Nat.lt_or_ge j k with g | g
                             · exact hz j g
                             · obtain rfl : j = k := by omega
                               unfold acode nb
                               simp [f1, f2, f4, f5, f6, f7, f8, f10, f11, f12, f13, f15, f16, f17, f18, f19, f20, f23, f26, f28]
                               try omega
                           · dsimp only
                             rcases Nat.lt_or_ge j k with g | g
                             · rw [if_neg (by omega)]
                               exact hFe j g
                             · obtain rfl : j = k := by omega
                               rw [if_pos (by omega), aval_step hcond, hF1]
                               unfold stp wrp
                               simp only [f1, f2, f4, f5, f6, f7, f8, f10, f11, f12, f13, f15, f16, f17, f18, f19, f20, f23, f26, f28, if_true, if_false]
                               try omega)
                    · omega
                    · show m - ((k + 1 : Nat) : Int).toNat < m - ((k : Nat) : Int).toNat
                      omega
                 ·
                  have hF : Facts [((.le (.var 3) (.var 7)), false), ((.le (.lit (0)) (.var 7)), true), ((.inr .i64 (.add (.var 2) (.lit (-1)))), true), ((.le (.lit (0)) (.sel (.avar 1) (.var 7))), true), ((.le (.sel (.avar 1) (.var 7)) (.add (.var 2) (.lit (-1)))), true), ((.le (.var 2) (.sel (.avar 1) (.var 7))), false), ((.eq (.sel (.avar 0) (.sel (.avar 1) (.var 7))) (.lit (1000000000000))), false), ((.eq (.var 7) (.lit (0))), false), ((.inr .i64 (.add (.var 7) (.lit (-1)))), true), ((.le (.lit (0)) (.add (.var 7) (.lit (-1)))), true), ((.le (.var 3) (.add (.var 7) (.lit (-1)))), false), ((.le (.sel (.avar 1) (.add (.var 7) (.lit (-1)))) (.sel (.avar 1) (.var 7))), true), ((.le (.sel (.avar 1) (.var 7)) (.sel (.avar 1) (.add (.var 7) (.lit (-1))))), true), ((.inr .i64 (.sub (.sel (.avar 1) (.add (.var 7) (.lit (-1)))) (.sel (.avar 1) (.add (.var 7) (.lit (-1)))))), true), ((.eq (.sub (.sel (.avar 1) (.add (.var 7) (.lit (-1)))) (.sel (.avar 1) (.add (.var 7) (.lit (-1))))) (.var 1)), false), ((.eq (.sub (.sel (.avar 1) (.add (.var 7) (.lit (-1)))) (.sel (.avar 1) (.add (.var 7) (.lit (-1))))) (.lit (1))), false)] := ⟨f_nle f1 rfl rfl, f_le f2 rfl rfl, f_in f3 rfl, f_le f4 rfl rfl, f_le f5 rfl rfl, f_nle f6 rfl rfl, f_ne f7 rfl rfl, f_ne f8 rfl rfl, f_in f9 rfl, f_le f10 rfl rfl, f_nle f11 rfl rfl, f_le f12 rfl rfl, f_le f13 rfl rfl, f_in f14 rfl, f_ne f15 rfl rfl, f_ne f16 rfl rfl, trivial⟩
                  refine out_run (P := Try.prog) (K := noK) (fl := []) (by kernel_rfl) noK_ok (facD_ok hF) hs2 (fin_gen (r := (.tup [(.pl (.slice none 0 0)), (.pl (.int .i64 (14)))])) (h' := { bl := [some (.row (.avar 50) (.var 6) 3 1), some (.cells [(.si .i64 (.sel (.avar 0) (.sel (.avar 1) (.lit (0)))))] 3 false), some (.cells [(.pl (.int .i64 (0))), (.pl (.int .i64 (0)))] 28 false), some (.cells [(.si .i64 (.var 0)), (.si .i64 (.var 1)), (.fsl 0 1 (.lit (0)) (.var 2))] 40 false)], n := 4, base := 0, ch := [] }) (by kernel_rfl) fun V mb gb v W' hv hw hbel => ?_)
                  obtain rfl := rep_den _ (.tuple #[.slice none 0 0, .int .i64 14]) _ rfl hv
                  first
                    | (exfalso; omega)
                    | (have hc : acode C n (flat1 s) (flat1 p) k = 14 := by
                        unfold acode nb
                        simp [f1, f2, f4, f5, f6, f7, f8, f10, f11, f12, f13, f15, f16]
                        try omega
                       have e : aErr R C n s m p = 14 := by rw [aErr_in hw0 hm200, fw_hit (k := k) hz (by rw [hc]; decide) (by omega), hc]
                       exact ⟨.inl ⟨by rw [e]; decide, by rw [e]⟩, hbel⟩)
               ·
                have f14 : (-9223372036854775808 : Int) ≤ ((flat1 p (k : Int)) - (flat1 p ((k : Int) + (-1)))) ∧ ((flat1 p (k : Int)) - (flat1 p ((k : Int) + (-1)))) ≤ 9223372036854775807 := by
                 first | omega | (have h := mul_64 f1 f2 f3 f4; omega) | (have h := hob (by assumption) (by assumption) (by assumption); omega)
                by_cases f15 : ((flat1 p (k : Int)) - (flat1 p ((k : Int) + (-1)))) = C
                ·
                 have f16 : (0 ≤ (flat1 p ((k : Int) + (-1)))) := by
                  first | omega | (have h := mul_64 f1 f2 f3 f4; omega) | (have h := hob (by assumption) (by assumption) (by assumption); omega)
                 have f17 : ¬ ((n : Int) ≤ (flat1 p ((k : Int) + (-1)))) := by
                  first | omega | (have h := mul_64 f1 f2 f3 f4; omega) | (have h := hob (by assumption) (by assumption) (by assumption); omega)
                 have f18 : (-9223372036854775808 : Int) ≤ ((flat1 s (flat1 p (k : Int))) - (flat1 s (flat1 p ((k : Int) + (-1))))) ∧ ((flat1 s (flat1 p (k : Int))) - (flat1 s (flat1 p ((k : Int) + (-1))))) ≤ 9223372036854775807 := by
                  first | omega | (have h := mul_64 f1 f2 f3 f4; omega) | (have h := hob (by assumption) (by assumption) (by assumption); omega)
                 have f19 : (-9223372036854775808 : Int) ≤ (((flat1 s (flat1 p (k : Int))) - (flat1 s (flat1 p ((k : Int) + (-1))))) + 2048) ∧ (((flat1 s (flat1 p (k : Int))) - (flat1 s (flat1 p ((k : Int) + (-1))))) + 2048) ≤ 9223372036854775807 := by
                  first | omega | (have h := mul_64 f1 f2 f3 f4; omega) | (have h := hob (by assumption) (by assumption) (by assumption); omega)
                 by_cases f20 : 0 ≤ (Int.tmod (((flat1 s (flat1 p (k : Int))) - (flat1 s (flat1 p ((k : Int) + (-1))))) + 2048) 4096)
                 ·
                  have f21 : (-9223372036854775808 : Int) ≤ ((Int.tmod (((flat1 s (flat1 p (k : Int))) - (flat1 s (flat1 p ((k : Int) + (-1))))) + 2048) 4096) + (-2048)) ∧ ((Int.tmod (((flat1 s (flat1 p (k : Int))) - (flat1 s (flat1 p ((k : Int) + (-1))))) + 2048) 4096) + (-2048)) ≤ 9223372036854775807 := by
                   first | omega | (have h := mul_64 f1 f2 f3 f4; omega) | (have h := hob (by assumption) (by assumption) (by assumption); omega)
                  have f22 : ¬ ((L : Int) ≤ ((k : Int) + (-1))) := by
                   first | omega | (have h := mul_64 f1 f2 f3 f4; omega) | (have h := hob (by assumption) (by assumption) (by assumption); omega)
                  have f23 : (-9223372036854775808 : Int) ≤ ((F ((k : Int) + (-1))) + ((Int.tmod (((flat1 s (flat1 p (k : Int))) - (flat1 s (flat1 p ((k : Int) + (-1))))) + 2048) 4096) + (-2048))) ∧ ((F ((k : Int) + (-1))) + ((Int.tmod (((flat1 s (flat1 p (k : Int))) - (flat1 s (flat1 p ((k : Int) + (-1))))) + 2048) 4096) + (-2048))) ≤ 9223372036854775807 := by
                   first | omega | (have h := mul_64 f1 f2 f3 f4; omega) | (have h := hob (by assumption) (by assumption) (by assumption); omega)
                  have f24 : ((L : Int) ≤ 99999) := by
                   first | omega | (have h := mul_64 f1 f2 f3 f4; omega) | (have h := hob (by assumption) (by assumption) (by assumption); omega)
                  have f25 : (-9223372036854775808 : Int) ≤ ((k : Int) + 1) ∧ ((k : Int) + 1) ≤ 9223372036854775807 := by
                   first | omega | (have h := mul_64 f1 f2 f3 f4; omega) | (have h := hob (by assumption) (by assumption) (by assumption); omega)
                  have hF : Facts [((.le (.var 3) (.var 7)), false), ((.le (.lit (0)) (.var 7)), true), ((.inr .i64 (.add (.var 2) (.lit (-1)))), true), ((.le (.lit (0)) (.sel (.avar 1) (.var 7))), true), ((.le (.sel (.avar 1) (.var 7)) (.add (.var 2) (.lit (-1)))), true), ((.le (.var 2) (.sel (.avar 1) (.var 7))), false), ((.eq (.sel (.avar 0) (.sel (.avar 1) (.var 7))) (.lit (1000000000000))), false), ((.eq (.var 7) (.lit (0))), false), ((.inr .i64 (.add (.var 7) (.lit (-1)))), true), ((.le (.lit (0)) (.add (.var 7) (.lit (-1)))), true), ((.le (.var 3) (.add (.var 7) (.lit (-1)))), false), ((.le (.sel (.avar 1) (.add (.var 7) (.lit (-1)))) (.sel (.avar 1) (.var 7))), true), ((.le (.sel (.avar 1) (.var 7)) (.sel (.avar 1) (.add (.var 7) (.lit (-1))))), false), ((.inr .i64 (.sub (.sel (.avar 1) (.var 7)) (.sel (.avar 1) (.add (.var 7) (.lit (-1)))))), true), ((.eq (.sub (.sel (.avar 1) (.var 7)) (.sel (.avar 1) (.add (.var 7) (.lit (-1))))) (.var 1)), true), ((.le (.lit (0)) (.sel (.avar 1) (.add (.var 7) (.lit (-1))))), true), ((.le (.var 2) (.sel (.avar 1) (.add (.var 7) (.lit (-1))))), false), ((.inr .i64 (.sub (.sel (.avar 0) (.sel (.avar 1) (.var 7))) (.sel (.avar 0) (.sel (.avar 1) (.add (.var 7) (.lit (-1))))))), true), ((.inr .i64 (.add (.sub (.sel (.avar 0) (.sel (.avar 1) (.var 7))) (.sel (.avar 0) (.sel (.avar 1) (.add (.var 7) (.lit (-1)))))) (.lit (2048)))), true), ((.le (.lit (0)) (.rem (.add (.sub (.sel (.avar 0) (.sel (.avar 1) (.var 7))) (.sel (.avar 0) (.sel (.avar 1) (.add (.var 7) (.lit (-1)))))) (.lit (2048))) (.lit (4096)))), true), ((.inr .i64 (.add (.rem (.add (.sub (.sel (.avar 0) (.sel (.avar 1) (.var 7))) (.sel (.avar 0) (.sel (.avar 1) (.add (.var 7) (.lit (-1)))))) (.lit (2048))) (.lit (4096))) (.lit (-2048)))), true), ((.le (.var 6) (.add (.var 7) (.lit (-1)))), false), ((.inr .i64 (.add (.sel (.avar 50) (.add (.var 7) (.lit (-1)))) (.add (.rem (.add (.sub (.sel (.avar 0) (.sel (.avar 1) (.var 7))) (.sel (.avar 0) (.sel (.avar 1) (.add (.var 7) (.lit (-1)))))) (.lit (2048))) (.lit (4096))) (.lit (-2048))))), true), ((.le (.var 6) (.lit (99999))), true), ((.inr .i64 (.add (.var 7) (.lit (1)))), true)] := ⟨f_nle f1 rfl rfl, f_le f2 rfl rfl, f_in f3 rfl, f_le f4 rfl rfl, f_le f5 rfl rfl, f_nle f6 rfl rfl, f_ne f7 rfl rfl, f_ne f8 rfl rfl, f_in f9 rfl, f_le f10 rfl rfl, f_nle f11 rfl rfl, f_le f12 rfl rfl, f_nle f13 rfl rfl, f_in f14 rfl, f_eq f15 rfl rfl, f_le f16 rfl rfl, f_nle f17 rfl rfl, f_in f18 rfl, f_in f19 rfl, f_le f20 rfl rfl, f_in f21 rfl, f_nle f22 rfl rfl, f_in f23 rfl, f_le f24 rfl rfl, f_in f25 rfl, trivial⟩
                  refine again_runP (P := Try.prog) (K := noK) (fl := []) (B := 6) (l := [.mov 3 5]) (a' := ual1_1_a) (h' := ual1_1_h) (ρ' := rhoL W.heap.size ([R, C, (n : Int), (m : Int), (prR n s).1, (prR n s).2] ++ [(((L + 1) : Nat) : Int), (((k + 1) : Nat) : Int)]) [⟨A, n, flat1 s⟩, ⟨B, m, flat1 p⟩] [] [(fun j : Int => if j = (L : Int) then ((F ((k : Int) + (-1))) + ((Int.tmod (((flat1 s (flat1 p (k : Int))) - (flat1 s (flat1 p ((k : Int) + (-1))))) + 2048) 4096) + (-2048))) else F j)]) (ds := [.int (.add (.var 6) (.lit (1))) (.var 6), .int (.add (.var 7) (.lit (1))) (.var 7), .row (.upd (.avar 50) (.var 6) (.add (.sel (.avar 50) (.add (.var 7) (.lit (-1)))) (.add (.rem (.add (.sub (.sel (.avar 0) (.sel (.avar 1) (.var 7))) (.sel (.avar 0) (.sel (.avar 1) (.add (.var 7) (.lit (-1)))))) (.lit (2048))) (.lit (4096))) (.lit (-2048))))) (.avar 50), .int (.add (.var 6) (.lit (1))) (.var 6)]) (by kernel_rfl) noK_ok (facD_ok hF) (by kernel_rfl) (agree_list (l := [R, C, (n : Int), (m : Int), (prR n s).1, (prR n s).2]) (Nat.le_refl _) rfl) ⟨(show (((L : Int) + 1) : Int) = (((L + 1) : Nat) : Int) from by first | rfl | (push_cast; omega)), (show (((k : Int) + 1) : Int) = (((k + 1) : Nat) : Int) from by first | rfl | (push_cast; omega)), rfl, (show (((L : Int) + 1) : Int) = (((L + 1) : Nat) : Int) from by first | rfl | (push_cast; omega)), trivial⟩ hs2 fun A3 W3 hs3 => ⟨_, _, _, ⟨(L + 1), (k + 1), (fun j : Int => if j = (L : Int) then ((F ((k : Int) + (-1))) + ((Int.tmod (((flat1 s (flat1 p (k : Int))) - (flat1 s (flat1 p ((k : Int) + (-1))))) + 2048) 4096) + (-2048))) else F j), ?_, rfl, .inr ⟨rfl, rfl, ?_⟩⟩, ?_, hs3⟩
                  · first
                      | (exfalso; omega)
                      | (refine ⟨by omega, by omega, fun j hj => ?_, fun j hj => ?_⟩
                         · rcases Nat.lt_or_ge j k with g | g
                           · exact hz j g
                           · obtain rfl : j = k := by omega
                             unfold acode nb
                             simp [f1, f2, f4, f5, f6, f7, f8, f10, f11, f12, f13, f15, f16, f17, f20, f22, f24]
                             try omega
                         · dsimp only
                           rcases Nat.lt_or_ge j k with g | g
                           · rw [if_neg (by omega)]
                             exact hFe j g
                           · obtain rfl : j = k := by omega
                             rw [if_pos (by omega), aval_step hcond, hF1]
                             unfold stp wrp
                             simp only [f1, f2, f4, f5, f6, f7, f8, f10, f11, f12, f13, f15, f16, f17, f20, f22, f24, if_true, if_false]
                             try omega)
                  · omega
                  · show m - ((k + 1 : Nat) : Int).toNat < m - ((k : Nat) : Int).toNat
                    omega
                 ·
                  have f21 : (-9223372036854775808 : Int) ≤ ((Int.tmod (((flat1 s (flat1 p (k : Int))) - (flat1 s (flat1 p ((k : Int) + (-1))))) + 2048) 4096) + 4096) ∧ ((Int.tmod (((flat1 s (flat1 p (k : Int))) - (flat1 s (flat1 p ((k : Int) + (-1))))) + 2048) 4096) + 4096) ≤ 9223372036854775807 := by
                   first | omega | (have h := mul_64 f1 f2 f3 f4; omega) | (have h := hob (by assumption) (by assumption) (by assumption); omega)
                  have f22 : (-9223372036854775808 : Int) ≤ ((Int.tmod (((flat1 s (flat1 p (k : Int))) - (flat1 s (flat1 p ((k : Int) + (-1))))) + 2048) 4096) + 2048) ∧ ((Int.tmod (((flat1 s (flat1 p (k : Int))) - (flat1 s (flat1 p ((k : Int) + (-1))))) + 2048) 4096) + 2048) ≤ 9223372036854775807 := by
                   first | omega | (have h := mul_64 f1 f2 f3 f4; omega) | (have h := hob (by assumption) (by assumption) (by assumption); omega)
                  have f23 : ¬ ((L : Int) ≤ ((k : Int) + (-1))) := by
                   first | omega | (have h := mul_64 f1 f2 f3 f4; omega) | (have h := hob (by assumption) (by assumption) (by assumption); omega)
                  have f24 : (-9223372036854775808 : Int) ≤ ((F ((k : Int) + (-1))) + ((Int.tmod (((flat1 s (flat1 p (k : Int))) - (flat1 s (flat1 p ((k : Int) + (-1))))) + 2048) 4096) + 2048)) ∧ ((F ((k : Int) + (-1))) + ((Int.tmod (((flat1 s (flat1 p (k : Int))) - (flat1 s (flat1 p ((k : Int) + (-1))))) + 2048) 4096) + 2048)) ≤ 9223372036854775807 := by
                   first | omega | (have h := mul_64 f1 f2 f3 f4; omega) | (have h := hob (by assumption) (by assumption) (by assumption); omega)
                  have f25 : ((L : Int) ≤ 99999) := by
                   first | omega | (have h := mul_64 f1 f2 f3 f4; omega) | (have h := hob (by assumption) (by assumption) (by assumption); omega)
                  have f26 : (-9223372036854775808 : Int) ≤ ((k : Int) + 1) ∧ ((k : Int) + 1) ≤ 9223372036854775807 := by
                   first | omega | (have h := mul_64 f1 f2 f3 f4; omega) | (have h := hob (by assumption) (by assumption) (by assumption); omega)
                  have hF : Facts [((.le (.var 3) (.var 7)), false), ((.le (.lit (0)) (.var 7)), true), ((.inr .i64 (.add (.var 2) (.lit (-1)))), true), ((.le (.lit (0)) (.sel (.avar 1) (.var 7))), true), ((.le (.sel (.avar 1) (.var 7)) (.add (.var 2) (.lit (-1)))), true), ((.le (.var 2) (.sel (.avar 1) (.var 7))), false), ((.eq (.sel (.avar 0) (.sel (.avar 1) (.var 7))) (.lit (1000000000000))), false), ((.eq (.var 7) (.lit (0))), false), ((.inr .i64 (.add (.var 7) (.lit (-1)))), true), ((.le (.lit (0)) (.add (.var 7) (.lit (-1)))), true), ((.le (.var 3) (.add (.var 7) (.lit (-1)))), false), ((.le (.sel (.avar 1) (.add (.var 7) (.lit (-1)))) (.sel (.avar 1) (.var 7))), true), ((.le (.sel (.avar 1) (.var 7)) (.sel (.avar 1) (.add (.var 7) (.lit (-1))))), false), ((.inr .i64 (.sub (.sel (.avar 1) (.var 7)) (.sel (.avar 1) (.add (.var 7) (.lit (-1)))))), true), ((.eq (.sub (.sel (.avar 1) (.var 7)) (.sel (.avar 1) (.add (.var 7) (.lit (-1))))) (.var 1)), true), ((.le (.lit (0)) (.sel (.avar 1) (.add (.var 7) (.lit (-1))))), true), ((.le (.var 2) (.sel (.avar 1) (.add (.var 7) (.lit (-1))))), false), ((.inr .i64 (.sub (.sel (.avar 0) (.sel (.avar 1) (.var 7))) (.sel (.avar 0) (.sel (.avar 1) (.add (.var 7) (.lit (-1))))))), true), ((.inr .i64 (.add (.sub (.sel (.avar 0) (.sel (.avar 1) (.var 7))) (.sel (.avar 0) (.sel (.avar 1) (.add (.var 7) (.lit (-1)))))) (.lit (2048)))), true), ((.le (.lit (0)) (.rem (.add (.sub (.sel (.avar 0) (.sel (.avar 1) (.var 7))) (.sel (.avar 0) (.sel (.avar 1) (.add (.var 7) (.lit (-1)))))) (.lit (2048))) (.lit (4096)))), false), ((.inr .i64 (.add (.rem (.add (.sub (.sel (.avar 0) (.sel (.avar 1) (.var 7))) (.sel (.avar 0) (.sel (.avar 1) (.add (.var 7) (.lit (-1)))))) (.lit (2048))) (.lit (4096))) (.lit (4096)))), true), ((.inr .i64 (.add (.rem (.add (.sub (.sel (.avar 0) (.sel (.avar 1) (.var 7))) (.sel (.avar 0) (.sel (.avar 1) (.add (.var 7) (.lit (-1)))))) (.lit (2048))) (.lit (4096))) (.lit (2048)))), true), ((.le (.var 6) (.add (.var 7) (.lit (-1)))), false), ((.inr .i64 (.add (.sel (.avar 50) (.add (.var 7) (.lit (-1)))) (.add (.rem (.add (.sub (.sel (.avar 0) (.sel (.avar 1) (.var 7))) (.sel (.avar 0) (.sel (.avar 1) (.add (.var 7) (.lit (-1)))))) (.lit (2048))) (.lit (4096))) (.lit (2048))))), true), ((.le (.var 6) (.lit (99999))), true), ((.inr .i64 (.add (.var 7) (.lit (1)))), true)] := ⟨f_nle f1 rfl rfl, f_le f2 rfl rfl, f_in f3 rfl, f_le f4 rfl rfl, f_le f5 rfl rfl, f_nle f6 rfl rfl, f_ne f7 rfl rfl, f_ne f8 rfl rfl, f_in f9 rfl, f_le f10 rfl rfl, f_nle f11 rfl rfl, f_le f12 rfl rfl, f_nle f13 rfl rfl, f_in f14 rfl, f_eq f15 rfl rfl, f_le f16 rfl rfl, f_nle f17 rfl rfl, f_in f18 rfl, f_in f19 rfl, f_nle f20 rfl rfl, f_in f21 rfl, f_in f22 rfl, f_nle f23 rfl rfl, f_in f24 rfl, f_le f25 rfl rfl, f_in f26 rfl, trivial⟩
                  refine again_runP (P := Try.prog) (K := noK) (fl := []) (B := 6) (l := [.mov 3 5]) (a' := ual1_1_a) (h' := ual1_1_h) (ρ' := rhoL W.heap.size ([R, C, (n : Int), (m : Int), (prR n s).1, (prR n s).2] ++ [(((L + 1) : Nat) : Int), (((k + 1) : Nat) : Int)]) [⟨A, n, flat1 s⟩, ⟨B, m, flat1 p⟩] [] [(fun j : Int => if j = (L : Int) then ((F ((k : Int) + (-1))) + ((Int.tmod (((flat1 s (flat1 p (k : Int))) - (flat1 s (flat1 p ((k : Int) + (-1))))) + 2048) 4096) + 2048)) else F j)]) (ds := [.int (.add (.var 6) (.lit (1))) (.var 6), .int (.add (.var 7) (.lit (1))) (.var 7), .row (.upd (.avar 50) (.var 6) (.add (.sel (.avar 50) (.add (.var 7) (.lit (-1)))) (.add (.rem (.add (.sub (.sel (.avar 0) (.sel (.avar 1) (.var 7))) (.sel (.avar 0) (.sel (.avar 1) (.add (.var 7) (.lit (-1)))))) (.lit (2048))) (.lit (4096))) (.lit (2048))))) (.avar 50), .int (.add (.var 6) (.lit (1))) (.var 6)]) (by kernel_rfl) noK_ok (facD_ok hF) (by kernel_rfl) (agree_list (l := [R, C, (n : Int), (m : Int), (prR n s).1, (prR n s).2]) (Nat.le_refl _) rfl) ⟨(show (((L : Int) + 1) : Int) = (((L + 1) : Nat) : Int) from by first | rfl | (push_cast; omega)), (show (((k : Int) + 1) : Int) = (((k + 1) : Nat) : Int) from by first | rfl | (push_cast; omega)), rfl, (show (((L : Int) + 1) : Int) = (((L + 1) : Nat) : Int) from by first | rfl | (push_cast; omega)), trivial⟩ hs2 fun A3 W3 hs3 => ⟨_, _, _, ⟨(L + 1), (k + 1), (fun j : Int => if j = (L : Int) then ((F ((k : Int) + (-1))) + ((Int.tmod (((flat1 s (flat1 p (k : Int))) - (flat1 s (flat1 p ((k : Int) + (-1))))) + 2048) 4096) + 2048)) else F j), ?_, rfl, .inr ⟨rfl, rfl, ?_⟩⟩, ?_, hs3⟩
                  · first
                      | (exfalso; omega)
                      | (refine ⟨by omega, by omega, fun j hj => ?_, fun j hj => ?_⟩
                         · rcases Nat.lt_or_ge j k with g | g
                           · exact hz j g
                           · obtain rfl : j = k := by omega
                             unfold acode nb
                             simp [f1, f2, f4, f5, f6, f7, f8, f10, f11, f12, f13, f15, f16, f17, f20, f23, f25]
                             try omega
                         · dsimp only
                           rcases Nat.lt_or_ge j k with g | g
                           · rw [if_neg (by omega)]
                             exact hFe j g
                           · obtain rfl : j = k := by omega
                             rw [if_pos (by omega), aval_step hcond, hF1]
                             unfold stp wrp
                             simp only [f1, f2, f4, f5, f6, f7, f8, f10, f11, f12, f13, f15, f16, f17, f20, f23, f25, if_true, if_false]
                             try omega)
                  · omega
                  · show m - ((k + 1 : Nat) : Int).toNat < m - ((k : Nat) : Int).toNat
                    omega
                ·
                 by_cases f16 : ((flat1 p (k : Int)) - (flat1 p ((k : Int) + (-1)))) = 1
                 ·
                  have f17 : ¬ (C = 0) := by
                   first | omega | (have h := mul_64 f1 f2 f3 f4; omega) | (have h := hob (by assumption) (by assumption) (by assumption); omega)
                  by_cases f18 : (Int.tmod (flat1 p (k : Int)) C) = 0
                  ·
                   have hF : Facts [((.le (.var 3) (.var 7)), false), ((.le (.lit (0)) (.var 7)), true), ((.inr .i64 (.add (.var 2) (.lit (-1)))), true), ((.le (.lit (0)) (.sel (.avar 1) (.var 7))), true), ((.le (.sel (.avar 1) (.var 7)) (.add (.var 2) (.lit (-1)))), true), ((.le (.var 2) (.sel (.avar 1) (.var 7))), false), ((.eq (.sel (.avar 0) (.sel (.avar 1) (.var 7))) (.lit (1000000000000))), false), ((.eq (.var 7) (.lit (0))), false), ((.inr .i64 (.add (.var 7) (.lit (-1)))), true), ((.le (.lit (0)) (.add (.var 7) (.lit (-1)))), true), ((.le (.var 3) (.add (.var 7) (.lit (-1)))), false), ((.le (.sel (.avar 1) (.add (.var 7) (.lit (-1)))) (.sel (.avar 1) (.var 7))), true), ((.le (.sel (.avar 1) (.var 7)) (.sel (.avar 1) (.add (.var 7) (.lit (-1))))), false), ((.inr .i64 (.sub (.sel (.avar 1) (.var 7)) (.sel (.avar 1) (.add (.var 7) (.lit (-1)))))), true), ((.eq (.sub (.sel (.avar 1) (.var 7)) (.sel (.avar 1) (.add (.var 7) (.lit (-1))))) (.var 1)), false), ((.eq (.sub (.sel (.avar 1) (.var 7)) (.sel (.avar 1) (.add (.var 7) (.lit (-1))))) (.lit (1))), true), ((.eq (.var 1) (.lit (0))), false), ((.eq (.rem (.sel (.avar 1) (.var 7)) (.var 1)) (.lit (0))), true)] := ⟨f_nle f1 rfl rfl, f_le f2 rfl rfl, f_in f3 rfl, f_le f4 rfl rfl, f_le f5 rfl rfl, f_nle f6 rfl rfl, f_ne f7 rfl rfl, f_ne f8 rfl rfl, f_in f9 rfl, f_le f10 rfl rfl, f_nle f11 rfl rfl, f_le f12 rfl rfl, f_nle f13 rfl rfl, f_in f14 rfl, f_ne f15 rfl rfl, f_eq f16 rfl rfl, f_ne f17 rfl rfl, f_eq f18 rfl rfl, trivial⟩
                   refine out_run (P := Try.prog) (K := noK) (fl := []) (by kernel_rfl) noK_ok (facD_ok hF) hs2 (fin_gen (r := (.tup [(.pl (.slice none 0 0)), (.pl (.int .i64 (14)))])) (h' := { bl := [some (.row (.avar 50) (.var 6) 3 1), some (.cells [(.si .i64 (.sel (.avar 0) (.sel (.avar 1) (.lit (0)))))] 3 false), some (.cells [(.pl (.int .i64 (0))), (.pl (.int .i64 (0)))] 28 false), some (.cells [(.si .i64 (.var 0)), (.si .i64 (.var 1)), (.fsl 0 1 (.lit (0)) (.var 2))] 40 false)], n := 4, base := 0, ch := [] }) (by kernel_rfl) fun V mb gb v W' hv hw hbel => ?_)
                   obtain rfl := rep_den _ (.tuple #[.slice none 0 0, .int .i64 14]) _ rfl hv
                   first
                     | (exfalso; omega)
                     | (have hc : acode C n (flat1 s) (flat1 p) k = 14 := by
                         unfold acode nb
                         simp [f1, f2, f4, f5, f6, f7, f8, f10, f11, f12, f13, f15, f16, f17, f18]
                         try omega
                        have e : aErr R C n s m p = 14 := by rw [aErr_in hw0 hm200, fw_hit (k := k) hz (by rw [hc]; decide) (by omega), hc]
                        exact ⟨.inl ⟨by rw [e]; decide, by rw [e]⟩, hbel⟩)
                  ·
                   have f19 : (0 ≤ (flat1 p ((k : Int) + (-1)))) := by
                    first | omega | (have h := mul_64 f1 f2 f3 f4; omega) | (have h := hob (by assumption) (by assumption) (by assumption); omega)
                   have f20 : ¬ ((n : Int) ≤ (flat1 p ((k : Int) + (-1)))) := by
                    first | omega | (have h := mul_64 f1 f2 f3 f4; omega) | (have h := hob (by assumption) (by assumption) (by assumption); omega)
                   have f21 : (-9223372036854775808 : Int) ≤ ((flat1 s (flat1 p (k : Int))) - (flat1 s (flat1 p ((k : Int) + (-1))))) ∧ ((flat1 s (flat1 p (k : Int))) - (flat1 s (flat1 p ((k : Int) + (-1))))) ≤ 9223372036854775807 := by
                    first | omega | (have h := mul_64 f1 f2 f3 f4; omega) | (have h := hob (by assumption) (by assumption) (by assumption); omega)
                   have f22 : (-9223372036854775808 : Int) ≤ (((flat1 s (flat1 p (k : Int))) - (flat1 s (flat1 p ((k : Int) + (-1))))) + 2048) ∧ (((flat1 s (flat1 p (k : Int))) - (flat1 s (flat1 p ((k : Int) + (-1))))) + 2048) ≤ 9223372036854775807 := by
                    first | omega | (have h := mul_64 f1 f2 f3 f4; omega) | (have h := hob (by assumption) (by assumption) (by assumption); omega)
                   by_cases f23 : 0 ≤ (Int.tmod (((flat1 s (flat1 p (k : Int))) - (flat1 s (flat1 p ((k : Int) + (-1))))) + 2048) 4096)
                   ·
                    have f24 : (-9223372036854775808 : Int) ≤ ((Int.tmod (((flat1 s (flat1 p (k : Int))) - (flat1 s (flat1 p ((k : Int) + (-1))))) + 2048) 4096) + (-2048)) ∧ ((Int.tmod (((flat1 s (flat1 p (k : Int))) - (flat1 s (flat1 p ((k : Int) + (-1))))) + 2048) 4096) + (-2048)) ≤ 9223372036854775807 := by
                     first | omega | (have h := mul_64 f1 f2 f3 f4; omega) | (have h := hob (by assumption) (by assumption) (by assumption); omega)
                    have f25 : ¬ ((L : Int) ≤ ((k : Int) + (-1))) := by
                     first | omega | (have h := mul_64 f1 f2 f3 f4; omega) | (have h := hob (by assumption) (by assumption) (by assumption); omega)
                    have f26 : (-9223372036854775808 : Int) ≤ ((F ((k : Int) + (-1))) + ((Int.tmod (((flat1 s (flat1 p (k : Int))) - (flat1 s (flat1 p ((k : Int) + (-1))))) + 2048) 4096) + (-2048))) ∧ ((F ((k : Int) + (-1))) + ((Int.tmod (((flat1 s (flat1 p (k : Int))) - (flat1 s (flat1 p ((k : Int) + (-1))))) + 2048) 4096) + (-2048))) ≤ 9223372036854775807 := by
                     first | omega | (have h := mul_64 f1 f2 f3 f4; omega) | (have h := hob (by assumption) (by assumption) (by assumption); omega)
                    have f27 : ((L : Int) ≤ 99999) := by
                     first | omega | (have h := mul_64 f1 f2 f3 f4; omega) | (have h := hob (by assumption) (by assumption) (by assumption); omega)
                    have f28 : (-9223372036854775808 : Int) ≤ ((k : Int) + 1) ∧ ((k : Int) + 1) ≤ 9223372036854775807 := by
                     first | omega | (have h := mul_64 f1 f2 f3 f4; omega) | (have h := hob (by assumption) (by assumption) (by assumption); omega)
                    have hF : Facts [((.le (.var 3) (.var 7)), false), ((.le (.lit (0)) (.var 7)), true), ((.inr .i64 (.add (.var 2) (.lit (-1)))), true), ((.le (.lit (0)) (.sel (.avar 1) (.var 7))), true), ((.le (.sel (.avar 1) (.var 7)) (.add (.var 2) (.lit (-1)))), true), ((.le (.var 2) (.sel (.avar 1) (.var 7))), false), ((.eq (.sel (.avar 0) (.sel (.avar 1) (.var 7))) (.lit (1000000000000))), false), ((.eq (.var 7) (.lit (0))), false), ((.inr .i64 (.add (.var 7) (.lit (-1)))), true), ((.le (.lit (0)) (.add (.var 7) (.lit (-1)))), true), ((.le (.var 3) (.add (.var 7) (.lit (-1)))), false), ((.le (.sel (.avar 1) (.add (.var 7) (.lit (-1)))) (.sel (.avar 1) (.var 7))), true), ((.le (.sel (.avar 1) (.var 7)) (.sel (.avar 1) (.add (.var 7) (.lit (-1))))), false), ((.inr .i64 (.sub (.sel (.avar 1) (.var 7)) (.sel (.avar 1) (.add (.var 7) (.lit (-1)))))), true), ((.eq (.sub (.sel (.avar 1) (.var 7)) (.sel (.avar 1) (.add (.var 7) (.lit (-1))))) (.var 1)), false), ((.eq (.sub (.sel (.avar 1) (.var 7)) (.sel (.avar 1) (.add (.var 7) (.lit (-1))))) (.lit (1))), true), ((.eq (.var 1) (.lit (0))), false), ((.eq (.rem (.sel (.avar 1) (.var 7)) (.var 1)) (.lit (0))), false), ((.le (.lit (0)) (.sel (.avar 1) (.add (.var 7) (.lit (-1))))), true), ((.le (.var 2) (.sel (.avar 1) (.add (.var 7) (.lit (-1))))), false), ((.inr .i64 (.sub (.sel (.avar 0) (.sel (.avar 1) (.var 7))) (.sel (.avar 0) (.sel (.avar 1) (.add (.var 7) (.lit (-1))))))), true), ((.inr .i64 (.add (.sub (.sel (.avar 0) (.sel (.avar 1) (.var 7))) (.sel (.avar 0) (.sel (.avar 1) (.add (.var 7) (.lit (-1)))))) (.lit (2048)))), true), ((.le (.lit (0)) (.rem (.add (.sub (.sel (.avar 0) (.sel (.avar 1) (.var 7))) (.sel (.avar 0) (.sel (.avar 1) (.add (.var 7) (.lit (-1)))))) (.lit (2048))) (.lit (4096)))), true), ((.inr .i64 (.add (.rem (.add (.sub (.sel (.avar 0) (.sel (.avar 1) (.var 7))) (.sel (.avar 0) (.sel (.avar 1) (.add (.var 7) (.lit (-1)))))) (.lit (2048))) (.lit (4096))) (.lit (-2048)))), true), ((.le (.var 6) (.add (.var 7) (.lit (-1)))), false), ((.inr .i64 (.add (.sel (.avar 50) (.add (.var 7) (.lit (-1)))) (.add (.rem (.add (.sub (.sel (.avar 0) (.sel (.avar 1) (.var 7))) (.sel (.avar 0) (.sel (.avar 1) (.add (.var 7) (.lit (-1)))))) (.lit (2048))) (.lit (4096))) (.lit (-2048))))), true), ((.le (.var 6) (.lit (99999))), true), ((.inr .i64 (.add (.var 7) (.lit (1)))), true)] := ⟨f_nle f1 rfl rfl, f_le f2 rfl rfl, f_in f3 rfl, f_le f4 rfl rfl, f_le f5 rfl rfl, f_nle f6 rfl rfl, f_ne f7 rfl rfl, f_ne f8 rfl rfl, f_in f9 rfl, f_le f10 rfl rfl, f_nle f11 rfl rfl, f_le f12 rfl rfl, f_nle f13 rfl rfl, f_in f14 rfl, f_ne f15 rfl rfl, f_eq f16 rfl rfl, f_ne f17 rfl rfl, f_ne f18 rfl rfl, f_le f19 rfl rfl, f_nle f20 rfl rfl, f_in f21 rfl, f_in f22 rfl, f_le f23 rfl rfl, f_in f24 rfl, f_nle f25 rfl rfl, f_in f26 rfl, f_le f27 rfl rfl, f_in f28 rfl, trivial⟩
                    refine again_runP (P := Try.prog) (K := noK) (fl := []) (B := 6) (l := [.mov 3 5]) (a' := ual1_1_a) (h' := ual1_1_h) (ρ' := rhoL W.heap.size ([R, C, (n : Int), (m : Int), (prR n s).1, (prR n s).2] ++ [(((L + 1) : Nat) : Int), (((k + 1) : Nat) : Int)]) [⟨A, n, flat1 s⟩, ⟨B, m, flat1 p⟩] [] [(fun j : Int => if j = (L : Int) then ((F ((k : Int) + (-1))) + ((Int.tmod (((flat1 s (flat1 p (k : Int))) - (flat1 s (flat1 p ((k : Int) + (-1))))) + 2048) 4096) + (-2048))) else F j)]) (ds := [.int (.add (.var 6) (.lit (1))) (.var 6), .int (.add (.var 7) (.lit (1))) (.var 7), .row (.upd (.avar 50) (.var 6) (.add (.sel (.avar 50) (.add (.var 7) (.lit (-1)))) (.add (.rem (.add (.sub (.sel (.avar 0) (.sel (.avar 1) (.var 7))) (.sel (.avar 0) (.sel (.avar 1) (.add (.var 7) (.lit (-1)))))) (.lit (2048))) (.lit (4096))) (.lit (-2048))))) (.avar 50), .int (.add (.var 6) (.lit (1))) (.var 6)]) (by kernel_rfl) noK_ok (facD_ok hF) (by kernel_rfl) (agree_list (l := [R, C, (n : Int), (m : Int), (prR n s).1, (prR n s).2]) (Nat.le_refl _) rfl) ⟨(show (((L : Int) + 1) : Int) = (((L + 1) : Nat) : Int) from by first | rfl | (push_cast; omega)), (show (((k : Int) + 1) : Int) = (((k + 1) : Nat) : Int) from by first | rfl | (push_cast; omega)), rfl, (show (((L : Int) + 1) : Int) = (((L + 1) : Nat) : Int) from by first | rfl | (push_cast; omega)), trivial⟩ hs2 fun A3 W3 hs3 => ⟨_, _, _, ⟨(L + 1), (k + 1), (fun j : Int => if j = (L : Int) then ((F ((k : Int) + (-1))) + ((Int.tmod (((flat1 s (flat1 p (k : Int))) - (flat1 s (flat1 p ((k : Int) + (-1))))) + 2048) 4096) + (-2048))) else F j), ?_, rfl, .inr ⟨rfl, rfl, ?_⟩⟩, ?_, hs3⟩
                    · first
                        | (exfalso; omega)
                        | (refine ⟨by omega, by omega, fun j hj => ?_, fun j hj => ?_⟩
                           · rcases Nat.lt_or_ge j k with g | g
                             · exact hz j g
                             · obtain rfl : j = k := by omega
                               unfold acode nb
                               simp [f1, f2, f4, f5, f6, f7, f8, f10, f11, f12, f13, f15, f16, f17, f18, f19, f20, f23, f25, f27]
                               try omega
                           · dsimp only
                             rcases Nat.lt_or_ge j k with g | g
                             · rw [if_neg (by omega)]
                               exact hFe j g
                             · obtain rfl : j = k := by omega
                               rw [if_pos (by omega), aval_step hcond, hF1]
                               unfold stp wrp
                               simp only [f1, f2, f4, f5, f6, f7, f8, f10, f11, f12, f13, f15, f16, f17, f18, f19, f20, f23, f25, f27, if_true, if_false]
                               try omega)
                    · omega
                    · show m - ((k + 1 : Nat) : Int).toNat < m - ((k : Nat) : Int).toNat
                      omega
                   ·
                    have f24 : (-9223372036854775808 : Int) ≤ ((Int.tmod (((flat1 s (flat1 p (k : Int))) - (flat1 s (flat1 p ((k : Int) + (-1))))) + 2048) 4096) + 4096) ∧ ((Int.tmod (((flat1 s (flat1 p (k : Int))) - (flat1 s (flat1 p ((k : Int) + (-1))))) + 2048) 4096) + 4096) ≤ 9223372036854775807 := by
                     first | omega | (have h := mul_64 f1 f2 f3 f4; omega) | (have h := hob (by assumption) (by assumption) (by assumption); omega)
                    have f25 : (-9223372036854775808 : Int) ≤ ((Int.tmod (((flat1 s (flat1 p (k : Int))) - (flat1 s (flat1 p ((k : Int) + (-1))))) + 2048) 4096) + 2048) ∧ ((Int.tmod (((flat1 s (flat1 p (k : Int))) - (flat1 s (flat1 p ((k : Int) + (-1))))) + 2048) 4096) + 2048) ≤ 9223372036854775807 := by
                     first | omega | (have h := mul_64 f1 f2 f3 f4; omega) | (have h := hob (by assumption) (by assumption) (by assumption); omega)
                    have f26 : ¬ ((L : Int) ≤ ((k : Int) + (-1))) := by
                     first | omega | (have h := mul_64 f1 f2 f3 f4; omega) | (have h := hob (by assumption) (by assumption) (by assumption); omega)
                    have f27 : (-9223372036854775808 : Int) ≤ ((F ((k : Int) + (-1))) + ((Int.tmod (((flat1 s (flat1 p (k : Int))) - (flat1 s (flat1 p ((k : Int) + (-1))))) + 2048) 4096) + 2048)) ∧ ((F ((k : Int) + (-1))) + ((Int.tmod (((flat1 s (flat1 p (k : Int))) - (flat1 s (flat1 p ((k : Int) + (-1))))) + 2048) 4096) + 2048)) ≤ 9223372036854775807 := by
                     first | omega | (have h := mul_64 f1 f2 f3 f4; omega) | (have h := hob (by assumption) (by assumption) (by assumption); omega)
                    have f28 : ((L : Int) ≤ 99999) := by
                     first | omega | (have h := mul_64 f1 f2 f3 f4; omega) | (have h := hob (by assumption) (by assumption) (by assumption); omega)
                    have f29 : (-9223372036854775808 : Int) ≤ ((k : Int) + 1) ∧ ((k : Int) + 1) ≤ 9223372036854775807 := by
                     first | omega | (have h := mul_64 f1 f2 f3 f4; omega) | (have h := hob (by assumption) (by assumption) (by assumption); omega)
                    have hF : Facts [((.le (.var 3) (.var 7)), false), ((.le (.lit (0)) (.var 7)), true), ((.inr .i64 (.add (.var 2) (.lit (-1)))), true), ((.le (.lit (0)) (.sel (.avar 1) (.var 7))), true), ((.le (.sel (.avar 1) (.var 7)) (.add (.var 2) (.lit (-1)))), true), ((.le (.var 2) (.sel (.avar 1) (.var 7))), false), ((.eq (.sel (.avar 0) (.sel (.avar 1) (.var 7))) (.lit (1000000000000))), false), ((.eq (.var 7) (.lit (0))), false), ((.inr .i64 (.add (.var 7) (.lit (-1)))), true), ((.le (.lit (0)) (.add (.var 7) (.lit (-1)))), true), ((.le (.var 3) (.add (.var 7) (.lit (-1)))), false), ((.le (.sel (.avar 1) (.add (.var 7) (.lit (-1)))) (.sel (.avar 1) (.var 7))), true), ((.le (.sel (.avar 1) (.var 7)) (.sel (.avar 1) (.add (.var 7) (.lit (-1))))), false), ((.inr .i64 (.sub (.sel (.avar 1) (.var 7)) (.sel (.avar 1) (.add (.var 7) (.lit (-1)))))), true), ((.eq (.sub (.sel (.avar 1) (.var 7)) (.sel (.avar 1) (.add (.var 7) (.lit (-1))))) (.var 1)), false), ((.eq (.sub (.sel (.avar 1) (.var 7)) (.sel (.avar 1) (.add (.var 7) (.lit (-1))))) (.lit (1))), true), ((.eq (.var 1) (.lit (0))), false), ((.eq (.rem (.sel (.avar 1) (.var 7)) (.var 1)) (.lit (0))), false), ((.le (.lit (0)) (.sel (.avar 1) (.add (.var 7) (.lit (-1))))), true), ((.le (.var 2) (.sel (.avar 1) (.add (.var 7) (.lit (-1))))), false), ((.inr .i64 (.sub (.sel (.avar 0) (.sel (.avar 1) (.var 7))) (.sel (.avar 0) (.sel (.avar 1) (.add (.var 7) (.lit (-1))))))), true), ((.inr .i64 (.add (.sub (.sel (.avar 0) (.sel (.avar 1) (.var 7))) (.sel (.avar 0) (.sel (.avar 1) (.add (.var 7) (.lit (-1)))))) (.lit (2048)))), true), ((.le (.lit (0)) (.rem (.add (.sub (.sel (.avar 0) (.sel (.avar 1) (.var 7))) (.sel (.avar 0) (.sel (.avar 1) (.add (.var 7) (.lit (-1)))))) (.lit (2048))) (.lit (4096)))), false), ((.inr .i64 (.add (.rem (.add (.sub (.sel (.avar 0) (.sel (.avar 1) (.var 7))) (.sel (.avar 0) (.sel (.avar 1) (.add (.var 7) (.lit (-1)))))) (.lit (2048))) (.lit (4096))) (.lit (4096)))), true), ((.inr .i64 (.add (.rem (.add (.sub (.sel (.avar 0) (.sel (.avar 1) (.var 7))) (.sel (.avar 0) (.sel (.avar 1) (.add (.var 7) (.lit (-1)))))) (.lit (2048))) (.lit (4096))) (.lit (2048)))), true), ((.le (.var 6) (.add (.var 7) (.lit (-1)))), false), ((.inr .i64 (.add (.sel (.avar 50) (.add (.var 7) (.lit (-1)))) (.add (.rem (.add (.sub (.sel (.avar 0) (.sel (.avar 1) (.var 7))) (.sel (.avar 0) (.sel (.avar 1) (.add (.var 7) (.lit (-1)))))) (.lit (2048))) (.lit (4096))) (.lit (2048))))), true), ((.le (.var 6) (.lit (99999))), true), ((.inr .i64 (.add (.var 7) (.lit (1)))), true)] := ⟨f_nle f1 rfl rfl, f_le f2 rfl rfl, f_in f3 rfl, f_le f4 rfl rfl, f_le f5 rfl rfl, f_nle f6 rfl rfl, f_ne f7 rfl rfl, f_ne f8 rfl rfl, f_in f9 rfl, f_le f10 rfl rfl, f_nle f11 rfl rfl, f_le f12 rfl rfl, f_nle f13 rfl rfl, f_in f14 rfl, f_ne f15 rfl rfl, f_eq f16 rfl rfl, f_ne f17 rfl rfl, f_ne f18 rfl rfl, f_le f19 rfl rfl, f_nle f20 rfl rfl, f_in f21 rfl, f_in f22 rfl, f_nle f23 rfl rfl, f_in f24 rfl, f_in f25 rfl, f_nle f26 rfl rfl, f_in f27 rfl, f_le f28 rfl rfl, f_in f29 rfl, trivial⟩
                    refine again_runP (P := Try.prog) (K := noK) (fl := []) (B := 6) (l := [.mov 3 5]) (a' := ual1_1_a) (h' := ual1_1_h) (ρ' := rhoL W.heap.size ([R, C, (n : Int), (m : Int), (prR n s).1, (prR n s).2] ++ [(((L + 1) : Nat) : Int), (((k + 1) : Nat) : Int)]) [⟨A, n, flat1 s⟩, ⟨B, m, flat1 p⟩] [] [(fun j : Int => if j = (L : Int) then ((F ((k : Int) + (-1))) + ((Int.tmod (((flat1 s (flat1 p (k : Int))) - (flat1 s (flat1 p ((k : Int) + (-1))))) + 2048) 4096) + 2048)) else F j)]) (ds := [.int (.add (.var 6) (.lit (1))) (.var 6), .int (.add (.var 7) (.lit (1))) (.var 7), .row (.upd (.avar 50) (.var 6) (.add (.sel (.avar 50) (.add (.var 7) (.lit (-1)))) (.add (.rem (.add (.sub (.sel (.avar 0) (.sel (.avar 1) (.var 7))) (.sel (.avar 0) (.sel (.avar 1) (.add (.var 7) (.lit (-1)))))) (.lit (2048))) (.lit (4096))) (.lit (2048))))) (.avar 50), .int (.add (.var 6) (.lit (1))) (.var 6)]) (by kernel_rfl) noK_ok (facD_ok hF) (by kernel_rfl) (agree_list (l := [R, C, (n : Int), (m : Int), (prR n s).1, (prR n s).2]) (Nat.le_refl _) rfl) ⟨(show (((L : Int) + 1) : Int) = (((L + 1) : Nat) : Int) from by first | rfl | (push_cast; omega)), (show (((k : Int) + 1) : Int) = (((k + 1) : Nat) : Int) from by first | rfl | (push_cast; omega)), rfl, (show (((L : Int) + 1) : Int) = (((L + 1) : Nat) : Int) from by first | rfl | (push_cast; omega)), trivial⟩ hs2 fun A3 W3 hs3 => ⟨_, _, _, ⟨(L + 1), (k + 1), (fun j : Int => if j = (L : Int) then ((F ((k : Int) + (-1))) + ((Int.tmod (((flat1 s (flat1 p (k : Int))) - (flat1 s (flat1 p ((k : Int) + (-1))))) + 2048) 4096) + 2048)) else F j), ?_, rfl, .inr ⟨rfl, rfl, ?_⟩⟩, ?_, hs3⟩
                    · first
                        | (exfalso; omega)
                        | (refine ⟨by omega, by omega, fun j hj => ?_, fun j hj => ?_⟩
                           · rcases Nat.lt_or_ge j k with g | g
                             · exact hz j g
                             · obtain rfl : j = k := by omega
                               unfold acode nb
                               simp [f1, f2, f4, f5, f6, f7, f8, f10, f11, f12, f13, f15, f16, f17, f18, f19, f20, f23, f26, f28]
                               try omega
                           · dsimp only
                             rcases Nat.lt_or_ge j k with g | g
                             · rw [if_neg (by omega)]
                               exact hFe j g
                             · obtain rfl : j = k := by omega
                               rw [if_pos (by omega), aval_step hcond, hF1]
                               unfold stp wrp
                               simp only [f1, f2, f4, f5, f6, f7, f8, f10, f11, f12, f13, f15, f16, f17, f18, f19, f20, f23, f26, f28, if_true, if_false]
                               try omega)
                    · omega
                    · show m - ((k + 1 : Nat) : Int).toNat < m - ((k : Nat) : Int).toNat
                      omega
                 ·
                  have hF : Facts [((.le (.var 3) (.var 7)), false), ((.le (.lit (0)) (.var 7)), true), ((.inr .i64 (.add (.var 2) (.lit (-1)))), true), ((.le (.lit (0)) (.sel (.avar 1) (.var 7))), true), ((.le (.sel (.avar 1) (.var 7)) (.add (.var 2) (.lit (-1)))), true), ((.le (.var 2) (.sel (.avar 1) (.var 7))), false), ((.eq (.sel (.avar 0) (.sel (.avar 1) (.var 7))) (.lit (1000000000000))), false), ((.eq (.var 7) (.lit (0))), false), ((.inr .i64 (.add (.var 7) (.lit (-1)))), true), ((.le (.lit (0)) (.add (.var 7) (.lit (-1)))), true), ((.le (.var 3) (.add (.var 7) (.lit (-1)))), false), ((.le (.sel (.avar 1) (.add (.var 7) (.lit (-1)))) (.sel (.avar 1) (.var 7))), true), ((.le (.sel (.avar 1) (.var 7)) (.sel (.avar 1) (.add (.var 7) (.lit (-1))))), false), ((.inr .i64 (.sub (.sel (.avar 1) (.var 7)) (.sel (.avar 1) (.add (.var 7) (.lit (-1)))))), true), ((.eq (.sub (.sel (.avar 1) (.var 7)) (.sel (.avar 1) (.add (.var 7) (.lit (-1))))) (.var 1)), false), ((.eq (.sub (.sel (.avar 1) (.var 7)) (.sel (.avar 1) (.add (.var 7) (.lit (-1))))) (.lit (1))), false)] := ⟨f_nle f1 rfl rfl, f_le f2 rfl rfl, f_in f3 rfl, f_le f4 rfl rfl, f_le f5 rfl rfl, f_nle f6 rfl rfl, f_ne f7 rfl rfl, f_ne f8 rfl rfl, f_in f9 rfl, f_le f10 rfl rfl, f_nle f11 rfl rfl, f_le f12 rfl rfl, f_nle f13 rfl rfl, f_in f14 rfl, f_ne f15 rfl rfl, f_ne f16 rfl rfl, trivial⟩
                  refine out_run (P := Try.prog) (K := noK) (fl := []) (by kernel_rfl) noK_ok (facD_ok hF) hs2 (fin_gen (r := (.tup [(.pl (.slice none 0 0)), (.pl (.int .i64 (14)))])) (h' := { bl := [some (.row (.avar 50) (.var 6) 3 1), some (.cells [(.si .i64 (.sel (.avar 0) (.sel (.avar 1) (.lit (0)))))] 3 false), some (.cells [(.pl (.int .i64 (0))), (.pl (.int .i64 (0)))] 28 false), some (.cells [(.si .i64 (.var 0)), (.si .i64 (.var 1)), (.fsl 0 1 (.lit (0)) (.var 2))] 40 false)], n := 4, base := 0, ch := [] }) (by kernel_rfl) fun V mb gb v W' hv hw hbel => ?_)
                  obtain rfl := rep_den _ (.tuple #[.slice none 0 0, .int .i64 14]) _ rfl hv
                  first
                    | (exfalso; omega)
                    | (have hc : acode C n (flat1 s) (flat1 p) k = 14 := by
                        unfold acode nb
                        simp [f1, f2, f4, f5, f6, f7, f8, f10, f11, f12, f13, f15, f16]
                        try omega
                       have e : aErr R C n s m p = 14 := by rw [aErr_in hw0 hm200, fw_hit (k := k) hz (by rw [hc]; decide) (by omega), hc]
                       exact ⟨.inl ⟨by rw [e]; decide, by rw [e]⟩, hbel⟩)
              ·
               by_cases f13 : (flat1 p (k : Int)) ≤ (flat1 p ((k : Int) + (-1)))
               ·
                have f14 : (-9223372036854775808 : Int) ≤ ((flat1 p ((k : Int) + (-1))) - (flat1 p (k : Int))) ∧ ((flat1 p ((k : Int) + (-1))) - (flat1 p (k : Int))) ≤ 9223372036854775807 := by
                 first | omega | (have h := mul_64 f1 f2 f3 f4; omega) | (have h := hob (by assumption) (by assumption) (by assumption); omega)
                by_cases f15 : ((flat1 p ((k : Int) + (-1))) - (flat1 p (k : Int))) = C
                ·
                 have f16 : (0 ≤ (flat1 p ((k : Int) + (-1)))) := by
                  first | omega | (have h := mul_64 f1 f2 f3 f4; omega) | (have h := hob (by assumption) (by assumption) (by assumption); omega)
                 have f17 : ¬ ((n : Int) ≤ (flat1 p ((k : Int) + (-1)))) := by
                  first | omega | (have h := mul_64 f1 f2 f3 f4; omega) | (have h := hob (by assumption) (by assumption) (by assumption); omega)
                 have f18 : (-9223372036854775808 : Int) ≤ ((flat1 s (flat1 p ((k : Int) + (-1)))) - (flat1 s (flat1 p (k : Int)))) ∧ ((flat1 s (flat1 p ((k : Int) + (-1)))) - (flat1 s (flat1 p (k : Int)))) ≤ 9223372036854775807 := by
                  first | omega | (have h := mul_64 f1 f2 f3 f4; omega) | (have h := hob (by assumption) (by assumption) (by assumption); omega)
                 have f19 : (-9223372036854775808 : Int) ≤ (((flat1 s (flat1 p ((k : Int) + (-1)))) - (flat1 s (flat1 p (k : Int)))) + 2048) ∧ (((flat1 s (flat1 p ((k : Int) + (-1)))) - (flat1 s (flat1 p (k : Int)))) + 2048) ≤ 9223372036854775807 := by
                  first | omega | (have h := mul_64 f1 f2 f3 f4; omega) | (have h := hob (by assumption) (by assumption) (by assumption); omega)
                 by_cases f20 : 0 ≤ (Int.tmod (((flat1 s (flat1 p ((k : Int) + (-1)))) - (flat1 s (flat1 p (k : Int)))) + 2048) 4096)
                 ·
                  have f21 : (-9223372036854775808 : Int) ≤ ((Int.tmod (((flat1 s (flat1 p ((k : Int) + (-1)))) - (flat1 s (flat1 p (k : Int)))) + 2048) 4096) + (-2048)) ∧ ((Int.tmod (((flat1 s (flat1 p ((k : Int) + (-1)))) - (flat1 s (flat1 p (k : Int)))) + 2048) 4096) + (-2048)) ≤ 9223372036854775807 := by
                   first | omega | (have h := mul_64 f1 f2 f3 f4; omega) | (have h := hob (by assumption) (by assumption) (by assumption); omega)
                  have f22 : (-9223372036854775808 : Int) ≤ (0 - ((Int.tmod (((flat1 s (flat1 p ((k : Int) + (-1)))) - (flat1 s (flat1 p (k : Int)))) + 2048) 4096) + (-2048))) ∧ (0 - ((Int.tmod (((flat1 s (flat1 p ((k : Int) + (-1)))) - (flat1 s (flat1 p (k : Int)))) + 2048) 4096) + (-2048))) ≤ 9223372036854775807 := by
                   first | omega | (have h := mul_64 f1 f2 f3 f4; omega) | (have h := hob (by assumption) (by assumption) (by assumption); omega)
                  have f23 : ¬ ((L : Int) ≤ ((k : Int) + (-1))) := by
                   first | omega | (have h := mul_64 f1 f2 f3 f4; omega) | (have h := hob (by assumption) (by assumption) (by assumption); omega)
                  have f24 : (-9223372036854775808 : Int) ≤ ((F ((k : Int) + (-1))) + (0 - ((Int.tmod (((flat1 s (flat1 p ((k : Int) + (-1)))) - (flat1 s (flat1 p (k : Int)))) + 2048) 4096) + (-2048)))) ∧ ((F ((k : Int) + (-1))) + (0 - ((Int.tmod (((flat1 s (flat1 p ((k : Int) + (-1)))) - (flat1 s (flat1 p (k : Int)))) + 2048) 4096) + (-2048)))) ≤ 9223372036854775807 := by
                   first | omega | (have h := mul_64 f1 f2 f3 f4; omega) | (have h := hob (by assumption) (by assumption) (by assumption); omega)
                  have f25 : ((L : Int) ≤ 99999) := by
                   first | omega | (have h := mul_64 f1 f2 f3 f4; omega) | (have h := hob (by assumption) (by assumption) (by assumption); omega)
                  have f26 : (-9223372036854775808 : Int) ≤ ((k : Int) + 1) ∧ ((k : Int) + 1) ≤ 9223372036854775807 := by
                   first | omega | (have h := mul_64 f1 f2 f3 f4; omega) | (have h := hob (by assumption) (by assumption) (by assumption); omega)
                  have hF : Facts [((.le (.var 3) (.var 7)), false), ((.le (.lit (0)) (.var 7)), true), ((.inr .i64 (.add (.var 2) (.lit (-1)))), true), ((.le (.lit (0)) (.sel (.avar 1) (.var 7))), true), ((.le (.sel (.avar 1) (.var 7)) (.add (.var 2) (.lit (-1)))), true), ((.le (.var 2) (.sel (.avar 1) (.var 7))), false), ((.eq (.sel (.avar 0) (.sel (.avar 1) (.var 7))) (.lit (1000000000000))), false), ((.eq (.var 7) (.lit (0))), false), ((.inr .i64 (.add (.var 7) (.lit (-1)))), true), ((.le (.lit (0)) (.add (.var 7) (.lit (-1)))), true), ((.le (.var 3) (.add (.var 7) (.lit (-1)))), false), ((.le (.sel (.avar 1) (.add (.var 7) (.lit (-1)))) (.sel (.avar 1) (.var 7))), false), ((.le (.sel (.avar 1) (.var 7)) (.sel (.avar 1) (.add (.var 7) (.lit (-1))))), true), ((.inr .i64 (.sub (.sel (.avar 1) (.add (.var 7) (.lit (-1)))) (.sel (.avar 1) (.var 7)))), true), ((.eq (.sub (.sel (.avar 1) (.add (.var 7) (.lit (-1)))) (.sel (.avar 1) (.var 7))) (.var 1)), true), ((.le (.lit (0)) (.sel (.avar 1) (.add (.var 7) (.lit (-1))))), true), ((.le (.var 2) (.sel (.avar 1) (.add (.var 7) (.lit (-1))))), false), ((.inr .i64 (.sub (.sel (.avar 0) (.sel (.avar 1) (.add (.var 7) (.lit (-1))))) (.sel (.avar 0) (.sel (.avar 1) (.var 7))))), true), ((.inr .i64 (.add (.sub (.sel (.avar 0) (.sel (.avar 1) (.add (.var 7) (.lit (-1))))) (.sel (.avar 0) (.sel (.avar 1) (.var 7)))) (.lit (2048)))), true), ((.le (.lit (0)) (.rem (.add (.sub (.sel (.avar 0) (.sel (.avar 1) (.add (.var 7) (.lit (-1))))) (.sel (.avar 0) (.sel (.avar 1) (.var 7)))) (.lit (2048))) (.lit (4096)))), true), ((.inr .i64 (.add (.rem (.add (.sub (.sel (.avar 0) (.sel (.avar 1) (.add (.var 7) (.lit (-1))))) (.sel (.avar 0) (.sel (.avar 1) (.var 7)))) (.lit (2048))) (.lit (4096))) (.lit (-2048)))), true), ((.inr .i64 (.sub (.lit (0)) (.add (.rem (.add (.sub (.sel (.avar 0) (.sel (.avar 1) (.add (.var 7) (.lit (-1))))) (.sel (.avar 0) (.sel (.avar 1) (.var 7)))) (.lit (2048))) (.lit (4096))) (.lit (-2048))))), true), ((.le (.var 6) (.add (.var 7) (.lit (-1)))), false), ((.inr .i64 (.add (.sel (.avar 50) (.add (.var 7) (.lit (-1)))) (.sub (.lit (0)) (.add (.rem (.add (.sub (.sel (.avar 0) (.sel (.avar 1) (.add (.var 7) (.lit (-1))))) (.sel (.avar 0) (.sel (.avar 1) (.var 7)))) (.lit (2048))) (.lit (4096))) (.lit (-2048)))))), true), ((.le (.var 6) (.lit (99999))), true), ((.inr .i64 (.add (.var 7) (.lit (1)))), true)] := ⟨f_nle f1 rfl rfl, f_le f2 rfl rfl, f_in f3 rfl, f_le f4 rfl rfl, f_le f5 rfl rfl, f_nle f6 rfl rfl, f_ne f7 rfl rfl, f_ne f8 rfl rfl, f_in f9 rfl, f_le f10 rfl rfl, f_nle f11 rfl rfl, f_nle f12 rfl rfl, f_le f13 rfl rfl, f_in f14 rfl, f_eq f15 rfl rfl, f_le f16 rfl rfl, f_nle f17 rfl rfl, f_in f18 rfl, f_in f19 rfl, f_le f20 rfl rfl, f_in f21 rfl, f_in f22 rfl, f_nle f23 rfl rfl, f_in f24 rfl, f_le f25 rfl rfl, f_in f26 rfl, trivial⟩
                  refine again_runP (P := Try.prog) (K := noK) (fl := []) (B := 6) (l := [.mov 3 5]) (a' := ual1_1_a) (h' := ual1_1_h) (ρ' := rhoL W.heap.size ([R, C, (n : Int), (m : Int), (prR n s).1, (prR n s).2] ++ [(((L + 1) : Nat) : Int), (((k + 1) : Nat) : Int)]) [⟨A, n, flat1 s⟩, ⟨B, m, flat1 p⟩] [] [(fun j : Int => if j = (L : Int) then ((F ((k : Int) + (-1))) + (0 - ((Int.tmod (((flat1 s (flat1 p ((k : Int) + (-1)))) - (flat1 s (flat1 p (k : Int)))) + 2048) 4096) + (-2048)))) else F j)]) (ds := [.int (.add (.var 6) (.lit (1))) (.var 6), .int (.add (.var 7) (.lit (1))) (.var 7), .row (.upd (.avar 50) (.var 6) (.add (.sel (.avar 50) (.add (.var 7) (.lit (-1)))) (.sub (.lit (0)) (.add (.rem (.add (.sub (.sel (.avar 0) (.sel (.avar 1) (.add (.var 7) (.lit (-1))))) (.sel (.avar 0) (.sel (.avar 1) (.var 7)))) (.lit (2048))) (.lit (4096))) (.lit (-2048)))))) (.avar 50), .int (.add (.var 6) (.lit (1))) (.var 6)]) (by kernel_rfl) noK_ok (facD_ok hF) (by kernel_rfl) (agree_list (l := [R, C, (n : Int), (m : Int), (prR n s).1, (prR n s).2]) (Nat.le_refl _) rfl) ⟨(show (((L : Int) + 1) : Int) = (((L + 1) : Nat) : Int) from by first | rfl | (push_cast; omega)), (show (((k : Int) + 1) : Int) = (((k + 1) : Nat) : Int) from by first | rfl | (push_cast; omega)), rfl, (show (((L : Int) + 1) : Int) = (((L + 1) : Nat) : Int) from by first | rfl | (push_cast; omega)), trivial⟩ hs2 fun A3 W3 hs3 => ⟨_, _, _, ⟨(L + 1), (k + 1), (fun j : Int => if j = (L : Int) then ((F ((k : Int) + (-1))) + (0 - ((Int.tmod (((flat1 s (flat1 p ((k : Int) + (-1)))) - (flat1 s (flat1 p (k : Int)))) + 2048) 4096) + (-2048)))) else F j), ?_, rfl, .inr ⟨rfl, rfl, ?_⟩⟩, ?_, hs3⟩
                  · first
                      | (exfalso; omega)
                      | (refine ⟨by omega, by omega, fun j hj => ?_, fun j hj => ?_⟩
                         · rcases Nat.lt_or_ge j k with g | g
                           · exact hz j g
                           · obtain rfl : j = k := by omega
                             unfold acode nb
                             simp [f1, f2, f4, f5, f6, f7, f8, f10, f11, f12, f13, f15, f16, f17, f20, f23, f25]
                             try omega
                         · dsimp only
                           rcases Nat.lt_or_ge j k with g | g
                           · rw [if_neg (by omega)]
                             exact hFe j g
                           · obtain rfl : j = k := by omega
                             rw [if_pos (by omega), aval_step hcond, hF1]
                             unfold stp wrp
                             simp only [f1, f2, f4, f5, f6, f7, f8, f10, f11, f12, f13, f15, f16, f17, f20, f23, f25, if_true, if_false]
                             try omega)
                  · omega
                  · show m - ((k + 1 : Nat) : Int).toNat < m - ((k : Nat) : Int).toNat
                    omega
                 ·
                  have f21 : (-9223372036854775808 : Int) ≤ ((Int.tmod (((flat1 s (flat1 p ((k : Int) + (-1)))) - (flat1 s (flat1 p (k : Int)))) + 2048) 4096) + 4096) ∧ ((Int.tmod (((flat1 s (flat1 p ((k : Int) + (-1)))) - (flat1 s (flat1 p (k : Int)))) + 2048) 4096) + 4096) ≤ 9223372036854775807 := by
                   first | omega | (have h := mul_64 f1 f2 f3 f4; omega) | (have h := hob (by assumption) (by assumption) (by assumption); omega)
                  have f22 : (-9223372036854775808 : Int) ≤ ((Int.tmod (((flat1 s (flat1 p ((k : Int) + (-1)))) - (flat1 s (flat1 p (k : Int)))) + 2048) 4096) + 2048) ∧ ((Int.tmod (((flat1 s (flat1 p ((k : Int) + (-1)))) - (flat1 s (flat1 p (k : Int)))) + 2048) 4096) + 2048) ≤ 9223372036854775807 := by
                   first | omega | (have h := mul_64 f1 f2 f3 f4; omega) | (have h := hob (by assumption) (by assumption) (by assumption); omega)
                  have f23 : (-9223372036854775808 : Int) ≤ (0 - ((Int.tmod (((flat1 s (flat1 p ((k : Int) + (-1)))) - (flat1 s (flat1 p (k : Int)))) + 2048) 4096) + 2048)) ∧ (0 - ((Int.tmod (((flat1 s (flat1 p ((k : Int) + (-1)))) - (flat1 s (flat1 p (k : Int)))) + 2048) 4096) + 2048)) ≤ 9223372036854775807 := by
                   first | omega | (have h := mul_64 f1 f2 f3 f4; omega) | (have h := hob (by assumption) (by assumption) (by assumption); omega)
                  have f24 : ¬ ((L : Int) ≤ ((k : Int) + (-1))) := by
                   first | omega | (have h := mul_64 f1 f2 f3 f4; omega) | (have h := hob (by assumption) (by assumption) (by assumption); omega)
                  have f25 : (-9223372036854775808 : Int) ≤ ((F ((k : Int) + (-1))) + (0 - ((Int.tmod (((flat1 s (flat1 p ((k : Int) + (-1)))) - (flat1 s (flat1 p (k : Int)))) + 2048) 4096) + 2048))) ∧ ((F ((k : Int) + (-1))) + (0 - ((Int.tmod (((flat1 s (flat1 p ((k : Int) + (-1)))) - (flat1 s (flat1 p (k : Int)))) + 2048) 4096) + 2048))) ≤ 9223372036854775807 := by
                   first | omega | (have h := mul_64 f1 f2 f3 f4; omega) | (have h := hob (by assumption) (by assumption) (by assumption); omega)
                  have f26 : ((L : Int) ≤ 99999) := by
                   first | omega | (have h := mul_64 f1 f2 f3 f4; omega) | (have h := hob (by assumption) (by assumption) (by assumption); omega)
                  have f27 : (-9223372036854775808 : Int) ≤ ((k : Int) + 1) ∧ ((k : Int) + 1) ≤ 9223372036854775807 := by
                   first | omega | (have h := mul_64 f1 f2 f3 f4; omega) | (have h := hob (by assumption) (by assumption) (by assumption); omega)
                  have hF : Facts [((.le (.var 3) (.var 7)), false), ((.le (.lit (0)) (.var 7)), true), ((.inr .i64 (.add (.var 2) (.lit (-1)))), true), ((.le (.lit (0)) (.sel (.avar 1) (.var 7))), true), ((.le (.sel (.avar 1) (.var 7)) (.add (.var 2) (.lit (-1)))), true), ((.le (.var 2) (.sel (.avar 1) (.var 7))), false), ((.eq (.sel (.avar 0) (.sel (.avar 1) (.var 7))) (.lit (1000000000000))), false), ((.eq (.var 7) (.lit (0))), false), ((.inr .i64 (.add (.var 7) (.lit (-1)))), true), ((.le (.lit (0)) (.add (.var 7) (.lit (-1)))), true), ((.le (.var 3) (.add (.var 7) (.lit (-1)))), false), ((.le (.sel (.avar 1) (.add (.var 7) (.lit (-1)))) (.sel (.avar 1) (.var 7))), false), ((.le (.sel (.avar 1) (.var 7)) (.sel (.avar 1) (.add (.var 7) (.lit (-1))))), true), ((.inr .i64 (.sub (.sel (.avar 1) (.add (.var 7) (.lit (-1)))) (.sel (.avar 1) (.var 7)))), true), ((.eq (.sub (.sel (.avar 1) (.add (.var 7) (.lit (-1)))) (.sel (.avar 1) (.var 7))) (.var 1)), true), ((.le (.lit (0)) (.sel (.avar 1) (.add (.var 7) (.lit (-1))))), true), ((.le (.var 2) (.sel (.avar 1) (.add (.var 7) (.lit (-1))))), false), ((.inr .i64 (.sub (.sel (.avar 0) (.sel (.avar 1) (.add (.var 7) (.lit (-1))))) (.sel (.avar 0) (.sel (.avar 1) (.var 7))))), true), ((.inr .i64 (.add (.sub (.sel (.avar 0) (.sel (.avar 1) (.add (.var 7) (.lit (-1))))) (.sel (.avar 0) (.sel (.avar 1) (.var 7)))) (.lit (2048)))), true), ((.le (.lit (0)) (.rem (.add (.sub (.sel (.avar 0) (.sel (.avar 1) (.add (.var 7) (.lit (-1))))) (.sel (.avar 0) (.sel (.avar 1) (.var 7)))) (.lit (2048))) (.lit (4096)))), false), ((.inr .i64 (.add (.rem (.add (.sub (.sel (.avar 0) (.sel (.avar 1) (.add (.var 7) (.lit (-1))))) (.sel (.avar 0) (.sel (.avar 1) (.var 7)))) (.lit (2048))) (.lit (4096))) (.lit (4096)))), true), ((.inr .i64 (.add (.rem (.add (.sub (.sel (.avar 0) (.sel (.avar 1) (.add (.var 7) (.lit (-1))))) (.sel (.avar 0) (.sel (.avar 1) (.var 7)))) (.lit (2048))) (.lit (4096))) (.lit (2048)))), true), ((.inr .i64 (.sub (.lit (0)) (.add (.rem (.add (.sub (.sel (.avar 0) (.sel (.avar 1) (.add (.var 7) (.lit (-1))))) (.sel (.avar 0) (.sel (.avar 1) (.var 7)))) (.lit (2048))) (.lit (4096))) (.lit (2048))))), true), ((.le (.var 6) (.add (.var 7) (.lit (-1)))), false), ((.inr .i64 (.add (.sel (.avar 50) (.add (.var 7) (.lit (-1)))) (.sub (.lit (0)) (.add (.rem (.add (.sub (.sel (.avar 0) (.sel (.avar 1) (.add (.var 7) (.lit (-1))))) (.sel (.avar 0) (.sel (.avar 1) (.var 7)))) (.lit (2048))) (.lit (4096))) (.lit (2048)))))), true), ((.le (.var 6) (.lit (99999))), true), ((.inr .i64 (.add (.var 7) (.lit (1)))), true)] := ⟨f_nle f1 rfl rfl, f_le f2 rfl rfl, f_in f3 rfl, f_le f4 rfl rfl, f_le f5 rfl rfl, f_nle f6 rfl rfl, f_ne f7 rfl rfl, f_ne f8 rfl rfl, f_in f9 rfl, f_le f10 rfl rfl, f_nle f11 rfl rfl, f_nle f12 rfl rfl, f_le f13 rfl rfl, f_in f14 rfl, f_eq f15 rfl rfl, f_le f16 rfl rfl, f_nle f17 rfl rfl, f_in f18 rfl, f_in f19 rfl, f_nle f20 rfl rfl, f_in f21 rfl, f_in f22 rfl, f_in f23 rfl, f_nle f24 rfl rfl, f_in f25 rfl, f_le f26 rfl rfl, f_in f27 rfl, trivial⟩
                  refine again_runP (P := Try.prog) (K := noK) (fl := []) (B := 6) (l := [.mov 3 5]) (a' := ual1_1_a) (h' := ual1_1_h) (ρ' := rhoL W.heap.size ([R, C, (n : Int), (m : Int), (prR n s).1, (prR n s).2] ++ [(((L + 1) : Nat) : Int), (((k + 1) : Nat) : Int)]) [⟨A, n, flat1 s⟩, ⟨B, m, flat1 p⟩] [] [(fun j : Int => if j = (L : Int) then ((F ((k : Int) + (-1))) + (0 - ((Int.tmod (((flat1 s (flat1 p ((k : Int) + (-1)))) - (flat1 s (flat1 p (k : Int)))) + 2048) 4096) + 2048))) else F j)]) (ds := [.int (.add (.var 6) (.lit (1))) (.var 6), .int (.add (.var 7) (.lit (1))) (.var 7), .row (.upd (.avar 50) (.var 6) (.add (.sel (.avar 50) (.add (.var 7) (.lit (-1)))) (.sub (.lit (0)) (.add (.rem (.add (.sub (.sel (.avar 0) (.sel (.avar 1) (.add (.var 7) (.lit (-1))))) (.sel (.avar 0) (.sel (.avar 1) (.var 7)))) (.lit (2048))) (.lit (4096))) (.lit (2048)))))) (.avar 50), .int (.add (.var 6) (.lit (1))) (.var 6)]) (by kernel_rfl) noK_ok (facD_ok hF) (by kernel_rfl) (agree_list (l := [R, C, (n : Int), (m : Int), (prR n s).1, (prR n s).2]) (Nat.le_refl _) rfl) ⟨(show (((L : Int) + 1) : Int) = (((L + 1) : Nat) : Int) from by first | rfl | (push_cast; omega)), (show (((k : Int) + 1) : Int) = (((k + 1) : Nat) : Int) from by first | rfl | (push_cast; omega)), rfl, (show (((L : Int) + 1) : Int) = (((L + 1) : Nat) : Int) from by first | rfl | (push_cast; omega)), trivial⟩ hs2 fun A3 W3 hs3 => ⟨_, _, _, ⟨(L + 1), (k + 1), (fun j : Int => if j = (L : Int) then ((F ((k : Int) + (-1))) + (0 - ((Int.tmod (((flat1 s (flat1 p ((k : Int) + (-1)))) - (flat1 s (flat1 p (k : Int)))) + 2048) 4096) + 2048))) else F j), ?_, rfl, .inr ⟨rfl, rfl, ?_⟩⟩, ?_, hs3⟩
                  · first
                      | (exfalso; omega)
                      | (refine ⟨by omega, by omega, fun j hj => ?_, fun j hj => ?_⟩
                         · rcases Nat.lt_or_ge j k with g | g
                           · exact hz j g
                           · obtain rfl : j = k := by omega
                             unfold acode nb
                             simp [f1, f2, f4, f5, f6, f7, f8, f10, f11, f12, f13, f15, f16, f17, f20, f24, f26]
                             try omega
                         · dsimp only
                           rcases Nat.lt_or_ge j k with g | g
                           · rw [if_neg (by omega)]
                             exact hFe j g
                           · obtain rfl : j = k := by omega
                             rw [if_pos (by omega), aval_step hcond, hF1]
                             unfold stp wrp
                             simp only [f1, f2, f4, f5, f6, f7, f8, f10, f11, f12, f13, f15, f16, f17, f20, f24, f26, if_true, if_false]
                             try omega)
                  · omega
                  · show m - ((k + 1 : Nat) : Int).toNat < m - ((k : Nat) : Int).toNat
                    omega
                ·
                 by_cases f16 : ((flat1 p ((k : Int) + (-1))) - (flat1 p (k : Int))) = 1
                 ·
                  have f17 : ¬ (C = 0) := by
                   first | omega | (have h := mul_64 f1 f2 f3 f4; omega) | (have h := hob (by assumption) (by assumption) (by assumption); omega)
                  by_cases f18 : (Int.tmod (flat1 p ((k : Int) + (-1))) C) = 0
                  ·
                   have hF : Facts [((.le (.var 3) (.var 7)), false), ((.le (.lit (0)) (.var 7)), true), ((.inr .i64 (.add (.var 2) (.lit (-1)))), true), ((.le (.lit (0)) (.sel (.avar 1) (.var 7))), true), ((.le (.sel (.avar 1) (.var 7)) (.add (.var 2) (.lit (-1)))), true), ((.le (.var 2) (.sel (.avar 1) (.var 7))), false), ((.eq (.sel (.avar 0) (.sel (.avar 1) (.var 7))) (.lit (1000000000000))), false), ((.eq (.var 7) (.lit (0))), false), ((.inr .i64 (.add (.var 7) (.lit (-1)))), true), ((.le (.lit (0)) (.add (.var 7) (.lit (-1)))), true), ((.le (.var 3) (.add (.var 7) (.lit (-1)))), false), ((.le (.sel (.avar 1) (.add (.var 7) (.lit (-1)))) (.sel (.avar 1) (.var 7))), false), ((.le (.sel (.avar 1) (.var 7)) (.sel (.avar 1) (.add (.var 7) (.lit (-1))))), true), ((.inr .i64 (.sub (.sel (.avar 1) (.add (.var 7) (.lit (-1)))) (.sel (.avar 1) (.var 7)))), true), ((.eq (.sub (.sel (.avar 1) (.add (.var 7) (.lit (-1)))) (.sel (.avar 1) (.var 7))) (.var 1)), false), ((.eq (.sub (.sel (.avar 1) (.add (.var 7) (.lit (-1)))) (.sel (.avar 1) (.var 7))) (.lit (1))), true), ((.eq (.var 1) (.lit (0))), false), ((.eq (.rem (.sel (.avar 1) (.add (.var 7) (.lit (-1)))) (.var 1)) (.lit (0))), true)] := ⟨f_nle f1 rfl rfl, f_le f2 rfl rfl, f_in f3 rfl, f_le f4 rfl rfl, f_le f5 rfl rfl, f_nle f6 rfl rfl, f_ne f7 rfl rfl, f_ne f8 rfl rfl, f_in f9 rfl, f_le f10 rfl rfl, f_nle f11 rfl rfl, f_nle f12 rfl rfl, f_le f13 rfl rfl, f_in f14 rfl, f_ne f15 rfl rfl, f_eq f16 rfl rfl, f_ne f17 rfl rfl, f_eq f18 rfl rfl, trivial⟩
                   refine out_run (P := Try.prog) (K := noK) (fl := []) (by kernel_rfl) noK_ok (facD_ok hF) hs2 (fin_gen (r := (.tup [(.pl (.slice none 0 0)), (.pl (.int .i64 (14)))])) (h' := { bl := [some (.row (.avar 50) (.var 6) 3 1), some (.cells [(.si .i64 (.sel (.avar 0) (.sel (.avar 1) (.lit (0)))))] 3 false), some (.cells [(.pl (.int .i64 (0))), (.pl (.int .i64 (0)))] 28 false), some (.cells [(.si .i64 (.var 0)), (.si .i64 (.var 1)), (.fsl 0 1 (.lit (0)) (.var 2))] 40 false)], n := 4, base := 0, ch := [] }) (by kernel_rfl) fun V mb gb v W' hv hw hbel => ?_)
                   obtain rfl := rep_den _ (.tuple #[.slice none 0 0, .int .i64 14]) _ rfl hv
                   first
                     | (exfalso; omega)
                     | (have hc : acode C n (flat1 s) (flat1 p) k = 14 := by
                         unfold acode nb
                         simp [f1, f2, f4, f5, f6, f7, f8, f10, f11, f12, f13, f15, f16, f17, f18]
                         try omega
                        have e : aErr R C n s m p = 14 := by rw [aErr_in hw0 hm200, fw_hit (k := k) hz (by rw [hc]; decide) (by omega), hc]
                        exact ⟨.inl ⟨by rw [e]; decide, by rw [e]⟩, hbel⟩)
                  ·
                   have f19 : (0 ≤ (flat1 p ((k : Int) + (-1)))) := by
                    first | omega | (have h := mul_64 f1 f2 f3 f4; omega) | (have h := hob (by assumption) (by assumption) (by assumption); omega)
                   have f20 : ¬ ((n : Int) ≤ (flat1 p ((k : Int) + (-1)))) := by
                    first | omega | (have h := mul_64 f1 f2 f3 f4; omega) | (have h := hob (by assumption) (by assumption) (by assumption); omega)
                   have f21 : (-9223372036854775808 : Int) ≤ ((flat1 s (flat1 p ((k : Int) + (-1)))) - (flat1 s (flat1 p (k : Int)))) ∧ ((flat1 s (flat1 p ((k : Int) + (-1)))) - (flat1 s (flat1 p (k : Int)))) ≤ 9223372036854775807 := by
                    first | omega | (have h := mul_64 f1 f2 f3 f4; omega) | (have h := hob (by assumption) (by assumption) (by assumption); omega)
                   have f22 : (-9223372036854775808 : Int) ≤ (((flat1 s (flat1 p ((k : Int) + (-1)))) - (flat1 s (flat1 p (k : Int)))) + 2048) ∧ (((flat1 s (flat1 p ((k : Int) + (-1)))) - (flat1 s (flat1 p (k : Int)))) + 2048) ≤ 9223372036854775807 := by
                    first | omega | (have h := mul_64 f1 f2 f3 f4; omega) | (have h := hob (by assumption) (by assumption) (by assumption); omega)
                   by_cases f23 : 0 ≤ (Int.tmod (((flat1 s (flat1 p ((k : Int) + (-1)))) - (flat1 s (flat1 p (k : Int)))) + 2048) 4096)
                   ·
                    have f24 : (-9223372036854775808 : Int) ≤ ((Int.tmod (((flat1 s (flat1 p ((k : Int) + (-1)))) - (flat1 s (flat1 p (k : Int)))) + 2048) 4096) + (-2048)) ∧ ((Int.tmod (((flat1 s (flat1 p ((k : Int) + (-1)))) - (flat1 s (flat1 p (k : Int)))) + 2048) 4096) + (-2048)) ≤ 9223372036854775807 := by
                     first | omega | (have h := mul_64 f1 f2 f3 f4; omega) | (have h := hob (by assumption) (by assumption) (by assumption); omega)
                    have f25 : (-9223372036854775808 : Int) ≤ (0 - ((Int.tmod (((flat1 s (flat1 p ((k : Int) + (-1)))) - (flat1 s (flat1 p (k : Int)))) + 2048) 4096) + (-2048))) ∧ (0 - ((Int.tmod (((flat1 s (flat1 p ((k : Int) + (-1)))) - (flat1 s (flat1 p (k : Int)))) + 2048) 4096) + (-2048))) ≤ 9223372036854775807 := by
                     first | omega | (have h := mul_64 f1 f2 f3 f4; omega) | (have h := hob (by assumption) (by assumption) (by assumption); omega)
                    have f26 : ¬ ((L : Int) ≤ ((k : Int) + (-1))) := by
                     first | omega | (have h := mul_64 f1 f2 f3 f4; omega) | (have h := hob (by assumption) (by assumption) (by assumption); omega)
                    have f27 : (-9223372036854775808 : Int) ≤ ((F ((k : Int) + (-1))) + (0 - ((Int.tmod (((flat1 s (flat1 p ((k : Int) + (-1)))) - (flat1 s (flat1 p (k : Int)))) + 2048) 4096) + (-2048)))) ∧ ((F ((k : Int) + (-1))) + (0 - ((Int.tmod (((flat1 s (flat1 p ((k : Int) + (-1)))) - (flat1 s (flat1 p (k : Int)))) + 2048) 4096) + (-2048)))) ≤ 9223372036854775807 := by
                     first | omega | (have h := mul_64 f1 f2 f3 f4; omega) | (have h := hob (by assumption) (by assumption) (by assumption); omega)
                    have f28 : ((L : Int) ≤ 99999) := by
                     first | omega | (have h := mul_64 f1 f2 f3 f4; omega) | (have h := hob (by assumption) (by assumption) (by assumption); omega)
                    have f29 : (-9223372036854775808 : Int) ≤ ((k : Int) + 1) ∧ ((k : Int) + 1) ≤ 9223372036854775807 := by
                     first | omega | (have h := mul_64 f1 f2 f3 f4; omega) | (have h := hob (by assumption) (by assumption) (by assumption); omega)
                    have hF : Facts [((.le (.var 3) (.var 7)), false), ((.le (.lit (0)) (.var 7)), true), ((.inr .i64 (.add (.var 2) (.lit (-1)))), true), ((.le (.lit (0)) (.sel (.avar 1) (.var 7))), true), ((.le (.sel (.avar 1) (.var 7)) (.add (.var 2) (.lit (-1)))), true), ((.le (.var 2) (.sel (.avar 1) (.var 7))), false), ((.eq (.sel (.avar 0) (.sel (.avar 1) (.var 7))) (.lit (1000000000000))), false), ((.eq (.var 7) (.lit (0))), false), ((.inr .i64 (.add (.var 7) (.lit (-1)))), true), ((.le (.lit (0)) (.add (.var 7) (.lit (-1)))), true), ((.le (.var 3) (.add (.var 7) (.lit (-1)))), false), ((.le (.sel (.avar 1) (.add (.var 7) (.lit (-1)))) (.sel (.avar 1) (.var 7))), false), ((.le (.sel (.avar 1) (.var 7)) (.sel (.avar 1) (.add (.var 7) (.lit (-1))))), true), ((.inr .i64 (.sub (.sel (.avar 1) (.add (.var 7) (.lit (-1)))) (.sel (.avar 1) (.var 7)))), true), ((.eq (.sub (.sel (.avar 1) (.add (.var 7) (.lit (-1)))) (.sel (.avar 1) (.var 7))) (.var 1)), false), ((.eq (.sub (.sel (.avar 1) (.add (.var 7) (.lit (-1)))) (.sel (.avar 1) (.var 7))) (.lit (1))), true), ((.eq (.var 1) (.lit (0))), false), ((.eq (.rem (.sel (.avar 1) (.add (.var 7) (.lit (-1)))) (.var 1)) (.lit (0))), false), ((.le (.lit (0)) (.sel (.avar 1) (.add (.var 7) (.lit (-1))))), true), ((.le (.var 2) (.sel (.avar 1) (.add (.var 7) (.lit (-1))))), false), ((.inr .i64 (.sub (.sel (.avar 0) (.sel (.avar 1) (.add (.var 7) (.lit (-1))))) (.sel (.avar 0) (.sel (.avar 1) (.var 7))))), true), ((.inr .i64 (.add (.sub (.sel (.avar 0) (.sel (.avar 1) (.add (.var 7) (.lit (-1))))) (.sel (.avar 0) (.sel (.avar 1) (.var 7)))) (.lit (2048)))), true), ((.le (.lit (0)) (.rem (.add (.sub (.sel (.avar 0) (.sel (.avar 1) (.add (.var 7) (.lit (-1))))) (.sel (.avar 0) (.sel (.avar 1) (.var 7)))) (.lit (2048))) (.lit (4096)))), true), ((.inr .i64 (.add (.rem (.add (.sub (.sel (.avar 0) (.sel (.avar 1) (.add (.var 7) (.lit (-1))))) (.sel (.avar 0) (.sel (.avar 1) (.var 7)))) (.lit (2048))) (.lit (4096))) (.lit (-2048)))), true), ((.inr .i64 (.sub (.lit (0)) (.add (.rem (.add (.sub (.sel (.avar 0) (.sel (.avar 1) (.add (.var 7) (.lit (-1))))) (.sel (.avar 0) (.sel (.avar 1) (.var 7)))) (.lit (2048))) (.lit (4096))) (.lit (-2048))))), true), ((.le (.var 6) (.add (.var 7) (.lit (-1)))), false), ((.inr .i64 (.add (.sel (.avar 50) (.add (.var 7) (.lit (-1)))) (.sub (.lit (0)) (.add (.rem (.add (.sub (.sel (.avar 0) (.sel (.avar 1) (.add (.var 7) (.lit (-1))))) (.sel (.avar 0) (.sel (.avar 1) (.var 7)))) (.lit (2048))) (.lit (4096))) (.lit (-2048)))))), true), ((.le (.var 6) (.lit (99999))), true), ((.inr .i64 (.add (.var 7) (.lit (1)))), true)] := ⟨f_nle f1 rfl rfl, f_le f2 rfl rfl, f_in f3 rfl, f_le f4 rfl rfl, f_le f5 rfl rfl, f_nle f6 rfl rfl, f_ne f7 rfl rfl, f_ne f8 rfl rfl, f_in f9 rfl, f_le f10 rfl rfl, f_nle f11 rfl rfl, f_nle f12 rfl rfl, f_le f13 rfl rfl, f_in f14 rfl, f_ne f15 rfl rfl, f_eq f16 rfl rfl, f_ne f17 rfl rfl, f_ne f18 rfl rfl, f_le f19 rfl rfl, f_nle f20 rfl rfl, f_in f21 rfl, f_in f22 rfl, f_le f23 rfl rfl, f_in f24 rfl, f_in f25 rfl, f_nle f26 rfl rfl, f_in f27 rfl, f_le f28 rfl rfl, f_in f29 rfl, trivial⟩
                    refine again_runP (P := Try.prog) (K := noK) (fl := []) (B := 6) (l := [.mov 3 5]) (a' := ual1_1_a) (h' := ual1_1_h) (ρ' := rhoL W.heap.size ([R, C, (n : Int), (m : Int), (prR n s).1, (prR n s).2] ++ [(((L + 1) : Nat) : Int), (((k + 1) : Nat) : Int)]) [⟨A, n, flat1 s⟩, ⟨B, m, flat1 p⟩] [] [(fun j : Int => if j = (L : Int) then ((F ((k : Int) + (-1))) + (0 - ((Int.tmod (((flat1 s (flat1 p ((k : Int) + (-1)))) - (flat1 s (flat1 p (k : Int)))) + 2048) 4096) + (-2048)))) else F j)]) (ds := [.int (.add (.var 6) (.lit (1))) (.var 6), .int (.add (.var 7) (.lit (1))) (.var 7), .row (.upd (.avar 50) (.var 6) (.add (.sel (.avar 50) (.add (.var 7) (.lit (-1)))) (.sub (.lit (0)) (.add (.rem (.add (.sub (.sel (.avar 0) (.sel (.avar 1) (.add (.var 7) (.lit (-1))))) (.sel (.avar 0) (.sel (.avar 1) (.var 7)))) (.lit (2048))) (.lit (4096))) (.lit (-2048)))))) (.avar 50), .int (.add (.var 6) (.lit (1))) (.var 6)]) (by kernel_rfl) noK_ok (facD_ok hF) (by kernel_rfl) (agree_list (l := [R, C, (n : Int), (m : Int), (prR n s).1, (prR n s).2]) (Nat.le_refl _) rfl) ⟨(show (((L : Int) + 1) : Int) = (((L + 1) : Nat) : Int) from by first | rfl | (push_cast; omega)), (show (((k : Int) + 1) : Int) = (((k + 1) : Nat) : Int) from by first | rfl | (push_cast; omega)), rfl, (show (((L : Int) + 1) : Int) = (((L + 1) : Nat) : Int) from by first | rfl | (push_cast; omega)), trivial⟩ hs2 fun A3 W3 hs3 => ⟨_, _, _, ⟨(L + 1), (k + 1), (fun j : Int => if j = (L : Int) then ((F ((k : Int) + (-1))) + (0 - ((Int.tmod (((flat1 s (flat1 p ((k : Int) + (-1)))) - (flat1 s (flat1 p (k : Int)))) + 2048) 4096) + (-2048)))) else F j), ?_, rfl, .inr ⟨rfl, rfl, ?_⟩⟩, ?_, hs3⟩
                    · first
                        | (exfalso; omega)
                        | (refine ⟨by omega, by omega, fun j hj => ?_, fun j hj => ?_⟩
                           · rcases Nat.lt_or_ge j k with g | g
                             · exact hz j g
                             · obtain rfl : j = k := by omega
                               unfold acode nb
                               simp [f1, f2, f4, f5, f6, f7, f8, f10, f11, f12, f13, f15, f16, f17, f18, f19, f20, f23, f26, f28]
                               try omega
                           · dsimp only
                             rcases Nat.lt_or_ge j k with g | g
                             · rw [if_neg (by omega)]
                               exact hFe j g
                             · obtain rfl : j = k := by omega
                               rw [if_pos (by omega), aval_step hcond, hF1]
                               unfold stp wrp
                               simp only [f1, f2, f4, f5, f6, f7, f8, f10, f11, f12, f13, f15, f16, f17, f18, f19, f20, f23, f26, f28, if_true, if_false]
                               try omega)
                    · omega
                    · show m - ((k + 1 : Nat) : Int).toNat < m - ((k : Nat) : Int).toNat
                      omega
                   ·
                    have f24 : (-9223372036854775808 : Int) ≤ ((Int.tmod (((flat1 s (flat1 p ((k : Int) + (-1)))) - (flat1 s (flat1 p (k : Int)))) + 2048) 4096) + 4096) ∧ ((Int.tmod (((flat1 s (flat1 p ((k : Int) + (-1)))) - (flat1 s (flat1 p (k : Int)))) + 2048) 4096) + 4096) ≤ 9223372036854775807 := by
                     first | omega | (have h := mul_64 f1 f2 f3 f4; omega) | (have h := hob (by assumption) (by assumption) (by assumption); omega)
                    have f25 : (-9223372036854775808 : Int) ≤ ((Int.tmod (((flat1 s (flat1 p ((k : Int) + (-1)))) - (flat1 s (flat1 p (k : Int)))) + 2048) 4096) + 2048) ∧ ((Int.tmod (((flat1 s (flat1 p ((k : Int) + (-1)))) - (flat1 s (flat1 p (k : Int)))) + 2048) 4096) + 2048) ≤ 9223372036854775807 := by
                     first | omega | (have h := mul_64 f1 f2 f3 f4; omega) | (have h := hob (by assumption) (by assumption) (by assumption); omega)
                    have f26 : (-9223372036854775808 : Int) ≤ (0 - ((Int.tmod (((flat1 s (flat1 p ((k : Int) + (-1)))) - (flat1 s (flat1 p (k : Int)))) + 2048) 4096) + 2048)) ∧ (0 - ((Int.tmod (((flat1 s (flat1 p ((k : Int) + (-1)))) - (flat1 s (flat1 p (k : Int)))) + 2048) 4096) + 2048)) ≤ 9223372036854775807 := by
                     first | omega | (have h := mul_64 f1 f2 f3 f4; omega) | (have h := hob (by assumption) (by assumption) (by assumption); omega)
                    have f27 : ¬ ((L : Int) ≤ ((k : Int) + (-1))) := by
                     first | omega | (have h := mul_64 f1 f2 f3 f4; omega) | (have h := hob (by assumption) (by assumption) (by assumption); omega)
                    have f28 : (-9223372036854775808 : Int) ≤ ((F ((k : Int) + (-1))) + (0 - ((Int.tmod (((flat1 s (flat1 p ((k : Int) + (-1)))) - (flat1 s (flat1 p (k : Int)))) + 2048) 4096) + 2048))) ∧ ((F ((k : Int) + (-1))) + (0 - ((Int.tmod (((flat1 s (flat1 p ((k : Int) + (-1)))) - (flat1 s (flat1 p (k : Int)))) + 2048) 4096) + 2048))) ≤ 9223372036854775807 := by
                     first | omega | (have h := mul_64 f1 f2 f3 f4; omega) | (have h := hob (by assumption) (by assumption) (by assumption); omega)
                    have f29 : ((L : Int) ≤ 99999) := by
                     first | omega | (have h := mul_64 f1 f2 f3 f4; omega) | (have h := hob (by assumption) (by assumption) (by assumption); omega)
                    have f30 : (-9223372036854775808 : Int) ≤ ((k : Int) + 1) ∧ ((k : Int) + 1) ≤ 9223372036854775807 := by
                     first | omega | (have h := mul_64 f1 f2 f3 f4; omega) | (have h := hob (by assumption) (by assumption) (by assumption); omega)
                    have hF : Facts [((.le (.var 3) (.var 7)), false), ((.le (.lit (0)) (.var 7)), true), ((.inr .i64 (.add (.var 2) (.lit (-1)))), true), ((.le (.lit (0)) (.sel (.avar 1) (.var 7))), true), ((.le (.sel (.avar 1) (.var 7)) (.add (.var 2) (.lit (-1)))), true), ((.le (.var 2) (.sel (.avar 1) (.var 7))), false), ((.eq (.sel (.avar 0) (.sel (.avar 1) (.var 7))) (.lit (1000000000000))), false), ((.eq (.var 7) (.lit (0))), false), ((.inr .i64 (.add (.var 7) (.lit (-1)))), true), ((.le (.lit (0)) (.add (.var 7) (.lit (-1)))), true), ((.le (.var 3) (.add (.var 7) (.lit (-1)))), false), ((.le (.sel (.avar 1) (.add (.var 7) (.lit (-1)))) (.sel (.avar 1) (.var 7))), false), ((.le (.sel (.avar 1) (.var 7)) (.sel (.avar 1) (.add (.var 7) (.lit (-1))))), true), ((.inr .i64 (.sub (.sel (.avar 1) (.add (.var 7) (.lit (-1)))) (.sel (.avar 1) (.var 7)))), true), ((.eq (.sub (.sel (.avar 1) (.add (.var 7) (.lit (-1)))) (.sel (.avar 1) (.var 7))) (.var 1)), false), ((.eq (.sub (.sel (.avar 1) (.add (.var 7) (.lit (-1)))) (.sel (.avar 1) (.var 7))) (.lit (1))), true), ((.eq (.var 1) (.lit (0))), false), ((.eq (.rem (.sel (.avar 1) (.add (.var 7) (.lit (-1)))) (.var 1)) (.lit (0))), false), ((.le (.lit (0)) (.sel (.avar 1) (.add (.var 7) (.lit (-1))))), true), ((.le (.var 2) (.sel (.avar 1) (.add (.var 7) (.lit (-1))))), false), ((.inr .i64 (.sub (.sel (.avar 0) (.sel (.avar 1) (.add (.var 7) (.lit (-1))))) (.sel (.avar 0) (.sel (.avar 1) (.var 7))))), true), ((.inr .i64 (.add (.sub (.sel (.avar 0) (.sel (.avar 1) (.add (.var 7) (.lit (-1))))) (.sel (.avar 0) (.sel (.avar 1) (.var 7)))) (.lit (2048)))), true), ((.le (.lit (0)) (.rem (.add (.sub (.sel (.avar 0) (.sel (.avar 1) (.add (.var 7) (.lit (-1))))) (.sel (.avar 0) (.sel (.avar 1) (.var 7)))) (.lit (2048))) (.lit (4096)))), false), ((.inr .i64 (.add (.rem (.add (.sub (.sel (.avar 0) (.sel (.avar 1) (.add (.var 7) (.lit (-1))))) (.sel (.avar 0) (.sel (.avar 1) (.var 7)))) (.lit (2048))) (.lit (4096))) (.lit (4096)))), true), ((.inr .i64 (.add (.rem (.add (.sub (.sel (.avar 0) (.sel (.avar 1) (.add (.var 7) (.lit (-1))))) (.sel (.avar 0) (.sel (.avar 1) (.var 7)))) (.lit (2048))) (.lit (4096))) (.lit (2048)))), true), ((.inr .i64 (.sub (.lit (0)) (.add (.rem (.add (.sub (.sel (.avar 0) (.sel (.avar 1) (.add (.var 7) (.lit (-1))))) (.sel (.avar 0) (.sel (.avar 1) (.var 7)))) (.lit (2048))) (.lit (4096))) (.lit (2048))))), true), ((.le (.var 6) (.add (.var 7) (.lit (-1)))), false), ((.inr .i64 (.add (.sel (.avar 50) (.add (.var 7) (.lit (-1)))) (.sub (.lit (0)) (.add (.rem (.add (.sub (.sel (.avar 0) (.sel (.avar 1) (.add (.var 7) (.lit (-1))))) (.sel (.avar 0) (.sel (.avar 1) (.var 7)))) (.lit (2048))) (.lit (4096))) (.lit (2048)))))), true), ((.le (.var 6) (.lit (99999))), true), ((.inr .i64 (.add (.var 7) (.lit (1)))), true)] := ⟨f_nle f1 rfl rfl, f_le f2 rfl rfl, f_in f3 rfl, f_le f4 rfl rfl, f_le f5 rfl rfl, f_nle f6 rfl rfl, f_ne f7 rfl rfl, f_ne f8 rfl rfl, f_in f9 rfl, f_le f10 rfl rfl, f_nle f11 rfl rfl, f_nle f12 rfl rfl, f_le f13 rfl rfl, f_in f14 rfl, f_ne f15 rfl rfl, f_eq f16 rfl rfl, f_ne f17 rfl rfl, f_ne f18 rfl rfl, f_le f19 rfl rfl, f_nle f20 rfl rfl, f_in f21 rfl, f_in f22 rfl, f_nle f23 rfl rfl, f_in f24 rfl, f_in f25 rfl, f_in f26 rfl, f_nle f27 rfl rfl, f_in f28 rfl, f_le f29 rfl rfl, f_in f30 rfl, trivial⟩
                    refine again_runP (P := Try.prog) (K := noK) (fl := []) (B := 6) (l := [.mov 3 5]) (a' := ual1_1_a) (h' := ual1_1_h) (ρ' := rhoL W.heap.size ([R, C, (n : Int), (m : Int), (prR n s).1, (prR n s).2] ++ [(((L + 1) : Nat) : Int), (((k + 1) : Nat) : Int)]) [⟨A, n, flat1 s⟩, ⟨B, m, flat1 p⟩] [] [(fun j : Int => if j = (L : Int) then ((F ((k : Int) + (-1))) + (0 - ((Int.tmod (((flat1 s (flat1 p ((k : Int) + (-1)))) - (flat1 s (flat1 p (k : Int)))) + 2048) 4096) + 2048))) else F j)]) (ds := [.int (.add (.var 6) (.lit (1))) (.var 6), .int (.add (.var 7) (.lit (1))) (.var 7), .row (.upd (.avar 50) (.var 6) (.add (.sel (.avar 50) (.add (.var 7) (.lit (-1)))) (.sub (.lit (0)) (.add (.rem (.add (.sub (.sel (.avar 0) (.sel (.avar 1) (.add (.var 7) (.lit (-1))))) (.sel (.avar 0) (.sel (.avar 1) (.var 7)))) (.lit (2048))) (.lit (4096))) (.lit (2048)))))) (.avar 50), .int (.add (.var 6) (.lit (1))) (.var 6)]) (by kernel_rfl) noK_ok (facD_ok hF) (by kernel_rfl) (agree_list (l := [R, C, (n : Int), (m : Int), (prR n s).1, (prR n s).2]) (Nat.le_refl _) rfl) ⟨(show (((L : Int) + 1) : Int) = (((L + 1) : Nat) : Int) from by first | rfl | (push_cast; omega)), (show (((k : Int) + 1) : Int) = (((k + 1) : Nat) : Int) from by first | rfl | (push_cast; omega)), rfl, (show (((L : Int) + 1) : Int) = (((L + 1) : Nat) : Int) from by first | rfl | (push_cast; omega)), trivial⟩ hs2 fun A3 W3 hs3 => ⟨_, _, _, ⟨(L + 1), (k + 1), (fun j : Int => if j = (L : Int) then ((F ((k : Int) + (-1))) + (0 - ((Int.tmod (((flat1 s (flat1 p ((k : Int) + (-1)))) - (flat1 s (flat1 p (k : Int)))) + 2048) 4096) + 2048))) else F j), ?_, rfl, .inr ⟨rfl, rfl, ?_⟩⟩, ?_, hs3⟩
                    · first
                        | (exfalso; omega)
                        | (refine ⟨by omega, by omega, fun j hj => ?_, fun j hj => ?_⟩
                           · rcases Nat.lt_or_ge j k with g | g
                             · exact hz j g
                             · obtain rfl : j = k := by omega
                               unfold acode nb
                               simp [f1, f2, f4, f5, f6, f7, f8, f10, f11, f12, f13, f15, f16, f17, f18, f19, f20, f23, f27, f29]
                               try omega
                           · dsimp only
                             rcases Nat.lt_or_ge j k with g | g
                             · rw [if_neg (by omega)]
                               exact hFe j g
                             · obtain rfl : j = k := by omega
                               rw [if_pos (by omega), aval_step hcond, hF1]
                               unfold stp wrp
                               simp only [f1, f2, f4, f5, f6, f7, f8, f10, f11, f12, f13, f15, f16, f17, f18, f19, f20, f23, f27, f29, if_true, if_false]
                               try omega)
                    · omega
                    · show m - ((k + 1 : Nat) : Int).toNat < m - ((k : Nat) : Int).toNat
                      omega
                 ·
                  have hF : Facts [((.le (.var 3) (.var 7)), false), ((.le (.lit (0)) (.var 7)), true), ((.inr .i64 (.add (.var 2) (.lit (-1)))), true), ((.le (.lit (0)) (.sel (.avar 1) (.var 7))), true), ((.le (.sel (.avar 1) (.var 7)) (.add (.var 2) (.lit (-1)))), true), ((.le (.var 2) (.sel (.avar 1) (.var 7))), false), ((.eq (.sel (.avar 0) (.sel (.avar 1) (.var 7))) (.lit (1000000000000))), false), ((.eq (.var 7) (.lit (0))), false), ((.inr .i64 (.add (.var 7) (.lit (-1)))), true), ((.le (.lit (0)) (.add (.var 7) (.lit (-1)))), true), ((.le (.var 3) (.add (.var 7) (.lit (-1)))), false), ((.le (.sel (.avar 1) (.add (.var 7) (.lit (-1)))) (.sel (.avar 1) (.var 7))), false), ((.le (.sel (.avar 1) (.var 7)) (.sel (.avar 1) (.add (.var 7) (.lit (-1))))), true), ((.inr .i64 (.sub (.sel (.avar 1) (.add (.var 7) (.lit (-1)))) (.sel (.avar 1) (.var 7)))), true), ((.eq (.sub (.sel (.avar 1) (.add (.var 7) (.lit (-1)))) (.sel (.avar 1) (.var 7))) (.var 1)), false), ((.eq (.sub (.sel (.avar 1) (.add (.var 7) (.lit (-1)))) (.sel (.avar 1) (.var 7))) (.lit (1))), false)] := ⟨f_nle f1 rfl rfl, f_le f2 rfl rfl, f_in f3 rfl, f_le f4 rfl rfl, f_le f5 rfl rfl, f_nle f6 rfl rfl, f_ne f7 rfl rfl, f_ne f8 rfl rfl, f_in f9 rfl, f_le f10 rfl rfl, f_nle f11 rfl rfl, f_nle f12 rfl rfl, f_le f13 rfl rfl, f_in f14 rfl, f_ne f15 rfl rfl, f_ne f16 rfl rfl, trivial⟩
                  refine out_run (P := Try.prog) (K := noK) (fl := []) (by kernel_rfl) noK_ok (facD_ok hF) hs2 (fin_gen (r := (.tup [(.pl (.slice none 0 0)), (.pl (.int .i64 (14)))])) (h' := { bl := [some (.row (.avar 50) (.var 6) 3 1), some (.cells [(.si .i64 (.sel (.avar 0) (.sel (.avar 1) (.lit (0)))))] 3 false), some (.cells [(.pl (.int .i64 (0))), (.pl (.int .i64 (0)))] 28 false), some (.cells [(.si .i64 (.var 0)), (.si .i64 (.var 1)), (.fsl 0 1 (.lit (0)) (.var 2))] 40 false)], n := 4, base := 0, ch := [] }) (by kernel_rfl) fun V mb gb v W' hv hw hbel => ?_)
                  obtain rfl := rep_den _ (.tuple #[.slice none 0 0, .int .i64 14]) _ rfl hv
                  first
                    | (exfalso; omega)
                    | (have hc : acode C n (flat1 s) (flat1 p) k = 14 := by
                        unfold acode nb
                        simp [f1, f2, f4, f5, f6, f7, f8, f10, f11, f12, f13, f15, f16]
                        try omega
                       have e : aErr R C n s m p = 14 := by rw [aErr_in hw0 hm200, fw_hit (k := k) hz (by rw [hc]; decide) (by omega), hc]
                       exact ⟨.inl ⟨by rw [e]; decide, by rw [e]⟩, hbel⟩)
               ·
                have f14 : (-9223372036854775808 : Int) ≤ ((flat1 p (k : Int)) - (flat1 p (k : Int))) ∧ ((flat1 p (k : Int)) - (flat1 p (k : Int))) ≤ 9223372036854775807 := by
                 first | omega | (have h := mul_64 f1 f2 f3 f4; omega) | (have h := hob (by assumption) (by assumption) (by assumption); omega)
                have f15 : ¬ (((flat1 p (k : Int)) - (flat1 p (k : Int))) = C) := by
                 first | omega | (have h := mul_64 f1 f2 f3 f4; omega) | (have h := hob (by assumption) (by assumption) (by assumption); omega)
                by_cases f16 : ((flat1 p (k : Int)) - (flat1 p (k : Int))) = 1
                ·
                 have f17 : ¬ (C = 0) := by
                  first | omega | (have h := mul_64 f1 f2 f3 f4; omega) | (have h := hob (by assumption) (by assumption) (by assumption); omega)
                 have f18 : ((Int.tmod (flat1 p (k : Int)) C) = 0) := by
                  first | omega | (have h := mul_64 f1 f2 f3 f4; omega) | (have h := hob (by assumption) (by assumption) (by assumption); omega)
                 have hF : Facts [((.le (.var 3) (.var 7)), false), ((.le (.lit (0)) (.var 7)), true), ((.inr .i64 (.add (.var 2) (.lit (-1)))), true), ((.le (.lit (0)) (.sel (.avar 1) (.var 7))), true), ((.le (.sel (.avar 1) (.var 7)) (.add (.var 2) (.lit (-1)))), true), ((.le (.var 2) (.sel (.avar 1) (.var 7))), false), ((.eq (.sel (.avar 0) (.sel (.avar 1) (.var 7))) (.lit (1000000000000))), false), ((.eq (.var 7) (.lit (0))), false), ((.inr .i64 (.add (.var 7) (.lit (-1)))), true), ((.le (.lit (0)) (.add (.var 7) (.lit (-1)))), true), ((.le (.var 3) (.add (.var 7) (.lit (-1)))), false), ((.le (.sel (.avar 1) (.add (.var 7) (.lit (-1)))) (.sel (.avar 1) (.var 7))), false), ((.le (.sel (.avar 1) (.var 7)) (.sel (.avar 1) (.add (.var 7) (.lit (-1))))), false), ((.inr .i64 (.sub (.sel (.avar 1) (.var 7)) (.sel (.avar 1) (.var 7)))), true), ((.eq (.sub (.sel (.avar 1) (.var 7)) (.sel (.avar 1) (.var 7))) (.var 1)), false), ((.eq (.sub (.sel (.avar 1) (.var 7)) (.sel (.avar 1) (.var 7))) (.lit (1))), true), ((.eq (.var 1) (.lit (0))), false), ((.eq (.rem (.sel (.avar 1) (.var 7)) (.var 1)) (.lit (0))), true)] := ⟨f_nle f1 rfl rfl, f_le f2 rfl rfl, f_in f3 rfl, f_le f4 rfl rfl, f_le f5 rfl rfl, f_nle f6 rfl rfl, f_ne f7 rfl rfl, f_ne f8 rfl rfl, f_in f9 rfl, f_le f10 rfl rfl, f_nle f11 rfl rfl, f_nle f12 rfl rfl, f_nle f13 rfl rfl, f_in f14 rfl, f_ne f15 rfl rfl, f_eq f16 rfl rfl, f_ne f17 rfl rfl, f_eq f18 rfl rfl, trivial⟩
                 refine out_run (P := Try.prog) (K := noK) (fl := []) (by kernel_rfl) noK_ok (facD_ok hF) hs2 (fin_gen (r := (.tup [(.pl (.slice none 0 0)), (.pl (.int .i64 (14)))])) (h' := { bl := [some (.row (.avar 50) (.var 6) 3 1), some (.cells [(.si .i64 (.sel (.avar 0) (.sel (.avar 1) (.lit (0)))))] 3 false), some (.cells [(.pl (.int .i64 (0))), (.pl (.int .i64 (0)))] 28 false), some (.cells [(.si .i64 (.var 0)), (.si .i64 (.var 1)), (.fsl 0 1 (.lit (0)) (.var 2))] 40 false)], n := 4, base := 0, ch := [] }) (by kernel_rfl) fun V mb gb v W' hv hw hbel => ?_)
                 obtain rfl := rep_den _ (.tuple #[.slice none 0 0, .int .i64 14]) _ rfl hv
                 first
                   | (exfalso; omega)
                   | (have hc : acode C n (flat1 s) (flat1 p) k = 14 := by
                       unfold acode nb
                       simp [f1, f2, f4, f5, f6, f7, f8, f10, f11, f12, f13, f15, f16, f17, f18]
                       try omega
                      have e : aErr R C n s m p = 14 := by rw [aErr_in hw0 hm200, fw_hit (k := k) hz (by rw [hc]; decide) (by omega), hc]
                      exact ⟨.inl ⟨by rw [e]; decide, by rw [e]⟩, hbel⟩)
                ·
                 have hF : Facts [((.le (.var 3) (.var 7)), false), ((.le (.lit (0)) (.var 7)), true), ((.inr .i64 (.add (.var 2) (.lit (-1)))), true), ((.le (.lit (0)) (.sel (.avar 1) (.var 7))), true), ((.le (.sel (.avar 1) (.var 7)) (.add (.var 2) (.lit (-1)))), true), ((.le (.var 2) (.sel (.avar 1) (.var 7))), false), ((.eq (.sel (.avar 0) (.sel (.avar 1) (.var 7))) (.lit (1000000000000))), false), ((.eq (.var 7) (.lit (0))), false), ((.inr .i64 (.add (.var 7) (.lit (-1)))), true), ((.le (.lit (0)) (.add (.var 7) (.lit (-1)))), true), ((.le (.var 3) (.add (.var 7) (.lit (-1)))), false), ((.le (.sel (.avar 1) (.add (.var 7) (.lit (-1)))) (.sel (.avar 1) (.var 7))), false), ((.le (.sel (.avar 1) (.var 7)) (.sel (.avar 1) (.add (.var 7) (.lit (-1))))), false), ((.inr .i64 (.sub (.sel (.avar 1) (.var 7)) (.sel (.avar 1) (.var 7)))), true), ((.eq (.sub (.sel (.avar 1) (.var 7)) (.sel (.avar 1) (.var 7))) (.var 1)), false), ((.eq (.sub (.sel (.avar 1) (.var 7)) (.sel (.avar 1) (.var 7))) (.lit (1))), false)] := ⟨f_nle f1 rfl rfl, f_le f2 rfl rfl, f_in f3 rfl, f_le f4 rfl rfl, f_le f5 rfl rfl, f_nle f6 rfl rfl, f_ne f7 rfl rfl, f_ne f8 rfl rfl, f_in f9 rfl, f_le f10 rfl rfl, f_nle f11 rfl rfl, f_nle f12 rfl rfl, f_nle f13 rfl rfl, f_in f14 rfl, f_ne f15 rfl rfl, f_ne f16 rfl rfl, trivial⟩
                 refine out_run (P := Try.prog) (K := noK) (fl := []) (by kernel_rfl) noK_ok (facD_ok hF) hs2 (fin_gen (r := (.tup [(.pl (.slice none 0 0)), (.pl (.int .i64 (14)))])) (h' := { bl := [some (.row (.avar 50) (.var 6) 3 1), some (.cells [(.si .i64 (.sel (.avar 0) (.sel (.avar 1) (.lit (0)))))] 3 false), some (.cells [(.pl (.int .i64 (0))), (.pl (.int .i64 (0)))] 28 false), some (.cells [(.si .i64 (.var 0)), (.si .i64 (.var 1)), (.fsl 0 1 (.lit (0)) (.var 2))] 40 false)], n := 4, base := 0, ch := [] }) (by kernel_rfl) fun V mb gb v W' hv hw hbel => ?_)
                 obtain rfl := rep_den _ (.tuple #[.slice none 0 0, .int .i64 14]) _ rfl hv
                 first
                   | (exfalso; omega)
                   | (have hc : acode C n (flat1 s) (flat1 p) k = 14 := by
                       unfold acode nb
                       simp [f1, f2, f4, f5, f6, f7, f8, f10, f11, f12, f13, f15, f16]
                       try omega
                      have e : aErr R C n s m p = 14 := by rw [aErr_in hw0 hm200, fw_hit (k := k) hz (by rw [hc]; decide) (by omega), hc]
                      exact ⟨.inl ⟨by rw [e]; decide, by rw [e]⟩, hbel⟩)
           ·
            have hF : Facts [((.le (.var 3) (.var 7)), false), ((.le (.lit (0)) (.var 7)), true), ((.inr .i64 (.add (.var 2) (.lit (-1)))), true), ((.le (.lit (0)) (.sel (.avar 1) (.var 7))), true), ((.le (.sel (.avar 1) (.var 7)) (.add (.var 2) (.lit (-1)))), false)] := ⟨f_nle f1 rfl rfl, f_le f2 rfl rfl, f_in f3 rfl, f_le f4 rfl rfl, f_nle f5 rfl rfl, trivial⟩
            refine out_run (P := Try.prog) (K := noK) (fl := []) (by kernel_rfl) noK_ok (facD_ok hF) hs2 (fin_gen (r := (.tup [(.pl (.slice none 0 0)), (.pl (.int .i64 (6)))])) (h' := { bl := [some (.row (.avar 50) (.var 6) 3 1), some (.cells [(.si .i64 (.sel (.avar 0) (.sel (.avar 1) (.lit (0)))))] 3 false), some (.cells [(.pl (.int .i64 (0))), (.pl (.int .i64 (0)))] 28 false), some (.cells [(.si .i64 (.var 0)), (.si .i64 (.var 1)), (.fsl 0 1 (.lit (0)) (.var 2))] 40 false)], n := 4, base := 0, ch := [] }) (by kernel_rfl) fun V mb gb v W' hv hw hbel => ?_)
            obtain rfl := rep_den _ (.tuple #[.slice none 0 0, .int .i64 6]) _ rfl hv
            first
              | (exfalso; omega)
              | (have hc : acode C n (flat1 s) (flat1 p) k = 6 := by
                  unfold acode nb
                  simp [f1, f2, f4, f5]
                  try omega
                 have e : aErr R C n s m p = 6 := by rw [aErr_in hw0 hm200, fw_hit (k := k) hz (by rw [hc]; decide) (by omega), hc]
                 exact ⟨.inl ⟨by rw [e]; decide, by rw [e]⟩, hbel⟩)
          ·
           have hF : Facts [((.le (.var 3) (.var 7)), false), ((.le (.lit (0)) (.var 7)), true), ((.inr .i64 (.add (.var 2) (.lit (-1)))), true), ((.le (.lit (0)) (.sel (.avar 1) (.var 7))), false)] := ⟨f_nle f1 rfl rfl, f_le f2 rfl rfl, f_in f3 rfl, f_nle f4 rfl rfl, trivial⟩
           refine out_run (P := Try.prog) (K := noK) (fl := []) (by kernel_rfl) noK_ok (facD_ok hF) hs2 (fin_gen (r := (.tup [(.pl (.slice none 0 0)), (.pl (.int .i64 (6)))])) (h' := { bl := [some (.row (.avar 50) (.var 6) 3 1), some (.cells [(.si .i64 (.sel (.avar 0) (.sel (.avar 1) (.lit (0)))))] 3 false), some (.cells [(.pl (.int .i64 (0))), (.pl (.int .i64 (0)))] 28 false), some (.cells [(.si .i64 (.var 0)), (.si .i64 (.var 1)), (.fsl 0 1 (.lit (0)) (.var 2))] 40 false)], n := 4, base := 0, ch := [] }) (by kernel_rfl) fun V mb gb v W' hv hw hbel => ?_)
           obtain rfl := rep_den _ (.tuple #[.slice none 0 0, .int .i64 6]) _ rfl hv
           first
             | (exfalso; omega)
             | (have hc : acode C n (flat1 s) (flat1 p) k = 6 := by
                 unfold acode nb
                 simp [f1, f2, f4]
                 try omega
                have e : aErr R C n s m p = 6 := by rw [aErr_in hw0 hm200, fw_hit (k := k) hz (by rw [hc]; decide) (by omega), hc]
                exact ⟨.inl ⟨by rw [e]; decide, by rw [e]⟩, hbel⟩)
       ·
        have hF : Facts [((.le (.lit (1)) (.var 0)), true), ((.le (.var 0) (.lit (64))), true), ((.le (.lit (1)) (.var 1)), true), ((.le (.var 1) (.lit (64))), true), ((.inr .i64 (.mul (.var 0) (.var 1))), true), ((.eq (.var 2) (.mul (.var 0) (.var 1))), true), ((.eq (.var 5) (.lit (0))), true), ((.le (.var 3) (.lit (200))), false)] := ⟨f_le f1 rfl rfl, f_le f2 rfl rfl, f_le f3 rfl rfl, f_le f4 rfl rfl, f_in f5 rfl, f_eq f6 rfl rfl, f_eq f7 rfl rfl, f_nle f8 rfl rfl, trivial⟩
        refine call_start (P := Try.prog) (K := fwwK 4) (fl := []) (by kernel_rfl) (by kernel_rfl) hx hfar (fwwK_ok (n := n) (s := s) rfl rfl rfl rfl hn) (facD_ok hF) (fin_gen (r := (.tup [(.pl (.slice none 0 0)), (.pl (.int .i64 (8)))])) (h' := { bl := [some (.cells [(.pl (.int .i64 (0))), (.pl (.int .i64 (8)))] 28 false), some (.cells [(.si .i64 (.var 0)), (.si .i64 (.var 1)), (.fsl 0 1 (.lit (0)) (.var 2))] 40 false)], n := 2, base := 0, ch := [] }) (by kernel_rfl) fun V mb gb v W' hv hw hbel => ?_)
        obtain rfl := rep_den _ (.tuple #[.slice none 0 0, .int .i64 8]) _ rfl hv
        have e : aErr R C n s m p = 8 := by
          unfold aErr wrErr szErr
          simp [f1, f2, f3, f4, f6, f7, f8]
        exact ⟨.inl ⟨by rw [e]; first | decide | assumption, by rw [e]⟩, hbel⟩
      ·
       by_cases f8 : (m : Int) ≤ 200
       ·
        have hF : Facts [((.le (.lit (1)) (.var 0)), true), ((.le (.var 0) (.lit (64))), true), ((.le (.lit (1)) (.var 1)), true), ((.le (.var 1) (.lit (64))), true), ((.inr .i64 (.mul (.var 0) (.var 1))), true), ((.eq (.var 2) (.mul (.var 0) (.var 1))), true), ((.eq (.var 5) (.lit (0))), false), ((.le (.var 3) (.lit (200))), true)] := ⟨f_le f1 rfl rfl, f_le f2 rfl rfl, f_le f3 rfl rfl, f_le f4 rfl rfl, f_in f5 rfl, f_eq f6 rfl rfl, f_ne f7 rfl rfl, f_le f8 rfl rfl, trivial⟩
        refine call_start (P := Try.prog) (K := fwwK 4) (fl := []) (by kernel_rfl) (by kernel_rfl) hx hfar (fwwK_ok (n := n) (s := s) rfl rfl rfl rfl hn) (facD_ok hF) (fin_gen (r := (.tup [(.pl (.slice none 0 0)), (.si .i64 (.var 5))])) (h' := { bl := [some (.cells [(.si .i64 (.var 5)), (.pl (.int .i64 (0)))] 28 false), some (.cells [(.si .i64 (.var 0)), (.si .i64 (.var 1)), (.fsl 0 1 (.lit (0)) (.var 2))] 40 false)], n := 2, base := 0, ch := [] }) (by kernel_rfl) fun V mb gb v W' hv hw hbel => ?_)
        obtain rfl := rep_den _ (.tuple #[.slice none 0 0, .int .i64 (prR n s).2]) _ rfl hv
        have e : aErr R C n s m p = (prR n s).2 := by
          unfold aErr wrErr szErr
          simp [f1, f2, f3, f4, f6, f7, f8]
        exact ⟨.inl ⟨by rw [e]; first | decide | assumption, by rw [e]⟩, hbel⟩
       ·
        have hF : Facts [((.le (.lit (1)) (.var 0)), true), ((.le (.var 0) (.lit (64))), true), ((.le (.lit (1)) (.var 1)), true), ((.le (.var 1) (.lit (64))), true), ((.inr .i64 (.mul (.var 0) (.var 1))), true), ((.eq (.var 2) (.mul (.var 0) (.var 1))), true), ((.eq (.var 5) (.lit (0))), false), ((.le (.var 3) (.lit (200))), false)] := ⟨f_le f1 rfl rfl, f_le f2 rfl rfl, f_le f3 rfl rfl, f_le f4 rfl rfl, f_in f5 rfl, f_eq f6 rfl rfl, f_ne f7 rfl rfl, f_nle f8 rfl rfl, trivial⟩
        refine call_start (P := Try.prog) (K := fwwK 4) (fl := []) (by kernel_rfl) (by kernel_rfl) hx hfar (fwwK_ok (n := n) (s := s) rfl rfl rfl rfl hn) (facD_ok hF) (fin_gen (r := (.tup [(.pl (.slice none 0 0)), (.si .i64 (.var 5))])) (h' := { bl := [some (.cells [(.si .i64 (.var 5)), (.pl (.int .i64 (8)))] 28 false), some (.cells [(.si .i64 (.var 0)), (.si .i64 (.var 1)), (.fsl 0 1 (.lit (0)) (.var 2))] 40 false)], n := 2, base := 0, ch := [] }) (by kernel_rfl) fun V mb gb v W' hv hw hbel => ?_)
        obtain rfl := rep_den _ (.tuple #[.slice none 0 0, .int .i64 (prR n s).2]) _ rfl hv
        have e : aErr R C n s m p = (prR n s).2 := by
          unfold aErr wrErr szErr
          simp [f1, f2, f3, f4, f6, f7, f8]
        exact ⟨.inl ⟨by rw [e]; first | decide | assumption, by rw [e]⟩, hbel⟩
     ·
      by_cases f7 : (m : Int) ≤ 200
      ·
       have hF : Facts [((.le (.lit (1)) (.var 0)), true), ((.le (.var 0) (.lit (64))), true), ((.le (.lit (1)) (.var 1)), true), ((.le (.var 1) (.lit (64))), true), ((.inr .i64 (.mul (.var 0) (.var 1))), true), ((.eq (.var 2) (.mul (.var 0) (.var 1))), false), ((.le (.var 3) (.lit (200))), true)] := ⟨f_le f1 rfl rfl, f_le f2 rfl rfl, f_le f3 rfl rfl, f_le f4 rfl rfl, f_in f5 rfl, f_ne f6 rfl rfl, f_le f7 rfl rfl, trivial⟩
       refine call_start (P := Try.prog) (K := fwwK 4) (fl := []) (by kernel_rfl) (by kernel_rfl) hx hfar (fwwK_ok (n := n) (s := s) rfl rfl rfl rfl hn) (facD_ok hF) (fin_gen (r := (.tup [(.pl (.slice none 0 0)), (.pl (.int .i64 (10)))])) (h' := { bl := [some (.cells [(.pl (.int .i64 (10))), (.pl (.int .i64 (0)))] 28 false), some (.cells [(.si .i64 (.var 0)), (.si .i64 (.var 1)), (.fsl 0 1 (.lit (0)) (.var 2))] 40 false)], n := 2, base := 0, ch := [] }) (by kernel_rfl) fun V mb gb v W' hv hw hbel => ?_)
       obtain rfl := rep_den _ (.tuple #[.slice none 0 0, .int .i64 10]) _ rfl hv
       have e : aErr R C n s m p = 10 := by
         unfold aErr wrErr szErr
         simp [f1, f2, f3, f4, f6, f7]
       exact ⟨.inl ⟨by rw [e]; first | decide | assumption, by rw [e]⟩, hbel⟩
      ·
       have hF : Facts [((.le (.lit (1)) (.var 0)), true), ((.le (.var 0) (.lit (64))), true), ((.le (.lit (1)) (.var 1)), true), ((.le (.var 1) (.lit (64))), true), ((.inr .i64 (.mul (.var 0) (.var 1))), true), ((.eq (.var 2) (.mul (.var 0) (.var 1))), false), ((.le (.var 3) (.lit (200))), false)] := ⟨f_le f1 rfl rfl, f_le f2 rfl rfl, f_le f3 rfl rfl, f_le f4 rfl rfl, f_in f5 rfl, f_ne f6 rfl rfl, f_nle f7 rfl rfl, trivial⟩
       refine call_start (P := Try.prog) (K := fwwK 4) (fl := []) (by kernel_rfl) (by kernel_rfl) hx hfar (fwwK_ok (n := n) (s := s) rfl rfl rfl rfl hn) (facD_ok hF) (fin_gen (r := (.tup [(.pl (.slice none 0 0)), (.pl (.int .i64 (10)))])) (h' := { bl := [some (.cells [(.pl (.int .i64 (10))), (.pl (.int .i64 (8)))] 28 false), some (.cells [(.si .i64 (.var 0)), (.si .i64 (.var 1)), (.fsl 0 1 (.lit (0)) (.var 2))] 40 false)], n := 2, base := 0, ch := [] }) (by kernel_rfl) fun V mb gb v W' hv hw hbel => ?_)
       obtain rfl := rep_den _ (.tuple #[.slice none 0 0, .int .i64 10]) _ rfl hv
       have e : aErr R C n s m p = 10 := by
         unfold aErr wrErr szErr
         simp [f1, f2, f3, f4, f6, f7]
       exact ⟨.inl ⟨by rw [e]; first | decide | assumption, by rw [e]⟩, hbel⟩
    ·
     by_cases f5 : (m : Int) ≤ 200
     ·
      have hF : Facts [((.le (.lit (1)) (.var 0)), true), ((.le (.var 0) (.lit (64))), true), ((.le (.lit (1)) (.var 1)), true), ((.le (.var 1) (.lit (64))), false), ((.le (.var 3) (.lit (200))), true)] := ⟨f_le f1 rfl rfl, f_le f2 rfl rfl, f_le f3 rfl rfl, f_nle f4 rfl rfl, f_le f5 rfl rfl, trivial⟩
      refine call_start (P := Try.prog) (K := fwwK 4) (fl := []) (by kernel_rfl) (by kernel_rfl) hx hfar (fwwK_ok (n := n) (s := s) rfl rfl rfl rfl hn) (facD_ok hF) (fin_gen (r := (.tup [(.pl (.slice none 0 0)), (.pl (.int .i64 (2)))])) (h' := { bl := [some (.cells [(.pl (.int .i64 (2))), (.pl (.int .i64 (0)))] 28 false), some (.cells [(.si .i64 (.var 0)), (.si .i64 (.var 1)), (.fsl 0 1 (.lit (0)) (.var 2))] 40 false)], n := 2, base := 0, ch := [] }) (by kernel_rfl) fun V mb gb v W' hv hw hbel => ?_)
      obtain rfl := rep_den _ (.tuple #[.slice none 0 0, .int .i64 2]) _ rfl hv
      have e : aErr R C n s m p = 2 := by
        unfold aErr wrErr szErr
        simp [f1, f2, f3, f4, f5]
      exact ⟨.inl ⟨by rw [e]; first | decide | assumption, by rw [e]⟩, hbel⟩
     ·
      have hF : Facts [((.le (.lit (1)) (.var 0)), true), ((.le (.var 0) (.lit (64))), true), ((.le (.lit (1)) (.var 1)), true), ((.le (.var 1) (.lit (64))), false), ((.le (.var 3) (.lit (200))), false)] := ⟨f_le f1 rfl rfl, f_le f2 rfl rfl, f_le f3 rfl rfl, f_nle f4 rfl rfl, f_nle f5 rfl rfl, trivial⟩
      refine call_start (P := Try.prog) (K := fwwK 4) (fl := []) (by kernel_rfl) (by kernel_rfl) hx hfar (fwwK_ok (n := n) (s := s) rfl rfl rfl rfl hn) (facD_ok hF) (fin_gen (r := (.tup [(.pl (.slice none 0 0)), (.pl (.int .i64 (2)))])) (h' := { bl := [some (.cells [(.pl (.int .i64 (2))), (.pl (.int .i64 (8)))] 28 false), some (.cells [(.si .i64 (.var 0)), (.si .i64 (.var 1)), (.fsl 0 1 (.lit (0)) (.var 2))] 40 false)], n := 2, base := 0, ch := [] }) (by kernel_rfl) fun V mb gb v W' hv hw hbel => ?_)
      obtain rfl := rep_den _ (.tuple #[.slice none 0 0, .int .i64 2]) _ rfl hv
      have e : aErr R C n s m p = 2 := by
        unfold aErr wrErr szErr
        simp [f1, f2, f3, f4, f5]
      exact ⟨.inl ⟨by rw [e]; first | decide | assumption, by rw [e]⟩, hbel⟩
   ·
    by_cases f4 : (m : Int) ≤ 200
    ·
     have hF : Facts [((.le (.lit (1)) (.var 0)), true), ((.le (.var 0) (.lit (64))), true), ((.le (.lit (1)) (.var 1)), false), ((.le (.var 3) (.lit (200))), true)] := ⟨f_le f1 rfl rfl, f_le f2 rfl rfl, f_nle f3 rfl rfl, f_le f4 rfl rfl, trivial⟩
     refine call_start (P := Try.prog) (K := fwwK 4) (fl := []) (by kernel_rfl) (by kernel_rfl) hx hfar (fwwK_ok (n := n) (s := s) rfl rfl rfl rfl hn) (facD_ok hF) (fin_gen (r := (.tup [(.pl (.slice none 0 0)), (.pl (.int .i64 (2)))])) (h' := { bl := [some (.cells [(.pl (.int .i64 (2))), (.pl (.int .i64 (0)))] 28 false), some (.cells [(.si .i64 (.var 0)), (.si .i64 (.var 1)), (.fsl 0 1 (.lit (0)) (.var 2))] 40 false)], n := 2, base := 0, ch := [] }) (by kernel_rfl) fun V mb gb v W' hv hw hbel => ?_)
     obtain rfl := rep_den _ (.tuple #[.slice none 0 0, .int .i64 2]) _ rfl hv
     have e : aErr R C n s m p = 2 := by
       unfold aErr wrErr szErr
       simp [f1, f2, f3, f4]
     exact ⟨.inl ⟨by rw [e]; first | decide | assumption, by rw [e]⟩, hbel⟩
    ·
     have hF : Facts [((.le (.lit (1)) (.var 0)), true), ((.le (.var 0) (.lit (64))), true), ((.le (.lit (1)) (.var 1)), false), ((.le (.var 3) (.lit (200))), false)] := ⟨f_le f1 rfl rfl, f_le f2 rfl rfl, f_nle f3 rfl rfl, f_nle f4 rfl rfl, trivial⟩
     refine call_start (P := Try.prog) (K := fwwK 4) (fl := []) (by kernel_rfl) (by kernel_rfl) hx hfar (fwwK_ok (n := n) (s := s) rfl rfl rfl rfl hn) (facD_ok hF) (fin_gen (r := (.tup [(.pl (.slice none 0 0)), (.pl (.int .i64 (2)))])) (h' := { bl := [some (.cells [(.pl (.int .i64 (2))), (.pl (.int .i64 (8)))] 28 false), some (.cells [(.si .i64 (.var 0)), (.si .i64 (.var 1)), (.fsl 0 1 (.lit (0)) (.var 2))] 40 false)], n := 2, base := 0, ch := [] }) (by kernel_rfl) fun V mb gb v W' hv hw hbel => ?_)
     obtain rfl := rep_den _ (.tuple #[.slice none 0 0, .int .i64 2]) _ rfl hv
     have e : aErr R C n s m p = 2 := by
       unfold aErr wrErr szErr
       simp [f1, f2, f3, f4]
     exact ⟨.inl ⟨by rw [e]; first | decide | assumption, by rw [e]⟩, hbel⟩
  ·
   by_cases f3 : (m : Int) ≤ 200
   ·
    have hF : Facts [((.le (.lit (1)) (.var 0)), true), ((.le (.var 0) (.lit (64))), false), ((.le (.var 3) (.lit (200))), true)] := ⟨f_le f1 rfl rfl, f_nle f2 rfl rfl, f_le f3 rfl rfl, trivial⟩
    refine call_start (P := Try.prog) (K := fwwK 4) (fl := []) (by kernel_rfl) (by kernel_rfl) hx hfar (fwwK_ok (n := n) (s := s) rfl rfl rfl rfl hn) (facD_ok hF) (fin_gen (r := (.tup [(.pl (.slice none 0 0)), (.pl (.int .i64 (2)))])) (h' := { bl := [some (.cells [(.pl (.int .i64 (2))), (.pl (.int .i64 (0)))] 28 false), some (.cells [(.si .i64 (.var 0)), (.si .i64 (.var 1)), (.fsl 0 1 (.lit (0)) (.var 2))] 40 false)], n := 2, base := 0, ch := [] }) (by kernel_rfl) fun V mb gb v W' hv hw hbel => ?_)
    obtain rfl := rep_den _ (.tuple #[.slice none 0 0, .int .i64 2]) _ rfl hv
    have e : aErr R C n s m p = 2 := by
      unfold aErr wrErr szErr
      simp [f1, f2, f3]
    exact ⟨.inl ⟨by rw [e]; first | decide | assumption, by rw [e]⟩, hbel⟩
   ·
    have hF : Facts [((.le (.lit (1)) (.var 0)), true), ((.le (.var 0) (.lit (64))), false), ((.le (.var 3) (.lit (200))), false)] := ⟨f_le f1 rfl rfl, f_nle f2 rfl rfl, f_nle f3 rfl rfl, trivial⟩
    refine call_start (P := Try.prog) (K := fwwK 4) (fl := []) (by kernel_rfl) (by kernel_rfl) hx hfar (fwwK_ok (n := n) (s := s) rfl rfl rfl rfl hn) (facD_ok hF) (fin_gen (r := (.tup [(.pl (.slice none 0 0)), (.pl (.int .i64 (2)))])) (h' := { bl := [some (.cells [(.pl (.int .i64 (2))), (.pl (.int .i64 (8)))] 28 false), some (.cells [(.si .i64 (.var 0)), (.si .i64 (.var 1)), (.fsl 0 1 (.lit (0)) (.var 2))] 40 false)], n := 2, base := 0, ch := [] }) (by kernel_rfl) fun V mb gb v W' hv hw hbel => ?_)
    obtain rfl := rep_den _ (.tuple #[.slice none 0 0, .int .i64 2]) _ rfl hv
    have e : aErr R C n s m p = 2 := by
      unfold aErr wrErr szErr
      simp [f1, f2, f3]
    exact ⟨.inl ⟨by rw [e]; first | decide | assumption, by rw [e]⟩, hbel⟩
 ·
  by_cases f2 : (m : Int) ≤ 200
  ·
   have hF : Facts [((.le (.lit (1)) (.var 0)), false), ((.le (.var 3) (.lit (200))), true)] := ⟨f_nle f1 rfl rfl, f_le f2 rfl rfl, trivial⟩
   refine call_start (P := Try.prog) (K := fwwK 4) (fl := []) (by kernel_rfl) (by kernel_rfl) hx hfar (fwwK_ok (n := n) (s := s) rfl rfl rfl rfl hn) (facD_ok hF) (fin_gen (r := (.tup [(.pl (.slice none 0 0)), (.pl (.int .i64 (2)))])) (h' := { bl := [some (.cells [(.pl (.int .i64 (2))), (.pl (.int .i64 (0)))] 28 false), some (.cells [(.si .i64 (.var 0)), (.si .i64 (.var 1)), (.fsl 0 1 (.lit (0)) (.var 2))] 40 false)], n := 2, base := 0, ch := [] }) (by kernel_rfl) fun V mb gb v W' hv hw hbel => ?_)
   obtain rfl := rep_den _ (.tuple #[.slice none 0 0, .int .i64 2]) _ rfl hv
   have e : aErr R C n s m p = 2 := by
     unfold aErr wrErr szErr
     simp [f1, f2]
   exact ⟨.inl ⟨by rw [e]; first | decide | assumption, by rw [e]⟩, hbel⟩
  ·
   have hF : Facts [((.le (.lit (1)) (.var 0)), false), ((.le (.var 3) (.lit (200))), false)] := ⟨f_nle f1 rfl rfl, f_nle f2 rfl rfl, trivial⟩
   refine call_start (P := Try.prog) (K := fwwK 4) (fl := []) (by kernel_rfl) (by kernel_rfl) hx hfar (fwwK_ok (n := n) (s := s) rfl rfl rfl rfl hn) (facD_ok hF) (fin_gen (r := (.tup [(.pl (.slice none 0 0)), (.pl (.int .i64 (2)))])) (h' := { bl := [some (.cells [(.pl (.int .i64 (2))), (.pl (.int .i64 (8)))] 28 false), some (.cells [(.si .i64 (.var 0)), (.si .i64 (.var 1)), (.fsl 0 1 (.lit (0)) (.var 2))] 40 false)], n := 2, base := 0, ch := [] }) (by kernel_rfl) fun V mb gb v W' hv hw hbel => ?_)
   obtain rfl := rep_den _ (.tuple #[.slice none 0 0, .int .i64 2]) _ rfl hv
   have e : aErr R C n s m p = 2 := by
     unfold aErr wrErr szErr
     simp [f1, f2]
   exact ⟨.inl ⟨by rw [e]; first | decide | assumption, by rw [e]⟩, hbel⟩

end Go.Proofs.Ytmglofemnobakaa
