/- Contracts: roots of whole numbers, the code's by the float's root, the reference's digit by digit. -/
import Derived.Test.YtegmjanpeaibcaaOfs
import Derived.Test.YtegmjanpeaibcaaOlo
import Derived.Laws.Externs
namespace Go.Proofs.Ytegmjanpeaibcaa
open Go.RowKit
set_option maxHeartbeats 400000
set_option maxRecDepth 100000

/-- the true root of a whole number, rounded down; rounded up -/
def rt (n : Int) : Int := ((Ieee.Datum.rootFrom n.toNat 31 0 : Nat) : Int)
theorem rt_nat {n : Int} (h1 : n < 4611686018427387904) :
    Ieee.Datum.rootFrom n.toNat 31 0 * Ieee.Datum.rootFrom n.toNat 31 0 ≤ n.toNat ∧ n.toNat < (Ieee.Datum.rootFrom n.toNat 31 0 + 1) * (Ieee.Datum.rootFrom n.toNat 31 0 + 1) := by
  refine rootFrom_spec n.toNat 31 0 (by omega) ?_
  rw [Nat.zero_add]
  have : (2 : Nat) ^ 31 * 2 ^ 31 = 4611686018427387904 := by decide
  omega
theorem rt_spec {n : Int} (h0 : 0 ≤ n) (h1 : n < 4611686018427387904) : 0 ≤ rt n ∧ rt n * rt n ≤ n ∧ n < (rt n + 1) * (rt n + 1) := by
  obtain ⟨a, b⟩ := rt_nat h1
  unfold rt
  generalize Ieee.Datum.rootFrom n.toNat 31 0 = r at a b
  have a' : ((r * r : Nat) : Int) ≤ (n.toNat : Int) := by omega
  have b' : (n.toNat : Int) < (((r + 1) * (r + 1) : Nat) : Int) := by omega
  push_cast at a' b'
  rw [Int.toNat_of_nonneg h0] at a' b'
  exact ⟨by omega, a', b'⟩
theorem rt_of {n r : Int} (h0 : 0 ≤ n) (h1 : n < 4611686018427387904) (hr : 0 ≤ r) (a : r * r ≤ n) (b : n < (r + 1) * (r + 1)) : rt n = r := by
  obtain ⟨c, d, e⟩ := rt_spec h0 h1
  rcases Int.lt_trichotomy (rt n) r with q | q | q
  · have := Int.mul_le_mul (show rt n + 1 ≤ r by omega) (show rt n + 1 ≤ r by omega) (by omega) hr
    omega
  · exact q
  · have := Int.mul_le_mul (show r + 1 ≤ rt n by omega) (show r + 1 ≤ rt n by omega) (by omega) c
    omega
def ru (n : Int) : Int := if rt n * rt n < n then rt n + 1 else rt n
theorem rt_small {n : Int} (h0 : 0 ≤ n) (h1 : n < 144115188075855872) : rt n < 536870912 := by
  obtain ⟨c, d, e⟩ := rt_spec h0 (by omega)
  rcases Int.lt_or_le (rt n) 536870912 with q | q
  · exact q
  · have := Int.mul_le_mul q q (by omega) c
    omega
theorem rt_tiny {n : Int} (h0 : 0 ≤ n) (h1 : n < 4611686018427387904) : rt n ≤ 2147483648 := by
  obtain ⟨c, d, e⟩ := rt_spec h0 h1
  rcases Int.lt_or_le 2147483648 (rt n) with q | q
  · have := Int.mul_le_mul (Int.le_of_lt q) (Int.le_of_lt q) (by omega) c
    omega
  · exact q
theorem ru_spec {n : Int} (h0 : 0 ≤ n) (h1 : n < 4611686018427387904) : rt n ≤ ru n ∧ ru n ≤ rt n + 1 ∧ n ≤ ru n * ru n := by
  obtain ⟨c, d, e⟩ := rt_spec h0 h1
  unfold ru
  split
  · exact ⟨by omega, by omega, by omega⟩
  · exact ⟨by omega, by omega, by omega⟩

theorem run_sqrtO (b r : Nat) (h : FloatKind.f64.format.sqrt b = some r) (w : World) : (callFunc 140 #[.float .f64 b]).run Try.prog w = .ok (.value (.float .f64 r)) w := by
  rw [run_callFunc_extern Try.func140 (by kernel_rfl) (by kernel_rfl) (by kernel_rfl) (e := Extern.MathSqrt.sqrt) (by kernel_rfl)]
  have e : (Extern.MathSqrt.sqrt #[.float .f64 b]).run Try.prog w = .ok (.float .f64 r) w := by
    have hf : ∃ rest : Sem Value, Extern.MathSqrt.sqrt #[.float .f64 b] = (match FloatKind.f64.format.sqrt b with
      | some r => pure (Value.float .f64 r)
      | none => rest) := ⟨_, rfl⟩
    obtain ⟨rest, hr⟩ := hf
    rw [hr, h]
    rfl
  rw [e]; rfl
theorem mathSqrt_any (b r : Nat) (hr : FloatKind.f64.format.sqrt b = some r) (w : World) :
    Calls Try.prog 132 #[.float .f64 b] w fun e w' => e = .returned (.float .f64 r) ∧ w = w' := by
  have h1 := fun w => run_sqrtO b r hr w
  clear hr
  go_enter Try.func132, Try.ntmps132
  go_wp2
  go_ret
  exact ⟨rfl, rfl⟩

theorem rootDown_any (n : Int) (w : World) (h0 : 0 ≤ n) (h1 : n < 144115188075855872) :
    Calls Try.prog 91 #[.int .i64 n] w fun e w' => e = .returned (.int .i64 (rt n)) ∧ w = w' := by
  obtain ⟨c, d, e⟩ := rt_spec h0 (by omega)
  have hs := rt_small h0 h1
  obtain ⟨a, b⟩ := rt_nat (n := n) (by omega)
  obtain ⟨q, hq, g, hg, k1, k2⟩ := sqrt_root n.toNat _ (by have : (2 : Nat) ^ 57 = 144115188075855872 := by decide
                                                           omega) a b
  rw [show (n.toNat : Int) = n by omega] at hq
  have g1 : rt n ≤ g := k1
  have g2 : g ≤ rt n + 1 := k2
  clear a b k1 k2
  have hc : ∀ w, (convert 163 3 (.float .f64 q)).run Try.prog w = .ok (.int .i64 g) w := fun w => run_convert_float_int w _ _ _ _ _ _ (by kernel_rfl) Try.underlying3 hg
  have HQ := Lib.hid hq
  obtain ⟨r, hr⟩ : ∃ r, r = rt n := ⟨_, rfl⟩
  rw [← hr] at c d e hs g1 g2 ⊢
  have hgg : 0 ≤ g * g := Int.mul_nonneg (by omega) (by omega)
  have hgt : g * g ≤ 288230376151711744 := by
    have := Int.mul_le_mul (show g ≤ 536870912 by omega) (show g ≤ 536870912 by omega) (by omega) (by omega)
    omega
  have g0 : 0 ≤ g := by omega
  have gt : g ≤ 536870912 := by omega
  by_cases hlt : n < g * g
  · have hrg : g = r + 1 := by
      rcases Int.lt_or_le r g with q | q
      · omega
      · have : g = r := by omega
        rw [this] at hlt
        omega
    have HRG := Lib.hid hrg
    have d1 : decide (n < g * g) = true := decide_eq_true hlt
    clear hq hr hg hrg c d e hs g1 g2
    go_enter Try.func91, Try.ntmps91
    go_wp2_with (go_at_call 132; refine (mathSqrt_any _ q HQ.out _).mono ?_; rintro e w' ⟨rfl, rfl⟩)
    go_ret
    refine ⟨?_, rfl⟩
    rw [HRG.out]
    have e1 : r + 1 - 1 = r := by omega
    rw [e1]
    rfl
  · have hrg : g = r := by
      rcases Int.lt_or_le r g with q | q
      · have : g = r + 1 := by omega
        rw [this] at hlt
        omega
      · omega
    have HRG := Lib.hid hrg
    have d1 : decide (n < g * g) = false := decide_eq_false hlt
    clear hq hr hg hrg c d e hs g1 g2
    go_enter Try.func91, Try.ntmps91
    go_wp2_with (go_at_call 132; refine (mathSqrt_any _ q HQ.out _).mono ?_; rintro e w' ⟨rfl, rfl⟩)
    go_ret
    refine ⟨?_, rfl⟩
    rw [HRG.out]
    rfl

theorem rootUp_any (n : Int) (w : World) (h0 : 0 ≤ n) (h1 : n < 144115188075855872) :
    Calls Try.prog 92 #[.int .i64 n] w fun e w' => e = .returned (.int .i64 (ru n)) ∧ w = w' := by
  obtain ⟨c, d, e⟩ := rt_spec h0 (by omega)
  have hs := rt_small h0 h1
  have hC := rootDown_any n
  have hu : ru n = if rt n * rt n < n then rt n + 1 else rt n := rfl
  have hn : 0 ≤ rt n * rt n := Int.mul_nonneg c c
  generalize rt n = r at *
  have HC := Lib.hid hC
  have H0 := Lib.hid h0
  have H1 := Lib.hid h1
  have hgt : r * r ≤ 288230376151711744 := by omega
  by_cases hlt : r * r < n
  · rw [if_pos hlt] at hu
    rw [hu]
    have d1 : decide (r * r < n) = true := decide_eq_true hlt
    clear hu hC e h0 h1
    go_enter Try.func92, Try.ntmps92
    go_wp2_with (go_at_call 91; refine (HC.out _ H0.out H1.out).mono ?_; rintro e w' ⟨rfl, rfl⟩)
    go_ret
    exact ⟨rfl, rfl⟩
  · rw [if_neg hlt] at hu
    rw [hu]
    have d1 : decide (r * r < n) = false := decide_eq_false hlt
    clear hu hC e h0 h1
    go_enter Try.func92, Try.ntmps92
    go_wp2_with (go_at_call 91; refine (HC.out _ H0.out H1.out).mono ?_; rintro e w' ⟨rfl, rfl⟩)
    go_ret
    exact ⟨rfl, rfl⟩

theorem baseRoot_any (n : Int) (w : World) (h0 : 0 ≤ n) (h1 : n ≤ 1152921504606846976) :
    Calls Try.prog 95 #[.int .i64 n] w fun e w' => e = .returned (.int .i64 (rt n)) ∧ w = w' := by
  have HR : Hid (∀ r, 0 ≤ r → r * r ≤ n → n < (r + 1) * (r + 1) → rt n = r) := fun r a b c => rt_of h0 (by omega) a b c
  go_enter Try.func95, Try.ntmps95
  go_wp2
  go_loop [3, 4] (fun i3 i4 => ∃ (k : Nat) (r b : Int), i3 = .int .i64 r ∧ i4 = .int .i64 b ∧ 0 ≤ r ∧ r * r ≤ n ∧ n < (r + 2 ^ k) * (r + 2 ^ k) ∧ r + 2 ^ k ≤ 2147483648 ∧ 2 * b ≤ 2 ^ k ∧ 2 ^ k ≤ 2 * b + 1 ∧ (0 < b → ∃ j : Nat, k = j + 1 ∧ b = 2 ^ j)) (fun _ i => (intOf i).toNat)
  case atStart => exact ⟨31, 0, 1073741824, rfl, rfl, by omega, by omega, (by rw [show (0 : Int) + 2 ^ 31 = 2147483648 by decide]; omega), by decide, by decide, by decide, fun _ => ⟨30, rfl, by decide⟩⟩
  case round =>
    obtain ⟨k, r, b, rfl, rfl, hr0, hr1, hr2, hr3, hb1, hb2, hbj⟩ := hrel
    by_cases hb : 0 < b
    · obtain ⟨j, rfl, hbe⟩ := hbj hb
      have hp : (2 : Int) ^ (j + 1) = 2 * b := by rw [Int.pow_succ, ← hbe]; omega
      rw [hp] at hr2 hr3
      have s0 : 0 ≤ r + b := by omega
      have s1 : r + b ≤ 2147483648 := by omega
      have p0 : 0 ≤ (r + b) * (r + b) := Int.mul_nonneg s0 s0
      have p1 : (r + b) * (r + b) ≤ 4611686018427387904 := by
        have := Int.mul_le_mul s1 s1 s0 (by omega)
        omega
      have r4 : r ≤ 2147483648 := by omega
      have b4 : b ≤ 2147483648 := by omega
      have hhalf : 0 ≤ b / 2 ∧ b / 2 < b := by omega
      have HNEXT : Hid (2 * (b / 2) ≤ 2 ^ j ∧ 2 ^ j ≤ 2 * (b / 2) + 1 ∧ (0 < b / 2 → ∃ i : Nat, j = i + 1 ∧ b / 2 = 2 ^ i)) := by
        refine ⟨by omega, by omega, fun hpos => ?_⟩
        cases j with
        | zero => exfalso; rw [hbe] at hpos; exact absurd hpos (by decide)
        | succ i => exact ⟨i, rfl, by rw [hbe, Int.pow_succ]; omega⟩
      have HBE := Lib.hid hbe
      have HR2 := Lib.hid hr2
      have HR3 := Lib.hid hr3
      clear hbe hp hr2 hr3 hb1 hb2 hbj
      by_cases hl : (r + b) * (r + b) ≤ n
      · go_wp2
        go_round
        case rel =>
          refine ⟨j, r + b, b / 2, rfl, by first | rfl | go_num, by omega, hl, ?_, ?_, HNEXT.out.1, HNEXT.out.2.1, HNEXT.out.2.2⟩
          · rw [← HBE.out, show r + b + b = r + 2 * b by omega]; exact HR2.out
          · rw [← HBE.out]; have := HR3.out; omega
        case measure => simp [intOf]; omega
      · have hl2 : n < (r + b) * (r + b) := by omega
        have HL2 := Lib.hid hl2
        go_wp2
        go_round
        case rel =>
          refine ⟨j, r, b / 2, rfl, by first | rfl | go_num, hr0, hr1, ?_, ?_, HNEXT.out.1, HNEXT.out.2.1, HNEXT.out.2.2⟩
          · rw [← HBE.out]; exact HL2.out
          · rw [← HBE.out]; omega
        case measure => simp [intOf]; omega
    · have hk : (2 : Int) ^ k = 1 := by
        have : (0 : Int) < 2 ^ k := Int.pow_pos (by decide)
        omega
      rw [hk] at hr2
      have HF := Lib.hid (HR.out r hr0 hr1 hr2)
      clear hr2 hr3 hb1 hb2 hbj hk
      go_wp2
      go_ret
      rw [HF.out]
      exact ⟨rfl, rfl⟩

theorem refRootUp_any (n : Int) (w : World) (h0 : 0 ≤ n) (h1 : n ≤ 1152921504606846976) :
    Calls Try.prog 96 #[.int .i64 n] w fun e w' => e = .returned (.int .i64 (ru n)) ∧ w = w' := by
  obtain ⟨c, d, e⟩ := rt_spec h0 (by omega)
  have hs := rt_tiny h0 (by omega)
  have hC := baseRoot_any n
  have hu : ru n = if rt n * rt n < n then rt n + 1 else rt n := rfl
  have hn : 0 ≤ rt n * rt n := Int.mul_nonneg c c
  generalize rt n = r at *
  have HC := Lib.hid hC
  have H0 := Lib.hid h0
  have H1 := Lib.hid h1
  have hgt : r * r ≤ 1152921504606846976 := by omega
  by_cases hlt : r * r < n
  · rw [if_pos hlt] at hu
    rw [hu]
    have d1 : decide (r * r < n) = true := decide_eq_true hlt
    clear hu hC e h0 h1
    go_enter Try.func96, Try.ntmps96
    go_wp2_with (go_at_call 95; refine (HC.out _ H0.out H1.out).mono ?_; rintro e w' ⟨rfl, rfl⟩)
    go_ret
    exact ⟨rfl, rfl⟩
  · rw [if_neg hlt] at hu
    rw [hu]
    have d1 : decide (r * r < n) = false := decide_eq_false hlt
    clear hu hC e h0 h1
    go_enter Try.func96, Try.ntmps96
    go_wp2_with (go_at_call 95; refine (HC.out _ H0.out H1.out).mono ?_; rintro e w' ⟨rfl, rfl⟩)
    go_ret
    exact ⟨rfl, rfl⟩
end Go.Proofs.Ytegmjanpeaibcaa
