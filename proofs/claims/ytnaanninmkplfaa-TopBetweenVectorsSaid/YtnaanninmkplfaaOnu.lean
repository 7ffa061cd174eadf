/- Contracts of package orbit: quotients; moments. -/
import Derived.Test.YtnaanninmkplfaaOpa
namespace Go.Proofs.Ytnaanninmkplfaa
open Go.RowKit
set_option maxHeartbeats 200000
set_option maxRecDepth 100000

theorem checkTick_any (s : ByteArray) (b : Int) (A : Option Addr) (n c : Nat) (S : Nat → Nat → Int) (t : Int) (w : World) (hS : St w A n S) (hm : n ≤ maxLen) :
    Calls Try.prog 86 #[.agg #[.string s, .int .i64 b, .slice A n c], .int .i64 t] w fun e w' => e = .returned (.int .i64 (eif (!hasB S n t) 2)) ∧ Below w.heap.size w w' := by
  have HS := Lib.hid (hS.alloc (.cells #[.string s, .int .i64 b, .slice A n c] 126))
  have HM := Lib.hid hm
  clear hS hm
  go_enter Try.func86, Try.ntmps86
  go_wp2_with fail
  refine (has_any s b A n c S t _ HS.out HM.out).mono ?_
  rintro e w1 ⟨rfl, hb1⟩
  have hB : Below w.heap.size w w1 := (below_new (Below.refl _ w) (Nat.le_refl _)).trans (hb1.mono (by simp))
  clear hb1
  go_wp2_with (go_at_call 71; refine (errorIf_any _ _ _).mono ?_; rintro e w' ⟨rfl, rfl⟩)
  go_ret
  exact ⟨rfl, hB⟩

theorem tdiv_range {a b : Int} (_hb : 0 < b) (h : -4611686018427387904 ≤ a ∧ a ≤ 4611686018427387904) : -4611686018427387904 ≤ a.tdiv b ∧ a.tdiv b ≤ 4611686018427387904 := by
  have h1 := Int.natAbs_tdiv_le_natAbs a b
  omega
theorem tmod_range {a b : Int} (hb : 0 < b) : -b < a.tmod b ∧ a.tmod b < b := by
  refine ⟨?_, Int.tmod_lt_of_pos a hb⟩
  have := Int.tmod_lt_of_pos (-a) hb
  rw [Int.neg_tmod] at this
  omega

theorem divideDown_any (a b : Int) (w : World) (hb : 0 < b) (hb2 : b ≤ 4611686018427387904) (ha : -4611686018427387904 ≤ a ∧ a ≤ 4611686018427387904) :
    Calls Try.prog 129 #[.int .i64 a, .int .i64 b] w fun e w' => e = .returned (.int .i64 (a / b)) ∧ w = w' := by
  have HF := Lib.hid (flo_eq (a := a) hb)
  obtain ⟨q1, q2⟩ := tdiv_range hb ha
  obtain ⟨r1, r2⟩ := tmod_range (a := a) hb
  have hne : ¬ b = 0 := by omega
  have wq : IntKind.i64.wrap (a.tdiv b) = a.tdiv b := IntWalk.i64_in _ (by omega)
  have wr : IntKind.i64.wrap (a.tmod b) = a.tmod b := IntWalk.i64_in _ (by omega)
  by_cases h : a.tmod b < 0
  · have hv : flo a b = a.tdiv b - 1 := by unfold flo; rw [if_pos h]
    have HV := Lib.hid hv
    clear hv
    go_enter Try.func129, Try.ntmps129
    go_wp2
    go_ret
    rw [← HF.out, HV.out]
    exact ⟨rfl, rfl⟩
  · have hv : flo a b = a.tdiv b := by unfold flo; rw [if_neg h]
    have HV := Lib.hid hv
    clear hv
    go_enter Try.func129, Try.ntmps129
    go_wp2
    go_ret
    rw [← HF.out, HV.out]
    exact ⟨rfl, rfl⟩

theorem divideUp_any (a b : Int) (w : World) (hb : 0 < b) (hb2 : b ≤ 4611686018427387904) (ha : -4611686018427387904 ≤ a ∧ a ≤ 4611686018427387904) :
    Calls Try.prog 133 #[.int .i64 a, .int .i64 b] w fun e w' => e = .returned (.int .i64 (-(-a / b))) ∧ w = w' := by
  have hr : -4611686018427387904 ≤ -a / b ∧ -a / b ≤ 4611686018427387904 := by
    rw [← flo_eq hb]
    have := tdiv_range (a := -a) hb (by omega)
    have e := flo_eq (a := -a) hb
    have h1 := (ediv_range (a := -a) (l := -4611686018427387904) (m := 4611686018427387904) hb (by have := Int.mul_le_mul_of_nonneg_left (show (1 : Int) ≤ b by omega) (show (0 : Int) ≤ 4611686018427387904 by omega); omega) (by have := Int.mul_le_mul_of_nonneg_left (show (1 : Int) ≤ b by omega) (show (0 : Int) ≤ 4611686018427387904 by omega); omega))
    rw [e]
    exact h1
  obtain ⟨h1, h2⟩ := hr
  obtain ⟨ha1, ha2⟩ := ha
  have wn : IntKind.i64.wrap (-a) = -a := IntWalk.i64_in _ (by omega)
  have wm : IntKind.i64.wrap (-(-a / b)) = -(-a / b) := IntWalk.i64_in _ (by omega)
  go_enter Try.func133, Try.ntmps133
  go_wp2_with fail
  refine (divideDown_any (-a) b _ hb hb2 (by omega)).mono ?_
  rintro e w1 ⟨rfl, rfl⟩
  go_wp2
  go_ret
  exact ⟨rfl, rfl⟩
end Go.Proofs.Ytnaanninmkplfaa
