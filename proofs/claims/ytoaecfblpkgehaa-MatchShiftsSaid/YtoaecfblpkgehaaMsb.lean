/- Match: the shift at a place: factorsAt, numerators, divideDown, sixteenths of the code; term of the reference. -/
import Derived.Test.YtoaecfblpkgehaaMsa
import Derived.Test.YtoaecfblpkgehaaGfl
import Derived.Deep.RegionHeld3
import Derived.StillTailTactics
namespace Go.Proofs.Ytoaecfblpkgehaa
open Go.RowKit
set_option maxHeartbeats 800000
set_option maxRecDepth 100000

theorem divideDown_any (a b : Int) (w : World) (hb : 0 < b) (hb2 : b ≤ 4611686018427387904) (ha : -4611686018427387904 ≤ a ∧ a ≤ 4611686018427387904) :
    Calls Try.prog 63 #[.int .i64 a, .int .i64 b] w fun e w' => e = .returned (.int .i64 (a / b)) ∧ w = w' := by
  have HF := Lib.hid (flo_eq (a := a) hb)
  obtain ⟨q1, q2⟩ := tdiv_range hb ha
  obtain ⟨r1, r2⟩ := tmod_range (a := a) hb
  have hne : ¬ b = 0 := by omega
  have wq : IntKind.i64.wrap (a.tdiv b) = a.tdiv b := IntWalk.i64_in _ (by omega)
  have wr : IntKind.i64.wrap (a.tmod b) = a.tmod b := IntWalk.i64_in _ (by omega)
  by_cases h : a.tmod b < 0
  · have hv : flo a b = a.tdiv b - 1 := by unfold flo; rw [if_pos h]
    have HV := Lib.hid hv
    clear hv
    go_enter Try.func63, Try.ntmps63
    go_wp2
    go_ret
    rw [← HF.out, HV.out]
    exact ⟨rfl, rfl⟩
  · have hv : flo a b = a.tdiv b := by unfold flo; rw [if_neg h]
    have HV := Lib.hid hv
    clear hv
    go_enter Try.func63, Try.ntmps63
    go_wp2
    go_ret
    rw [← HF.out, HV.out]
    exact ⟨rfl, rfl⟩


@[go_sem] theorem ix3_0 (x y z : Int) (w : World) : (Instr.index 36 (.agg #[.int .i64 x, .int .i64 y, .int .i64 z]) (.int .i64 0)).run Try.prog w = .ok (.int .i64 x) w := by
  simp [Instr.index, run_underlying Try.underlying36, asIntOf, go_sem]
@[go_sem] theorem ix3_1 (x y z : Int) (w : World) : (Instr.index 36 (.agg #[.int .i64 x, .int .i64 y, .int .i64 z]) (.int .i64 1)).run Try.prog w = .ok (.int .i64 y) w := by
  simp [Instr.index, run_underlying Try.underlying36, asIntOf, go_sem]
@[go_sem] theorem ix3_2 (x y z : Int) (w : World) : (Instr.index 36 (.agg #[.int .i64 x, .int .i64 y, .int .i64 z]) (.int .i64 2)).run Try.prog w = .ok (.int .i64 z) w := by
  simp [Instr.index, run_underlying Try.underlying36, asIntOf, go_sem]
@[go_sem] theorem ix2_0 (x y : Int) (w : World) : (Instr.index 39 (.agg #[.int .i64 x, .int .i64 y]) (.int .i64 0)).run Try.prog w = .ok (.int .i64 x) w := by
  simp [Instr.index, run_underlying Try.underlying39, asIntOf, go_sem]
@[go_sem] theorem ix2_1 (x y : Int) (w : World) : (Instr.index 39 (.agg #[.int .i64 x, .int .i64 y]) (.int .i64 1)).run Try.prog w = .ok (.int .i64 y) w := by
  simp [Instr.index, run_underlying Try.underlying39, asIntOf, go_sem]

theorem factorsAt_any (l s : Int) (w : World) : Calls Try.prog 77 #[.int .i64 l, .int .i64 s] w fun e w' => e = .returned (.agg #[.int .i64 1, .int .i64 l, .int .i64 s]) ∧ Below w.heap.size w w' := by
  go_enter Try.func77, Try.ntmps77
  go_wp2
  refine bodyPost_ret (v := .agg #[.int .i64 1, .int .i64 l, .int .i64 s]) (by simp [results, Try.results77, go_sem, *]) rfl ⟨rfl, ?_⟩
  repeat (first | (with_reducible exact Below.refl _ _) | (with_reducible refine Below.drew ?_) | (with_reducible refine below_drewNs ?_) | (with_reducible refine below_set ?_ (by first | omega | (simp; omega))) | (with_reducible refine below_new ?_ (by first | omega | (simp; done) | (simp; omega))))

/-- a line's or a sample's numerator, as the reference reckons it -/
def tv (x y z l s : Int) : Int := x + y * l + z * s
/-- three numbers that are right terms -/
def Tm (x y z : Int) : Prop := (-1000000000000000 ≤ x ∧ x ≤ 1000000000000000) ∧ (-1000000000000000 ≤ y ∧ y ≤ 1000000000000000) ∧ (-1000000000000000 ≤ z ∧ z ≤ 1000000000000000)
theorem mul_small {y l : Int} (hy : -1000000000000000 ≤ y ∧ y ≤ 1000000000000000) (hl : 0 ≤ l ∧ l ≤ 63) : -63000000000000000 ≤ y * l ∧ y * l ≤ 63000000000000000 := by
  constructor
  · have : -y * l ≤ 1000000000000000 * 63 := Int.mul_le_mul (by omega) hl.2 hl.1 (by omega)
    rw [Int.neg_mul] at this
    omega
  · have : y * l ≤ 1000000000000000 * 63 := Int.mul_le_mul (by omega) hl.2 hl.1 (by omega)
    omega

theorem term_any (x y z l s : Int) (w : World) (hT : Tm x y z) (hl : 0 ≤ l ∧ l ≤ 63) (hs : 0 ≤ s ∧ s ≤ 63) :
    Calls Try.prog 41 #[.agg #[.int .i64 x, .int .i64 y, .int .i64 z], .int .i64 l, .int .i64 s] w fun e w' => e = .returned (.int .i64 (tv x y z l s)) ∧ Below w.heap.size w w' := by
  obtain ⟨h1, h2, h3⟩ := hT
  have m1 := mul_small h2 hl
  have m2 := mul_small h3 hs
  have w1 : IntKind.i64.wrap (y * l) = y * l := IntWalk.i64_in _ (by omega)
  have w2 : IntKind.i64.wrap (z * s) = z * s := IntWalk.i64_in _ (by omega)
  have w3 : IntKind.i64.wrap (x + y * l) = x + y * l := IntWalk.i64_in _ (by omega)
  have w4 : IntKind.i64.wrap (x + y * l + z * s) = x + y * l + z * s := IntWalk.i64_in _ (by omega)
  clear h1 h2 h3 m1 m2 hl hs
  go_enter Try.func41, Try.ntmps41
  go_wp2
  go_ret
  refine ⟨rfl, ?_⟩
  repeat (first | (with_reducible exact Below.refl _ _) | (with_reducible refine Below.drew ?_) | (with_reducible refine below_drewNs ?_) | (with_reducible refine below_new ?_ (by first | omega | (simp; done) | (simp; omega))))
end Go.Proofs.Ytoaecfblpkgehaa
