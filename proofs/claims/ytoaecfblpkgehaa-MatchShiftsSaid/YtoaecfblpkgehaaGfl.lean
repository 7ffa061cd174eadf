/- base.Floor. -/
import Derived.Test.YtoaecfblpkgehaaGen
namespace Go.Proofs.Ytoaecfblpkgehaa
open Go.RowKit
set_option maxHeartbeats 400000
set_option maxRecDepth 100000

def flo (a b : Int) : Int := if a.tmod b < 0 then a.tdiv b - 1 else a.tdiv b
theorem flo_eq {a b : Int} (hb : 0 < b) : flo a b = a / b := by
  unfold flo
  rcases Int.le_total 0 a with h | h
  · rw [Int.tdiv_eq_ediv_of_nonneg h, Int.tmod_eq_emod_of_nonneg h, if_neg (by have := Int.emod_nonneg a (Int.ne_of_gt hb); omega)]
  · obtain ⟨c, rfl⟩ : ∃ c, a = -c := ⟨-a, by omega⟩
    have hc : 0 ≤ c := by omega
    rw [Int.neg_tdiv, Int.neg_tmod, Int.tdiv_eq_ediv_of_nonneg hc, Int.tmod_eq_emod_of_nonneg hc]
    have h1 := Int.emod_nonneg c (Int.ne_of_gt hb)
    have h2 := Int.emod_lt_of_pos c hb
    have h3 := Int.mul_ediv_add_emod c b
    have h4 := Int.emod_nonneg (-c) (Int.ne_of_gt hb)
    have h5 := Int.emod_lt_of_pos (-c) hb
    have h6 := Int.mul_ediv_add_emod (-c) b
    have e1 : b * (c / b) + b * (-c / b) = b * (c / b + -c / b) := (Int.mul_add _ _ _).symm
    obtain ⟨q, hq⟩ : ∃ q, q = c / b + -c / b := ⟨_, rfl⟩
    rw [← hq] at e1
    split
    · have : b * q = - (c % b) - (-c % b) := by omega
      have l1 : b * q < 0 := by omega
      have l2 : -(b * 2) < b * q := by omega
      have : q = -1 := by
        have g1 : q < 0 := by
          rcases Int.lt_or_le q 0 with g | g
          · exact g
          · have := Int.mul_nonneg (Int.le_of_lt hb) g; omega
        have g2 : -2 < q := by
          rcases Int.lt_or_le (-2) q with g | g
          · exact g
          · have := Int.mul_le_mul_of_nonneg_left g (Int.le_of_lt hb); omega
        omega
      omega
    · have : b * q = - (c % b) - (-c % b) := by omega
      have l1 : b * q ≤ 0 := by omega
      have l2 : -b < b * q := by omega
      have : q = 0 := by
        have g1 : q ≤ 0 := by
          rcases Int.lt_or_le 0 q with g | g
          · have := Int.mul_le_mul_of_nonneg_left (show (1 : Int) ≤ q by omega) (Int.le_of_lt hb); omega
          · exact g
        have g2 : -1 < q := by
          rcases Int.lt_or_le (-1) q with g | g
          · exact g
          · have := Int.mul_le_mul_of_nonneg_left g (Int.le_of_lt hb); omega
        omega
      omega

theorem tdiv_range {a b : Int} (_hb : 0 < b) (h : -4611686018427387904 ≤ a ∧ a ≤ 4611686018427387904) : -4611686018427387904 ≤ a.tdiv b ∧ a.tdiv b ≤ 4611686018427387904 := by
  have h1 := Int.natAbs_tdiv_le_natAbs a b
  omega
theorem tmod_range {a b : Int} (hb : 0 < b) : -b < a.tmod b ∧ a.tmod b < b := by
  refine ⟨?_, Int.tmod_lt_of_pos a hb⟩
  have := Int.tmod_lt_of_pos (-a) hb
  rw [Int.neg_tmod] at this
  omega

theorem floor_any (a b : Int) (w : World) (hb : 0 < b) (hb2 : b ≤ 4611686018427387904) (ha : -4611686018427387904 ≤ a ∧ a ≤ 4611686018427387904) :
    Calls Try.prog 40 #[.int .i64 a, .int .i64 b] w fun e w' => e = .returned (.int .i64 (a / b)) ∧ w = w' := by
  have HF := Lib.hid (flo_eq (a := a) hb)
  obtain ⟨q1, q2⟩ := tdiv_range hb ha
  obtain ⟨r1, r2⟩ := tmod_range (a := a) hb
  have hne : ¬ b = 0 := by omega
  have wq : IntKind.i64.wrap (a.tdiv b) = a.tdiv b := IntWalk.i64_in _ (by omega)
  have wr : IntKind.i64.wrap (a.tmod b) = a.tmod b := IntWalk.i64_in _ (by omega)
  by_cases h : a.tmod b < 0
  · have hv : flo a b = a.tdiv b - 1 := by unfold flo; rw [if_pos h]
    have HV := Lib.hid hv
    clear hv
    go_enter Try.func40, Try.ntmps40
    go_wp2
    go_ret
    rw [← HF.out, HV.out]
    exact ⟨rfl, rfl⟩
  · have hv : flo a b = a.tdiv b := by unfold flo; rw [if_neg h]
    have HV := Lib.hid hv
    clear hv
    go_enter Try.func40, Try.ntmps40
    go_wp2
    go_ret
    rw [← HF.out, HV.out]
    exact ⟨rfl, rfl⟩

end Go.Proofs.Ytoaecfblpkgehaa
