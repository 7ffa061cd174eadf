/- Whether any float64 is whole: the reference's way. -/
import Derived.Test.YtdpoemhpmdahjaaDoorWho
namespace Go.Proofs.YtdpoemhpmdahjaaDoor
open Go.RowKit Ieee
set_option maxHeartbeats 400000
set_option maxRecDepth 100000

theorem e16_read : FloatKind.f64.format.read 4846369599423283200 = .number false 5000000000000000 1 := by decide
theorem m16_read : FloatKind.f64.format.read 14069741636278059008 = .number true 5000000000000000 1 := by decide

theorem signed_lt (s : Bool) (m a k : Nat) (h : m * 2 ^ a < k) : -(k : Int) < signed s m a ∧ signed s m a < (k : Int) := by
  have := signed_abs s m a
  omega

theorem low_e16 {b : Nat} {s : Bool} {m t : Nat} (h : FloatKind.f64.format.read b = .number s m (-(t : Int))) (hm : m < 9007199254740992) :
    FloatKind.f64.format.order b 4846369599423283200 = some .lt ∧ FloatKind.f64.format.order b 14069741636278059008 = some .gt := by
  have a0 : (-(t : Int) - min (-(t : Int)) 1).toNat = 0 := by omega
  have a1 : ((1 : Int) - min (-(t : Int)) 1).toNat = 1 + t := by omega
  have p1 : 10000000000000000 ≤ 5000000000000000 * 2 ^ (1 + t) := by
    have := Nat.le_mul_of_pos_right 10000000000000000 (Nat.two_pow_pos t)
    rw [Nat.pow_add]
    omega
  obtain ⟨b1, b2⟩ := signed_lt s m 0 9007199254740992 (by omega)
  constructor
  · unfold Format.order
    rw [h, e16_read]
    simp only [Datum.order, a0, a1]
    have e : signed false 5000000000000000 (1 + t) = ((5000000000000000 * 2 ^ (1 + t) : Nat) : Int) := by
      unfold signed
      simp only [Bool.false_eq_true, if_false, Nat.shiftLeft_eq]
    rw [e]
    have hl : signed s m 0 < ((5000000000000000 * 2 ^ (1 + t) : Nat) : Int) := by omega
    simp only [compare, compareOfLessAndEq, if_pos hl]
  · unfold Format.order
    rw [h, m16_read]
    simp only [Datum.order, a0, a1]
    have e : signed true 5000000000000000 (1 + t) = -((5000000000000000 * 2 ^ (1 + t) : Nat) : Int) := by
      unfold signed
      simp only [if_true, Nat.shiftLeft_eq]
    rw [e]
    have hl : ¬ signed s m 0 < -((5000000000000000 * 2 ^ (1 + t) : Nat) : Int) := by omega
    have hne : ¬ signed s m 0 = -((5000000000000000 * 2 ^ (1 + t) : Nat) : Int) := by omega
    simp only [compare, compareOfLessAndEq, if_neg hl, if_neg hne]

theorem is_low {b : Nat} {n : Int} (h : Is .f64 b n) : ∃ (s : Bool) (m t : Nat), FloatKind.f64.format.read b = .number s m (-(t : Int)) ∧ m = n.natAbs <<< t := by
  obtain ⟨s, t, h, _, _⟩ := h
  exact ⟨s, _, t, h, rfl⟩

theorem nan_word (x y : Nat) (hy : y < 4503599627370495) : Nan (x * 9223372036854775808 + 9218868437227405312 + 1 + y) := by
  have e : (x * 9223372036854775808 + 9218868437227405312 + 1 + y) % 9223372036854775808 = 9218868437227405313 + y := by
    rw [Nat.add_assoc, Nat.add_assoc, Nat.mul_comm, Nat.mul_add_mod]
    have h2 : 9218868437227405312 + (1 + y) < 9223372036854775808 := by omega
    rw [Nat.mod_eq_of_lt h2]
    omega
  unfold Nan Format.read
  simp only [binade64, inf64, sign64, e]
  rw [if_neg (by omega), if_neg (by omega), if_neg (by omega)]
  exact ⟨_, _, rfl⟩

theorem sub_self {b : Nat} {s : Bool} {m : Nat} {p : Int} (h : FloatKind.f64.format.read b = .number s m p) : floatBits .sub .f64 b b = some 0 := by
  show FloatKind.f64.format.sub b b = some 0
  unfold Format.sub
  rw [h]
  simp only [Datum.opposite, Datum.sum]
  have e : ∀ a, signed s m a + signed (!s) m a = 0 := by
    intro a
    unfold signed
    cases s
    · show ((m <<< a : Nat) : Int) + -((m <<< a : Nat) : Int) = 0
      omega
    · show -((m <<< a : Nat) : Int) + ((m <<< a : Nat) : Int) = 0
      omega
  simp only [e, if_true]
  have e2 : (s && !s) = false := by cases s <;> rfl
  rw [e2]
  rfl

theorem sub_inf {b : Nat} (h : Inf b) (w : World) : ∃ r, Nan r ∧ (binOp .sub 86 (.float .f64 b) (.float .f64 b)).run Tryd.prog w = .ok (.float .f64 r) w.drew := by
  obtain ⟨s, h⟩ := h
  have hs : FloatKind.f64.format.sub b b = none := by
    unfold Format.sub
    rw [h]
    cases s <;> rfl
  refine ⟨(Question.nanBits .f64 b b).cut (w.tape w.drawn (Question.nanBits .f64 b b)), ?_, ?_⟩
  · generalize w.tape w.drawn (Question.nanBits .f64 b b) = t
    exact nan_word (t % 2) (t / 2 % (2 ^ 52 - 1)) (Nat.mod_lt _ (by decide))
  · simp only [binOp, Op.floatArith, hs]
    rfl
end Go.Proofs.YtdpoemhpmdahjaaDoor
