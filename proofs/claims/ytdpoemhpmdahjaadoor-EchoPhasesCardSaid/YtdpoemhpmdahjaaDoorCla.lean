/- Any float64: what it is; whether it is whole, by the code and by the reference. -/
import Derived.Test.YtdpoemhpmdahjaaDoorLow
namespace Go.Proofs.YtdpoemhpmdahjaaDoor
open Go.RowKit Ieee
set_option maxHeartbeats 400000
set_option maxRecDepth 100000

def Nan (b : Nat) : Prop := ∃ s t, FloatKind.f64.format.read b = .nan s t
def Inf (b : Nat) : Prop := ∃ s, FloatKind.f64.format.read b = .infinity s
def Big (b : Nat) : Prop := ∃ (s : Bool) (m p : Nat), FloatKind.f64.format.read b = .number s m (p : Int) ∧ 1 ≤ p ∧ p ≤ 971 ∧ 4503599627370496 ≤ m ∧ m < 9007199254740992
def Frac (b : Nat) : Prop := ∃ (s : Bool) (m t : Nat), FloatKind.f64.format.read b = .number s m (-(t : Int)) ∧ m < 9007199254740992 ∧ ¬ 2 ^ t ∣ m
def Small (b : Nat) : Prop := ∃ n : Int, Is .f64 b n ∧ n.natAbs < 9007199254740992

theorem leastP : FloatKind.f64.format.leastPlace = -1074 := by decide
theorem binade64 : FloatKind.f64.format.binade = 4503599627370496 := by decide
theorem inf64 : FloatKind.f64.format.infRung = 9218868437227405312 := by decide
theorem sign64 : FloatKind.f64.format.signWeight = 9223372036854775808 := by decide

/-- a number with digits behind the point, or whole -/
theorem cls_low {b : Nat} {s : Bool} {m t : Nat} (hb : b < 18446744073709551616) (h : FloatKind.f64.format.read b = .number s m (-(t : Int))) (hm : m < 9007199254740992) : Small b ∨ Frac b := by
  by_cases hd : 2 ^ t ∣ m
  · left
    obtain ⟨q, rfl⟩ := hd
    have hq : q ≤ 2 ^ t * q := Nat.le_mul_of_pos_left _ (Nat.two_pow_pos t)
    refine ⟨if s then -(q : Int) else q, ⟨s, t, ?_, ?_, hb⟩, ?_⟩
    · rw [h]
      congr 1
      rw [Nat.shiftLeft_eq, Nat.mul_comm]
      cases s <;> simp
    · cases s
      · intro _; simp
      · intro h2; simp at h2; simp; omega
    · cases s <;> simp <;> omega
  · exact Or.inr ⟨s, m, t, h, hm, hd⟩

theorem cls (b : Nat) (hb : b < 18446744073709551616) : Nan b ∨ Inf b ∨ Big b ∨ Small b ∨ Frac b := by
  have hr : FloatKind.f64.format.read b = FloatKind.f64.format.read b := rfl
  conv at hr => rhs; unfold Format.read
  simp only [leastP, binade64, inf64, sign64] at hr
  split at hr
  · right; right; right
    exact cls_low (t := 1074) hb hr (by omega)
  · split at hr
    · rename_i h1 h2
      obtain ⟨e, he⟩ : ∃ e, e = b % 9223372036854775808 / 4503599627370496 := ⟨_, rfl⟩
      obtain ⟨m, hm⟩ : ∃ m, m = 4503599627370496 + b % 9223372036854775808 % 4503599627370496 := ⟨_, rfl⟩
      rw [← he, ← hm] at hr
      have e1 : 1 ≤ e := by omega
      have e2 : e ≤ 2046 := by omega
      have m1 : 4503599627370496 ≤ m := by omega
      have m2 : m < 9007199254740992 := by omega
      by_cases hp : 1076 ≤ e
      · right; right; left
        exact ⟨_, m, e - 1075, by rw [hr]; congr 1; omega, by omega, by omega, m1, m2⟩
      · right; right; right
        exact cls_low (t := 1075 - e) hb (by rw [hr]; congr 1; omega) m2
    · split at hr
      · right; left; exact ⟨_, hr⟩
      · left; exact ⟨_, _, hr⟩

/-! ### compared -/
theorem order_nan {b r : Nat} (h : Nan b) : FloatKind.f64.format.order b r = none := by
  obtain ⟨s, t, h⟩ := h
  unfold Format.order
  rw [h]
  rfl
theorem order_nan_r {b r : Nat} (h : Nan r) : FloatKind.f64.format.order b r = none := by
  obtain ⟨s, t, h⟩ := h
  unfold Format.order
  rw [h]
  cases FloatKind.f64.format.read b <;> rfl
theorem order_same {b r : Nat} (h : FloatKind.f64.format.read r = FloatKind.f64.format.read b) (hn : ¬ Nan b) : FloatKind.f64.format.order b r = some .eq := by
  unfold Format.order
  rw [h]
  cases hd : FloatKind.f64.format.read b with
  | nan s t => exact absurd ⟨s, t, hd⟩ hn
  | infinity s => simp [Datum.order, compare, compareOfLessAndEq]
  | number s m p => simp [Datum.order, compare, compareOfLessAndEq]
end Go.Proofs.YtdpoemhpmdahjaaDoor
