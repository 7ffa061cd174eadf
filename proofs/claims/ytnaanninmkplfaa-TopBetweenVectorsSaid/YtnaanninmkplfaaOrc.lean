/- Contracts of the reference of orbits: its checks of numbers, places, states. -/
import Derived.Test.YtnaanninmkplfaaOch
import Derived.Test.YtnaanninmkplfaaOck
import Derived.Test.YtnaanninmkplfaaOna
namespace Go.Proofs.Ytnaanninmkplfaa
open Go.RowKit
set_option maxHeartbeats 400000
set_option maxRecDepth 100000

theorem refIsPlaceN_any (n : Int) (w : World) : Calls Try.prog 100 #[.int .i64 n] w fun e w' => e = .returned (.bool (inB n (-100000000) 100000000)) ∧ w = w' := by
  go_enter Try.func100, Try.ntmps100
  go_wp2_with (go_at_call 22; refine (baseWithin_any _ _ _ _).mono ?_; rintro e w' ⟨rfl, rfl⟩)
  go_ret
  exact ⟨rfl, rfl⟩
theorem refIsError_any (n : Int) (w : World) : Calls Try.prog 81 #[.int .i64 n] w fun e w' => e = .returned (.bool (inB n 0 100000)) ∧ w = w' := by
  go_enter Try.func81, Try.ntmps81
  go_wp2_with (go_at_call 22; refine (baseWithin_any _ _ _ _).mono ?_; rintro e w' ⟨rfl, rfl⟩)
  go_ret
  exact ⟨rfl, rfl⟩

def plB (x y z : Int) : Bool := inB x (-100000000) 100000000 && inB y (-100000000) 100000000 && inB z (-100000000) 100000000
theorem refIsPlace_any (x y z : Int) (w : World) : Calls Try.prog 37 #[.agg #[.int .i64 x, .int .i64 y, .int .i64 z]] w fun e w' => e = .returned (.bool (plB x y z)) ∧ w.alloc (.cells #[.int .i64 x, .int .i64 y, .int .i64 z] 42) = w' := by
  have key : ∀ p q r : Bool, inB x (-100000000) 100000000 = p → inB y (-100000000) 100000000 = q → inB z (-100000000) 100000000 = r →
      Calls Try.prog 37 #[.agg #[.int .i64 x, .int .i64 y, .int .i64 z]] w fun e w' => e = .returned (.bool (p && q && r)) ∧ w.alloc (.cells #[.int .i64 x, .int .i64 y, .int .i64 z] 42) = w' := by
    intro p q r h1 h2 h3
    cases p <;> cases q <;> cases r
    all_goals
      go_enter Try.func37, Try.ntmps37
      go_wp2_with (go_at_call 100; refine (refIsPlaceN_any _ _).mono ?_; rintro e w' ⟨rfl, rfl⟩)
      go_ret
      exact ⟨rfl, rfl⟩
  exact key _ _ _ rfl rfl rfl

def stB (t x y z e : Int) : Bool := inB t 0 1000000000 && plB x y z && inB e 0 100000
def stE (t x y z e : Int) : Int := if stB t x y z e then 0 else 2
theorem stE_eq (S : Nat → Nat → Int) (k : Nat) : stE (S k 0) (S k 1) (S k 2) (S k 3) (S k 4) = if StOk S k then 0 else 2 := by
  unfold stE
  have : stB (S k 0) (S k 1) (S k 2) (S k 3) (S k 4) = true ↔ StOk S k := by
    unfold stB plB StOk
    simp only [Bool.and_eq_true, inB_iff]
    constructor
    · rintro ⟨⟨a, ⟨b, c⟩, d⟩, e⟩
      exact ⟨a, b, c, d, e⟩
    · rintro ⟨a, b, c, d, e⟩
      exact ⟨⟨a, ⟨b, c⟩, d⟩, e⟩
  by_cases h : StOk S k
  · rw [if_pos (this.2 h), if_pos h]
  · rw [if_neg (fun g => h (this.1 g)), if_neg h]

theorem refCheckState_any (t x y z e : Int) (w : World) : Calls Try.prog 82 #[.agg #[.int .i64 t, .int .i64 x, .int .i64 y, .int .i64 z, .int .i64 e]] w fun en w' => en = .returned (.int .i64 (stE t x y z e)) ∧ Below w.heap.size w w' := by
  have key : ∀ p q r : Bool, inB t 0 1000000000 = p → plB x y z = q → inB e 0 100000 = r →
      Calls Try.prog 82 #[.agg #[.int .i64 t, .int .i64 x, .int .i64 y, .int .i64 z, .int .i64 e]] w fun en w' => en = .returned (.int .i64 (if (p && q && r) = true then 0 else 2)) ∧ Below w.heap.size w w' := by
    intro p q r h1 h2 h3
    have hz : w.heap.size < w.heap.size + 1 := by omega
    cases p <;> cases q <;> cases r
    all_goals
      go_enter Try.func82, Try.ntmps82
      go_wp2_with (first
        | (go_at_call 22; refine (baseWithin_any _ _ _ _).mono ?_; rintro e w' ⟨rfl, rfl⟩)
        | (go_at_call 81; refine (refIsError_any _ _).mono ?_; rintro e w' ⟨rfl, rfl⟩)
        | (go_at_call 37; refine (refIsPlace_any _ _ _ _).mono ?_; rintro e w' ⟨rfl, rfl⟩))
      go_ret
      refine ⟨rfl, ?_⟩
      repeat (first | (with_reducible exact Below.refl _ _) | (with_reducible refine Below.drew ?_) | (with_reducible refine below_new ?_ (by first | omega | (simp; done) | (simp; omega))))
  exact key _ _ _ rfl rfl rfl
end Go.Proofs.Ytnaanninmkplfaa
