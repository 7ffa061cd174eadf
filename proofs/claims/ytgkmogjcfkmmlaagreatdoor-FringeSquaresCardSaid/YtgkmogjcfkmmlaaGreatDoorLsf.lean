/- The law: SquareOf returns what the document specifies; at full coherence it is full, it is no more than the square of the coherence, and a greater coherence has no less. -/
import Derived.Test.YtgkmogjcfkmmlaaGreatDoorFsq
import Derived.Test.YtgkmogjcfkmmlaaGreatDoorEvf
namespace Go.Proofs.YtgkmogjcfkmmlaaGreatDoor
open Go.RowKit
set_option maxHeartbeats 800000
set_option maxRecDepth 100000

theorem okS_iff {c l : Int} : okS c l = true ↔ (0 ≤ c ∧ c ≤ 1000) ∧ 2 ≤ l ∧ l ≤ 10000 := by
  unfold okS
  rw [Bool.and_eq_true, inB_iff, inB_iff]

theorem squares_all {w : World} {c l : Int} (_hc : I64 c) (_hl : I64 l) :
    Calls Tryz.prog 3 #[.int .i64 c, .int .i64 l] w fun e w' => e = .returned (.bool true) ∧ Below w.heap.size w w' := by
  by_cases h : okS c l = true
  · obtain ⟨h1, h2⟩ := okS_iff.1 h
    have hr : sqR c l = .tuple #[.int .i64 (sqv c l), .int .i64 0] := by unfold sqR; rw [if_pos h]
    have H1 : Hid (∀ W : World, Calls Tryz.prog 8 #[.int .i64 c, .int .i64 l] W fun e w' => e = .returned (.tuple #[.int .i64 (sqv c l), .int .i64 0]) ∧ W = w') := fun W => by rw [← hr]; exact squareOf_any _ _ W
    have H2 : Hid (∀ W : World, Calls Tryz.prog 9 #[.int .i64 c, .int .i64 l] W fun e w' => e = .returned (.tuple #[.int .i64 (sqv c l), .int .i64 0]) ∧ W = w') := fun W => by rw [← hr]; exact refSquareOf_any _ _ W
    have hle := sqv_le h1 h2.1
    by_cases hf : c = 1000
    · subst hf
      have hv := sqv_full h2.1
      rw [hv] at H1 H2
      clear hr hle hv h h1 h2
      go_enter Tryz.func3, Tryz.ntmps3
      go_wp2_with fail
      refine (awake_ok _).mono ?_
      rintro e w1 ⟨rfl, hb1⟩
      have HB1 := Lib.hid hb1
      clear hb1
      go_wp2_with (first
        | (go_at_call 8; (with_reducible refine (H1.out _).mono ?_); rintro e w' ⟨rfl, rfl⟩)
        | (go_at_call 9; (with_reducible refine (H2.out _).mono ?_); rintro e w' ⟨rfl, rfl⟩))
      go_ret
      exact ⟨rfl, HB1.out⟩
    · have h' : okS (c + 1) l = true := okS_iff.2 ⟨⟨by omega, by omega⟩, h2⟩
      have hr' : sqR (c + 1) l = .tuple #[.int .i64 (sqv (c + 1) l), .int .i64 0] := by unfold sqR; rw [if_pos h']
      have H3 : Hid (∀ W : World, Calls Tryz.prog 8 #[.int .i64 (c + 1), .int .i64 l] W fun e w' => e = .returned (.tuple #[.int .i64 (sqv (c + 1) l), .int .i64 0]) ∧ W = w') := fun W => by rw [← hr']; exact squareOf_any _ _ W
      have hm := sqv_more h1.1 h2.1
      have hcc : 0 ≤ c * c ∧ c * c ≤ 1000 * 1000 := ⟨Int.mul_nonneg h1.1 h1.1, Int.mul_le_mul h1.2 h1.2 h1.1 (by omega)⟩
      have w1 : IntKind.i64.wrap (c + 1) = c + 1 := IntWalk.i64_in _ (by omega)
      have w2 : IntKind.i64.wrap (c * c) = c * c := IntWalk.i64_in _ (by omega)
      generalize sqv (c + 1) l = b at H3 hm
      generalize sqv c l = a at H1 H2 hle hm
      have d1 : decide (c = 1000) = false := by simpa using hf
      have d2 : decide (a ≤ c * c) = true := by simpa using hle
      have d3 : decide (a ≤ b) = true := by simpa using hm
      clear hr hr' h h' hcc h1 h2
      go_enter Tryz.func3, Tryz.ntmps3
      go_wp2_with fail
      refine (awake_ok _).mono ?_
      rintro e w1 ⟨rfl, hb1⟩
      have HB1 := Lib.hid hb1
      clear hb1
      go_wp2_with (first
        | (go_at_call 8; first | ((with_reducible refine (H1.out _).mono ?_); rintro e w' ⟨rfl, rfl⟩) | ((with_reducible refine (H3.out _).mono ?_); rintro e w' ⟨rfl, rfl⟩))
        | (go_at_call 9; (with_reducible refine (H2.out _).mono ?_); rintro e w' ⟨rfl, rfl⟩))
      go_ret
      exact ⟨rfl, HB1.out⟩
  · have hr : sqR c l = .tuple #[.int .i64 0, .int .i64 2] := by unfold sqR; rw [if_neg h]
    have H1 : Hid (∀ W : World, Calls Tryz.prog 8 #[.int .i64 c, .int .i64 l] W fun e w' => e = .returned (.tuple #[.int .i64 0, .int .i64 2]) ∧ W = w') := fun W => by rw [← hr]; exact squareOf_any _ _ W
    have H2 : Hid (∀ W : World, Calls Tryz.prog 9 #[.int .i64 c, .int .i64 l] W fun e w' => e = .returned (.tuple #[.int .i64 0, .int .i64 2]) ∧ W = w') := fun W => by rw [← hr]; exact refSquareOf_any _ _ W
    clear hr h
    go_enter Tryz.func3, Tryz.ntmps3
    go_wp2_with fail
    refine (awake_ok _).mono ?_
    rintro e w1 ⟨rfl, hb1⟩
    have HB1 := Lib.hid hb1
    clear hb1
    go_wp2_with (first
      | (go_at_call 8; (with_reducible refine (H1.out _).mono ?_); rintro e w' ⟨rfl, rfl⟩)
      | (go_at_call 9; (with_reducible refine (H2.out _).mono ?_); rintro e w' ⟨rfl, rfl⟩))
    go_ret
    exact ⟨rfl, HB1.out⟩
end Go.Proofs.YtgkmogjcfkmmlaaGreatDoor
