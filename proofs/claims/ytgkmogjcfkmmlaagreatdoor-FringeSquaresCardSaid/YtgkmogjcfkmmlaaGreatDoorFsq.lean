/- Fringe: within; SquareOf of the code and of the reference. -/
import Derived.Test.YtgkmogjcfkmmlaaGreatDoorGfl
namespace Go.Proofs.YtgkmogjcfkmmlaaGreatDoor
open Go.RowKit
set_option maxHeartbeats 800000
set_option maxRecDepth 100000

theorem fWithin_any (n lo hi : Int) (w : World) : Calls Tryz.prog 36 #[.int .i64 n, .int .i64 lo, .int .i64 hi] w fun e w' => e = .returned (.bool (inB n lo hi)) ∧ w = w' := by
  have key : ∀ (p q : Bool), decide (lo ≤ n) = p → decide (n ≤ hi) = q → Calls Tryz.prog 36 #[.int .i64 n, .int .i64 lo, .int .i64 hi] w fun e w' => e = .returned (.bool (p && q)) ∧ w = w' := by
    intro p q h1 h2
    cases p <;> cases q
    all_goals
      go_enter Tryz.func36, Tryz.ntmps36
      go_wp2
      go_ret
      exact ⟨rfl, rfl⟩
  exact key _ _ rfl rfl

/-- the square of a coherence of looks, without what chance adds -/
def sqv (c l : Int) : Int := if 0 ≤ l * c * c - 1000000 then (l * c * c - 1000000) / (l - 1) else 0
theorem prod_range {c l : Int} (hc : 0 ≤ c ∧ c ≤ 1000) (hl : 2 ≤ l ∧ l ≤ 10000) : (0 ≤ l * c ∧ l * c ≤ 10000000) ∧ 0 ≤ l * c * c ∧ l * c * c ≤ 10000000000 := by
  have h1 : 0 ≤ l * c := Int.mul_nonneg (by omega) hc.1
  have h2 : l * c ≤ 10000 * 1000 := Int.mul_le_mul hl.2 hc.2 hc.1 (by omega)
  have h3 : 0 ≤ l * c * c := Int.mul_nonneg h1 hc.1
  have h4 : l * c * c ≤ 10000000 * 1000 := Int.mul_le_mul (by omega) hc.2 hc.1 (by omega)
  exact ⟨⟨h1, by omega⟩, h3, by omega⟩
theorem sqv_full {l : Int} (hl : 2 ≤ l) : sqv 1000 l = 1000000 := by
  unfold sqv
  have h : l * 1000 * 1000 - 1000000 = 1000000 * (l - 1) := by omega
  rw [h, if_pos (by omega), Int.mul_ediv_cancel _ (by omega)]
theorem sqv_le {c l : Int} (hc : 0 ≤ c ∧ c ≤ 1000) (hl : 2 ≤ l) : sqv c l ≤ c * c := by
  unfold sqv
  split
  · apply Int.le_of_lt_add_one
    apply Int.ediv_lt_of_lt_mul (by omega)
    have h : c * c ≤ 1000 * 1000 := Int.mul_le_mul hc.2 hc.2 hc.1 (by omega)
    have e1 : (c * c + 1) * (l - 1) = l * c * c - c * c + (l - 1) := by
      rw [Int.add_mul, Int.mul_sub, Int.mul_one, Int.one_mul, Int.mul_comm (c * c) l, Int.mul_assoc]
    rw [e1]
    omega
  · exact Int.mul_nonneg hc.1 hc.1
theorem sqv_more {c l : Int} (hc : 0 ≤ c) (hl : 2 ≤ l) : sqv c l ≤ sqv (c + 1) l := by
  have h : l * c * c ≤ l * (c + 1) * (c + 1) := Int.mul_le_mul (Int.mul_le_mul_of_nonneg_left (by omega) (by omega)) (by omega) hc (Int.mul_nonneg (by omega) (by omega))
  unfold sqv
  split
  · rw [if_pos (by omega)]
    exact Int.ediv_le_ediv (by omega) (by omega)
  · split
    · exact Int.ediv_nonneg (by omega) (by omega)
    · omega
/-- what the reference reckons -/
theorem sqv_floor {c l : Int} (hl : 2 ≤ l) : max 0 ((l * c * c - 1000000) / (l - 1)) = sqv c l := by
  unfold sqv
  split
  · next h => exact Int.max_eq_right (Int.ediv_nonneg h (by omega))
  · next h => exact Int.max_eq_left (Int.le_of_lt (Int.ediv_neg_of_neg_of_pos (by omega) (by omega)))
/-- what the code reckons -/
theorem sqv_trunc {c l : Int} (_hl : 2 ≤ l) : (max 0 (l * c * c - 1000000)).tdiv (l - 1) = sqv c l := by
  unfold sqv
  split
  · next h => rw [Int.max_eq_right h, Int.tdiv_eq_ediv_of_nonneg h]
  · next h => rw [Int.max_eq_left (by omega), Int.zero_tdiv]
def okS (c l : Int) : Bool := inB c 0 1000 && inB l 2 10000
/-- what the code and the reference return -/
def sqR (c l : Int) : Value := if okS c l = true then .tuple #[.int .i64 (sqv c l), .int .i64 0] else .tuple #[.int .i64 0, .int .i64 2]

theorem squareOf_any (c l : Int) (w : World) : Calls Tryz.prog 8 #[.int .i64 c, .int .i64 l] w fun e w' => e = .returned (sqR c l) ∧ w = w' := by
  by_cases h1 : inB c 0 1000 = true
  · by_cases h2 : inB l 2 10000 = true
    · have hr : sqR c l = .tuple #[.int .i64 (sqv c l), .int .i64 0] := by unfold sqR okS; rw [h1, h2]; rfl
      have hc := inB_iff.1 h1
      have hl := inB_iff.1 h2
      obtain ⟨p1, p2, p3⟩ := prod_range hc hl
      have W1 : IntKind.i64.wrap (l * c) = l * c := IntWalk.i64_in _ (by omega)
      have W2 : IntKind.i64.wrap (l * c * c) = l * c * c := IntWalk.i64_in _ (by omega)
      have W3 : IntKind.i64.wrap (l * c * c - 1000000) = l * c * c - 1000000 := IntWalk.i64_in _ (by omega)
      have W4 : IntKind.i64.wrap (l - 1) = l - 1 := IntWalk.i64_in _ (by omega)
      have hq := tdiv_range (a := max 0 (l * c * c - 1000000)) (b := l - 1) (by omega) (by omega)
      have W5 : IntKind.i64.wrap ((max 0 (l * c * c - 1000000)).tdiv (l - 1)) = (max 0 (l * c * c - 1000000)).tdiv (l - 1) := IntWalk.i64_in _ (by omega)
      have hne : ¬ l - 1 = 0 := by omega
      have HV := Lib.hid (sqv_trunc (c := c) hl.1)
      have HR := Lib.hid hr
      have H1 : Hid (∀ W : World, Calls Tryz.prog 36 #[.int .i64 c, .int .i64 0, .int .i64 1000] W fun e w' => e = .returned (.bool true) ∧ W = w') := fun W => by rw [← h1]; exact fWithin_any _ _ _ W
      have H2 : Hid (∀ W : World, Calls Tryz.prog 36 #[.int .i64 l, .int .i64 2, .int .i64 10000] W fun e w' => e = .returned (.bool true) ∧ W = w') := fun W => by rw [← h2]; exact fWithin_any _ _ _ W
      clear hr hc hl h1 h2 p1 p2 p3 hq
      go_enter Tryz.func8, Tryz.ntmps8
      go_wp2_with (go_at_call 36; first | ((with_reducible refine (H1.out _).mono ?_); rintro e w' ⟨rfl, rfl⟩) | ((with_reducible refine (H2.out _).mono ?_); rintro e w' ⟨rfl, rfl⟩))
      · have hv : sqv c l = (l * c * c - 1000000).tdiv (l - 1) := by rw [← HV.out, Int.max_eq_right (by omega)]
        have w6 : wrap64 ((l * c * c - 1000000).tdiv (l - 1)) = (l * c * c - 1000000).tdiv (l - 1) := by
          rw [Int.max_eq_right (by omega)] at W5
          rw [← IntWalk.i64_left]; exact W5
        rw [HR.out, hv]
        exact bodyPost_ret (v := .tuple #[.int .i64 ((l * c * c - 1000000).tdiv (l - 1)), .int .i64 0]) (by simp [results, Tryz.results8, go_sem, w6]) rfl ⟨rfl, rfl⟩
      · have hv : sqv c l = 0 := by rw [← HV.out, Int.max_eq_left (by omega), Int.zero_tdiv]
        rw [HR.out, hv]
        exact bodyPost_ret (v := .tuple #[.int .i64 0, .int .i64 0]) (by simp [results, Tryz.results8, go_sem, IntWalk.wrap64_in 0 (by decide)]) rfl ⟨rfl, rfl⟩
    · have h2 : inB l 2 10000 = false := by simpa using h2
      have hr : sqR c l = .tuple #[.int .i64 0, .int .i64 2] := by unfold sqR okS; rw [h1, h2]; rfl
      have HR := Lib.hid hr
      have H1 : Hid (∀ W : World, Calls Tryz.prog 36 #[.int .i64 c, .int .i64 0, .int .i64 1000] W fun e w' => e = .returned (.bool true) ∧ W = w') := fun W => by rw [← h1]; exact fWithin_any _ _ _ W
      have H2 : Hid (∀ W : World, Calls Tryz.prog 36 #[.int .i64 l, .int .i64 2, .int .i64 10000] W fun e w' => e = .returned (.bool false) ∧ W = w') := fun W => by rw [← h2]; exact fWithin_any _ _ _ W
      clear hr h1 h2
      go_enter Tryz.func8, Tryz.ntmps8
      go_wp2_with (go_at_call 36; first | ((with_reducible refine (H1.out _).mono ?_); rintro e w' ⟨rfl, rfl⟩) | ((with_reducible refine (H2.out _).mono ?_); rintro e w' ⟨rfl, rfl⟩))
      rw [HR.out]
      refine bodyPost_ret (v := .tuple #[.int .i64 0, .int .i64 2]) (by simp [results, Tryz.results8, go_sem, *]) rfl ⟨rfl, rfl⟩
  · have h1 : inB c 0 1000 = false := by simpa using h1
    have hr : sqR c l = .tuple #[.int .i64 0, .int .i64 2] := by unfold sqR okS; rw [h1]; rfl
    have HR := Lib.hid hr
    have H1 : Hid (∀ W : World, Calls Tryz.prog 36 #[.int .i64 c, .int .i64 0, .int .i64 1000] W fun e w' => e = .returned (.bool false) ∧ W = w') := fun W => by rw [← h1]; exact fWithin_any _ _ _ W
    clear hr h1
    go_enter Tryz.func8, Tryz.ntmps8
    go_wp2_with (go_at_call 36; (with_reducible refine (H1.out _).mono ?_); rintro e w' ⟨rfl, rfl⟩)
    rw [HR.out]
    refine bodyPost_ret (v := .tuple #[.int .i64 0, .int .i64 2]) (by simp [results, Tryz.results8, go_sem, *]) rfl ⟨rfl, rfl⟩
theorem refSquareOf_any (c l : Int) (w : World) : Calls Tryz.prog 9 #[.int .i64 c, .int .i64 l] w fun e w' => e = .returned (sqR c l) ∧ w = w' := by
  by_cases h1 : inB c 0 1000 = true
  · by_cases h2 : inB l 2 10000 = true
    · have hr : sqR c l = .tuple #[.int .i64 (sqv c l), .int .i64 0] := by unfold sqR okS; rw [h1, h2]; rfl
      have hc := inB_iff.1 h1
      have hl := inB_iff.1 h2
      obtain ⟨p1, p2, p3⟩ := prod_range hc hl
      have W1 : IntKind.i64.wrap (l * c) = l * c := IntWalk.i64_in _ (by omega)
      have W2 : IntKind.i64.wrap (l * c * c) = l * c * c := IntWalk.i64_in _ (by omega)
      have W3 : IntKind.i64.wrap (l * c * c - 1000000) = l * c * c - 1000000 := IntWalk.i64_in _ (by omega)
      have W4 : IntKind.i64.wrap (l - 1) = l - 1 := IntWalk.i64_in _ (by omega)
      have HV := Lib.hid (sqv_floor (c := c) hl.1)
      have HR := Lib.hid hr
      have H1 : Hid (∀ W : World, Calls Tryz.prog 37 #[.int .i64 c, .int .i64 0, .int .i64 1000] W fun e w' => e = .returned (.bool true) ∧ W = w') := fun W => by rw [← h1]; exact baseWithin_any _ _ _ W
      have H2 : Hid (∀ W : World, Calls Tryz.prog 37 #[.int .i64 l, .int .i64 2, .int .i64 10000] W fun e w' => e = .returned (.bool true) ∧ W = w') := fun W => by rw [← h2]; exact baseWithin_any _ _ _ W
      have HF : Hid (∀ W : World, Calls Tryz.prog 38 #[.int .i64 (l * c * c - 1000000), .int .i64 (l - 1)] W fun e w' => e = .returned (.int .i64 ((l * c * c - 1000000) / (l - 1))) ∧ W = w') := fun W => floor_any _ _ W (by omega) (by omega) (by omega)
      clear hr hc hl h1 h2 p1 p2 p3
      go_enter Tryz.func9, Tryz.ntmps9
      go_wp2_with (first | (go_at_call 37; first | ((with_reducible refine (H1.out _).mono ?_); rintro e w' ⟨rfl, rfl⟩) | ((with_reducible refine (H2.out _).mono ?_); rintro e w' ⟨rfl, rfl⟩)) | (go_at_call 38; (with_reducible refine (HF.out _).mono ?_); rintro e w' ⟨rfl, rfl⟩))
      · have hv : sqv c l = (l * c * c - 1000000) / (l - 1) := by rw [← HV.out, Int.max_eq_right (by omega)]
        rw [HR.out, hv]
        exact bodyPost_ret (v := .tuple #[.int .i64 ((l * c * c - 1000000) / (l - 1)), .int .i64 0]) (by simp [results, Tryz.results9, go_sem]) rfl ⟨rfl, rfl⟩
      · have hv : sqv c l = 0 := by rw [← HV.out, Int.max_eq_left (by omega)]
        rw [HR.out, hv]
        exact bodyPost_ret (v := .tuple #[.int .i64 0, .int .i64 0]) (by simp [results, Tryz.results9, go_sem]) rfl ⟨rfl, rfl⟩
    · have h2 : inB l 2 10000 = false := by simpa using h2
      have hr : sqR c l = .tuple #[.int .i64 0, .int .i64 2] := by unfold sqR okS; rw [h1, h2]; rfl
      have HR := Lib.hid hr
      have H1 : Hid (∀ W : World, Calls Tryz.prog 37 #[.int .i64 c, .int .i64 0, .int .i64 1000] W fun e w' => e = .returned (.bool true) ∧ W = w') := fun W => by rw [← h1]; exact baseWithin_any _ _ _ W
      have H2 : Hid (∀ W : World, Calls Tryz.prog 37 #[.int .i64 l, .int .i64 2, .int .i64 10000] W fun e w' => e = .returned (.bool false) ∧ W = w') := fun W => by rw [← h2]; exact baseWithin_any _ _ _ W
      clear hr h1 h2
      go_enter Tryz.func9, Tryz.ntmps9
      go_wp2_with (go_at_call 37; first | ((with_reducible refine (H1.out _).mono ?_); rintro e w' ⟨rfl, rfl⟩) | ((with_reducible refine (H2.out _).mono ?_); rintro e w' ⟨rfl, rfl⟩))
      rw [HR.out]
      refine bodyPost_ret (v := .tuple #[.int .i64 0, .int .i64 2]) (by simp [results, Tryz.results9, go_sem, *]) rfl ⟨rfl, rfl⟩
  · have h1 : inB c 0 1000 = false := by simpa using h1
    have hr : sqR c l = .tuple #[.int .i64 0, .int .i64 2] := by unfold sqR okS; rw [h1]; rfl
    have HR := Lib.hid hr
    have H1 : Hid (∀ W : World, Calls Tryz.prog 37 #[.int .i64 c, .int .i64 0, .int .i64 1000] W fun e w' => e = .returned (.bool false) ∧ W = w') := fun W => by rw [← h1]; exact baseWithin_any _ _ _ W
    clear hr h1
    go_enter Tryz.func9, Tryz.ntmps9
    go_wp2_with (go_at_call 37; (with_reducible refine (H1.out _).mono ?_); rintro e w' ⟨rfl, rfl⟩)
    rw [HR.out]
    refine bodyPost_ret (v := .tuple #[.int .i64 0, .int .i64 2]) (by simp [results, Tryz.results9, go_sem, *]) rfl ⟨rfl, rfl⟩
end Go.Proofs.YtgkmogjcfkmmlaaGreatDoor
