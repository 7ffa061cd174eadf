/- How phases turn: plain facts; contracts of what the law on turns calls. -/
import Derived.Test.YtdpoemhpmdahjaaDoorLdr
namespace Go.Proofs.YtdpoemhpmdahjaaDoor
open Go.RowKit
set_option maxHeartbeats 400000
set_option maxRecDepth 100000

def wrapI (n : Int) : Int := (n % 4096 + 2048) % 4096 - 2048

theorem mod_any (n : Int) (h0 : -1000000000000 ≤ n) (h1 : n ≤ 1000000000000) (w : World) :
    Calls Tryd.prog 63 #[.int .i64 n, .int .i64 4096] w fun e w' => e = .returned (.int .i64 (n % 4096)) ∧ w = w' := by
  by_cases hn : 0 ≤ n
  · have e : n.tmod 4096 = n % 4096 := Int.tmod_eq_emod_of_nonneg hn
    have h3 : 0 ≤ n % 4096 := by omega
    have h4 : n % 4096 < 4096 := by omega
    obtain ⟨r, hr⟩ : ∃ r, r = n % 4096 := ⟨_, rfl⟩
    rw [← hr] at h3 h4 e ⊢
    clear hr
    go_enter Tryd.func63, Tryd.ntmps63
    go_wp2
    go_ret
    exact ⟨rfl, rfl⟩
  · have e : n.tmod 4096 = -((-n) % 4096) := by
      have h := Int.neg_tmod (-n) 4096
      rw [Int.neg_neg, Int.tmod_eq_emod_of_nonneg (a := -n) (b := 4096) (by omega)] at h
      exact h
    have h3 : 0 ≤ (-n) % 4096 := by omega
    have h4 : (-n) % 4096 < 4096 := by omega
    have h5 : (-n) % 4096 = 0 → n % 4096 = 0 := by omega
    have h6 : (-n) % 4096 ≠ 0 → n % 4096 = 4096 - (-n) % 4096 := by omega
    obtain ⟨r, hr⟩ : ∃ r, r = (-n) % 4096 := ⟨_, rfl⟩
    rw [← hr] at h3 h4 h5 h6 e
    clear hr
    have HN := Lib.hid hn
    clear hn
    by_cases hr0 : r = 0
    · subst hr0
      rw [h5 rfl]
      have e0 : n.tmod 4096 = 0 := by simpa using e
      clear h5 h6 e h3 h4
      go_enter Tryd.func63, Tryd.ntmps63
      go_wp2
      go_ret
      exact ⟨rfl, rfl⟩
    · have h7 := h6 hr0
      have HF : Hid (n % 4096 = -r + 4096) := by show _ = _; omega
      have hneg : -r < 0 := by omega
      clear h5 h6 h7
      go_enter Tryd.func63, Tryd.ntmps63
      go_wp2
      go_ret
      exact ⟨congrArg (fun n => Ending.returned (.int .i64 n)) HF.out.symm, rfl⟩

theorem wrap_any (n : Int) (h0 : -1000000000000 ≤ n) (h1 : n ≤ 1000000000000) (w : World) :
    Calls Tryd.prog 58 #[.int .i64 n] w fun e w' => e = .returned (.int .i64 (wrapI n)) ∧ w = w' := by
  have h3 : 0 ≤ n % 4096 := by omega
  have h4 : n % 4096 < 4096 := by omega
  obtain ⟨r, hr⟩ : ∃ r, r = n % 4096 := ⟨_, rfl⟩
  rw [← hr] at h3 h4
  have h5 : 0 ≤ (r + 2048) % 4096 := by omega
  have h6 : (r + 2048) % 4096 < 4096 := by omega
  obtain ⟨s, hs⟩ : ∃ s, s = (r + 2048) % 4096 := ⟨_, rfl⟩
  rw [← hs] at h5 h6
  have HF : Hid (s - 2048 = wrapI n) := by show _ = _; rw [hs, hr]; rfl
  have HR := Lib.hid hr
  have HS := Lib.hid hs
  clear hr hs
  go_enter Tryd.func58, Tryd.ntmps58
  go_wp2_with fail
  refine (mod_any n h0 h1 _).mono ?_
  rw [← HR.out]
  rintro e w' ⟨rfl, rfl⟩
  go_wp2_with fail
  refine (mod_any (r + 2048) (by omega) (by omega) _).mono ?_
  rw [← HS.out]
  rintro e w' ⟨rfl, rfl⟩
  go_wp2_with fail
  go_ret
  exact ⟨congrArg (fun n => Ending.returned (.int .i64 n)) HF.out, rfl⟩

theorem sum_any (x y : Int) (w : World) :
    Calls Tryd.prog 57 #[.int .i64 x, .int .i64 y] w fun e w' => e = .returned (.complex .f64 (F .f64 x) (F .f64 y)) ∧ w = w' := by
  go_enter Tryd.func57, Tryd.ntmps57
  go_wp2
  go_ret
  exact ⟨rfl, rfl⟩

/-! ### plain facts -/
theorem nar_congr {f g : Mk → Bool} (h : ∀ c, f c = g c) : narAll f = narAll g := congrArg (fun f => nar 10 f m0 m1) (funext h)

theorem nar_zero : (narAll (fun c => decide (c.2.2 ≤ 0))).1.1 = 0 := by decide +kernel

theorem halves_zero {x : Int} (hx : 0 < x) : halvesI x 0 = 0 := by
  unfold halvesI
  rw [if_neg (by omega), nar_congr (g := fun c => decide (c.2.2 ≤ 0))]
  · exact nar_zero
  · intro c
    rw [Int.mul_zero]
    congr 1
    apply propext
    constructor
    · intro h
      rcases Int.lt_or_le 0 c.2.2 with h2 | h2
      · have := Int.mul_pos h2 hx
        omega
      · exact h2
    · intro h
      have := Int.mul_nonneg (by omega : 0 ≤ -c.2.2) (by omega : 0 ≤ x)
      rw [Int.neg_mul] at this
      omega

theorem halves_two (x y : Int) : halvesI (2 * x) (2 * y) = halvesI x y := by
  unfold halvesI
  by_cases h : x = y
  · rw [if_pos (by omega), if_pos h]
  · rw [if_neg (by omega), if_neg h]
    congr 2
    apply nar_congr
    intro c
    have e1 : c.2.2 * (2 * x) = 2 * (c.2.2 * x) := by rw [Int.mul_left_comm]
    have e2 : c.2.1 * (2 * y) = 2 * (c.2.1 * y) := by rw [Int.mul_left_comm]
    simp only [e1, e2]
    congr 1
    apply propext
    omega

theorem ph1_zero {x : Int} (hx : 0 < x) : ph1 x 0 = 0 := by unfold ph1; rw [halves_zero hx]; rfl
theorem ph2_same (x : Int) : ph2 x x = 512 := by unfold ph2 ph1 halvesI; simp
theorem ph2_zero {x : Int} (hx : 0 < x) : ph2 x 0 = 0 ∧ ph2 0 x = 1024 := by
  unfold ph2
  rw [if_neg (by omega), if_pos hx, ph1_zero hx]
  exact ⟨rfl, rfl⟩
theorem ph2_sum (x y : Int) : ph2 x y + ph2 y x = 1024 := by
  by_cases h : x = y
  · subst h; rw [ph2_same]; rfl
  · unfold ph2
    by_cases h2 : x < y
    · rw [if_pos h2, if_neg (by omega)]; omega
    · rw [if_neg h2, if_pos (by omega)]; omega
theorem ph1_two (x y : Int) : ph1 (2 * x) (2 * y) = ph1 x y := by unfold ph1; rw [halves_two]
theorem ph2_two (x y : Int) : ph2 (2 * x) (2 * y) = ph2 x y := by
  unfold ph2
  rw [ph1_two, ph1_two]
  by_cases h : x < y
  · rw [if_pos h, if_pos (by omega)]
  · rw [if_neg h, if_neg (by omega)]
theorem ph3_two (x y : Int) : ph3 (2 * x) (2 * y) = ph3 x y := by
  unfold ph3
  rw [show -(2 * x) = 2 * (-x) from by omega, ph2_two, ph2_two]
  by_cases h : x < 0
  · rw [if_pos h, if_pos (by omega)]
  · rw [if_neg h, if_neg (by omega)]
theorem phI_two (x y : Int) : phI (2 * x) (2 * y) = phI x y := by
  unfold phI ph4
  rw [show -(2 * y) = 2 * (-y) from by omega, ph3_two, ph3_two]
  by_cases h : y < 0
  · rw [if_pos (show 2 * y < 0 by omega), if_pos h]
  · rw [if_neg (show ¬ 2 * y < 0 by omega), if_neg h]

theorem phI_conj {x y : Int} (h : ¬ (x = 0 ∧ y = 0)) : phI x (-y) = wrapI (-(phI x y)) := by
  unfold phI ph4 wrapI
  have r1 := ph3_range x y
  have r2 := ph3_range x (-y)
  by_cases h1 : y < 0
  · simp only [if_pos h1, if_neg (show ¬ -y < 0 by omega)]
    split <;> split <;> omega
  · by_cases h2 : y = 0
    · subst h2
      have e : ph3 x 0 = 0 ∨ ph3 x 0 = 2048 := by
        unfold ph3
        by_cases h3 : x < 0
        · rw [if_pos h3, (ph2_zero (x := -x) (by omega)).1]; right; rfl
        · rw [if_neg h3, (ph2_zero (x := x) (by omega)).1]; left; rfl
      simp only [Int.neg_zero, if_neg (show ¬ (0 : Int) < 0 by omega)]
      rcases e with e | e <;> rw [e] <;> decide
    · simp only [if_neg h1, if_pos (show -y < 0 by omega), Int.neg_neg]
      split <;> split <;> omega

theorem phI_turn {x y : Int} (h : ¬ (x = 0 ∧ y = 0)) : phI (-y) x = wrapI (phI x y + 1024) := by
  unfold phI ph4 wrapI ph3
  simp only [Int.neg_neg]
  have a1 := ph2_sum x y
  have a2 := ph2_sum (-x) y
  have a3 := ph2_sum x (-y)
  have a4 := ph2_sum (-x) (-y)
  have b1 := ph2_range x y
  have b2 := ph2_range (-x) y
  have b3 := ph2_range x (-y)
  have b4 := ph2_range (-x) (-y)
  rcases Int.lt_trichotomy x 0 with hx | hx | hx
  · rcases Int.lt_trichotomy y 0 with hy | hy | hy
    · simp only [if_pos hx, if_neg (show ¬ -y < 0 by omega), if_pos hy]
      split <;> split <;> omega
    · subst hy
      obtain ⟨c1, c2⟩ := ph2_zero (x := -x) (by omega)
      simp only [Int.neg_zero, if_pos hx, if_neg (show ¬ (0 : Int) < 0 by omega), c1, c2]
      decide
    · simp only [if_pos hx, if_pos (show -y < 0 by omega), if_neg (show ¬ y < 0 by omega)]
      split <;> split <;> omega
  · subst hx
    have hy : y ≠ 0 := fun e => h ⟨rfl, e⟩
    rcases Int.lt_or_gt_of_ne hy with hy | hy
    · obtain ⟨c1, c2⟩ := ph2_zero (x := -y) (by omega)
      simp only [Int.neg_zero, if_neg (show ¬ (0 : Int) < 0 by omega), if_neg (show ¬ -y < 0 by omega), if_pos hy, c1, c2]
      decide
    · obtain ⟨c1, c2⟩ := ph2_zero (x := y) (by omega)
      simp only [if_neg (show ¬ (0 : Int) < 0 by omega), if_pos (show -y < 0 by omega), if_neg (show ¬ y < 0 by omega), c1, c2]
      decide
  · rcases Int.lt_trichotomy y 0 with hy | hy | hy
    · simp only [if_neg (show ¬ x < 0 by omega), if_neg (show ¬ -y < 0 by omega), if_pos hy]
      split <;> split <;> omega
    · subst hy
      obtain ⟨c1, c2⟩ := ph2_zero (x := x) (by omega)
      simp only [Int.neg_zero, if_neg (show ¬ x < 0 by omega), if_neg (show ¬ (0 : Int) < 0 by omega), c1, c2]
      decide
    · simp only [if_neg (show ¬ x < 0 by omega), if_pos (show -y < 0 by omega), if_neg (show ¬ y < 0 by omega)]
      split <;> split <;> omega
end Go.Proofs.YtdpoemhpmdahjaaDoor
