/- The law on turns. -/
import Derived.Test.YtdpoemhpmdahjaaDoorTsl
namespace Go.Proofs.YtdpoemhpmdahjaaDoor
open Go.RowKit
set_option maxHeartbeats 400000
set_option maxRecDepth 100000

theorem turns_out (x y : Int) (h : ¬ ((-10000000000 ≤ x ∧ x ≤ 10000000000) ∧ (-10000000000 ≤ y ∧ y ≤ 10000000000) ∧ ¬ (x = 0 ∧ y = 0))) (w : World) (ht : Tab w) :
    Calls Tryd.prog 11 #[.int .i64 x, .int .i64 y] w fun e w' => e = .returned (.bool true) ∧ Below w.heap.size w w' := by
  have HT := Lib.hid ht
  clear ht
  by_cases h1 : -10000000000 ≤ x ∧ x ≤ 10000000000
  · have i1 := inB_t h1
    by_cases h2 : -10000000000 ≤ y ∧ y ≤ 10000000000
    · have i2 := inB_t h2
      obtain ⟨rfl, rfl⟩ : x = 0 ∧ y = 0 := by
        rcases Decidable.em (x = 0 ∧ y = 0) with h3 | h3
        · exact h3
        · exact absurd ⟨h1, h2, h3⟩ h
      clear h h1 h2
      go_enter Tryd.func11, Tryd.ntmps11
      go_wp2_with fail
      refine (awake_ok w HT.out).mono ?_
      rintro e w1 ⟨rfl, hb1⟩
      go_wp2_with (go_at_call 32; refine (baseWithin_any _ _ _ _).mono ?_; rintro e w' ⟨rfl, rfl⟩)
      go_ret
      exact ⟨rfl, hb1⟩
    · have i2 := inB_f h2
      clear h h1 h2
      go_enter Tryd.func11, Tryd.ntmps11
      go_wp2_with fail
      refine (awake_ok w HT.out).mono ?_
      rintro e w1 ⟨rfl, hb1⟩
      go_wp2_with (go_at_call 32; refine (baseWithin_any _ _ _ _).mono ?_; rintro e w' ⟨rfl, rfl⟩)
      go_ret
      exact ⟨rfl, hb1⟩
  · have i1 := inB_f h1
    clear h h1
    go_enter Tryd.func11, Tryd.ntmps11
    go_wp2_with fail
    refine (awake_ok w HT.out).mono ?_
    rintro e w1 ⟨rfl, hb1⟩
    go_wp2_with (go_at_call 32; refine (baseWithin_any _ _ _ _).mono ?_; rintro e w' ⟨rfl, rfl⟩)
    go_ret
    exact ⟨rfl, hb1⟩

theorem phase_F (x y : Int) (hx : x.natAbs ≤ 100000000000) (hy : y.natAbs ≤ 100000000000) (h0 : ¬ (x = 0 ∧ y = 0)) (w : World) :
    Calls Tryd.prog 55 #[.complex .f64 (Go.Proofs.YtdpoemhpmdahjaaDoor.F .f64 x) (Go.Proofs.YtdpoemhpmdahjaaDoor.F .f64 y)] w fun e w' => e = .returned (.tuple #[.int .i64 (phI x y), .int .i64 0]) ∧ Below w.heap.size w w' :=
  phaseOf_ok _ _ x y (is_F .f64 x (by rw [two53]; omega)) (is_F .f64 y (by rw [two53]; omega)) hx hy h0 w

theorem phI_range (x y : Int) : -2048 ≤ phI x y ∧ phI x y ≤ 2047 := by
  have := ph4_range x y
  unfold phI
  split <;> omega

set_option maxHeartbeats 4000000 in
theorem turns_a1 (x y : Int) (hx : -10000000000 ≤ x ∧ x ≤ 10000000000) (hy : -10000000000 ≤ y ∧ y ≤ 10000000000) (k1 : (x == 0) = true) (k2 : (y == 0) = false) (ly : y < 0) (w : World) (ht : Tab w) :
    Calls Tryd.prog 11 #[.int .i64 x, .int .i64 y] w fun e w' => e = .returned (.bool true) ∧ Below w.heap.size w w' := by
  have HT := Lib.hid ht
  have i1 := inB_t hx
  have i2 := inB_t hy
  have hn := phI_range x y
  have i3 := inB_t hn
  obtain ⟨x0, x1⟩ := hx
  obtain ⟨y0, y1⟩ := hy
  obtain ⟨n0, n1⟩ := hn
  have h0 : ¬ (x = 0 ∧ y = 0) := by simp at k2; omega
  have q1 := phI_conj h0
  have q2 := phI_turn h0
  have q3 := phI_two x y
  obtain ⟨n, hn⟩ : ∃ n, n = phI x y := ⟨_, rfl⟩
  rw [← hn] at n0 n1 i3 q1 q2 q3
  obtain ⟨a, ha⟩ : ∃ a, a = wrapI (-n) := ⟨_, rfl⟩
  obtain ⟨b, hb⟩ : ∃ b, b = wrapI (n + 1024) := ⟨_, rfl⟩
  rw [← ha] at q1
  rw [← hb] at q2
  have Q1 := Lib.hid q1
  have Q2 := Lib.hid q2
  have Q3 := Lib.hid q3
  have HN := Lib.hid hn
  have HA := Lib.hid ha
  have HB := Lib.hid hb
  have H0 := Lib.hid h0
  clear ht q1 q2 q3 hn ha hb h0
  have e1 : (a != a) = false := by simp
  have e2 : (b != b) = false := by simp
  have e3 : (n != n) = false := by simp
  go_enter Tryd.func11, Tryd.ntmps11
  go_wp2_with fail
  refine (awake_ok w HT.out).mono ?_
  rintro e w1 ⟨rfl, hb1⟩
  go_wp2_with (first | (go_at_call 32; refine (baseWithin_any _ _ _ _).mono ?_; rintro e w' ⟨rfl, rfl⟩) | (go_at_call 57; refine (sum_any _ _ _).mono ?_; rintro e w' ⟨rfl, rfl⟩))
  refine (phase_F x y (by omega) (by omega) H0.out _).mono ?_
  rw [← HN.out]
  rintro e w2 ⟨rfl, hb2⟩
  have hw2 := hb1.trans (hb2.mono hb1.size)
  clear hb2
  go_wp2_with (go_at_call 57; refine (sum_any _ _ _).mono ?_; rintro e w' ⟨rfl, rfl⟩)
  refine (phase_F x (-y) (by omega) (by omega) (by have := H0.out; omega) _).mono ?_
  rw [Q1.out]
  rintro e w3 ⟨rfl, hb3⟩
  have hw3 := hw2.trans (hb3.mono hw2.size)
  clear hb3 hw2
  go_wp2_with (go_at_call 57; refine (sum_any _ _ _).mono ?_; rintro e w' ⟨rfl, rfl⟩)
  refine (phase_F (-y) x (by omega) (by omega) (by have := H0.out; omega) _).mono ?_
  rw [Q2.out]
  rintro e w4 ⟨rfl, hb4⟩
  have hw4 := hw3.trans (hb4.mono hw3.size)
  clear hb4 hw3
  go_wp2_with (go_at_call 57; refine (sum_any _ _ _).mono ?_; rintro e w' ⟨rfl, rfl⟩)
  refine (phase_F (2 * x) (2 * y) (by omega) (by omega) (by have := H0.out; omega) _).mono ?_
  rw [Q3.out]
  rintro e w5 ⟨rfl, hb5⟩
  have hw5 := hw4.trans (hb5.mono hw4.size)
  clear hb5 hw4 hb1
  go_wp2_with (first | (go_at_call 32; refine (baseWithin_any _ _ _ _).mono ?_; rintro e w' ⟨rfl, rfl⟩))
  refine (wrap_any (-n) (by omega) (by omega) _).mono ?_
  rw [← HA.out]
  rintro e w' ⟨rfl, rfl⟩
  go_wp2_with fail
  refine (wrap_any (n + 1024) (by omega) (by omega) _).mono ?_
  rw [← HB.out]
  rintro e w' ⟨rfl, rfl⟩
  go_wp2_with fail
  go_ret
  exact ⟨rfl, hw5⟩

set_option maxHeartbeats 4000000 in
theorem turns_a0 (x y : Int) (hx : -10000000000 ≤ x ∧ x ≤ 10000000000) (hy : -10000000000 ≤ y ∧ y ≤ 10000000000) (k1 : (x == 0) = false) (ly : y < 0) (w : World) (ht : Tab w) :
    Calls Tryd.prog 11 #[.int .i64 x, .int .i64 y] w fun e w' => e = .returned (.bool true) ∧ Below w.heap.size w w' := by
  have HT := Lib.hid ht
  have i1 := inB_t hx
  have i2 := inB_t hy
  have hn := phI_range x y
  have i3 := inB_t hn
  obtain ⟨x0, x1⟩ := hx
  obtain ⟨y0, y1⟩ := hy
  obtain ⟨n0, n1⟩ := hn
  have h0 : ¬ (x = 0 ∧ y = 0) := by simp at k1; omega
  have q1 := phI_conj h0
  have q2 := phI_turn h0
  have q3 := phI_two x y
  obtain ⟨n, hn⟩ : ∃ n, n = phI x y := ⟨_, rfl⟩
  rw [← hn] at n0 n1 i3 q1 q2 q3
  obtain ⟨a, ha⟩ : ∃ a, a = wrapI (-n) := ⟨_, rfl⟩
  obtain ⟨b, hb⟩ : ∃ b, b = wrapI (n + 1024) := ⟨_, rfl⟩
  rw [← ha] at q1
  rw [← hb] at q2
  have Q1 := Lib.hid q1
  have Q2 := Lib.hid q2
  have Q3 := Lib.hid q3
  have HN := Lib.hid hn
  have HA := Lib.hid ha
  have HB := Lib.hid hb
  have H0 := Lib.hid h0
  clear ht q1 q2 q3 hn ha hb h0
  have e1 : (a != a) = false := by simp
  have e2 : (b != b) = false := by simp
  have e3 : (n != n) = false := by simp
  go_enter Tryd.func11, Tryd.ntmps11
  go_wp2_with fail
  refine (awake_ok w HT.out).mono ?_
  rintro e w1 ⟨rfl, hb1⟩
  go_wp2_with (first | (go_at_call 32; refine (baseWithin_any _ _ _ _).mono ?_; rintro e w' ⟨rfl, rfl⟩) | (go_at_call 57; refine (sum_any _ _ _).mono ?_; rintro e w' ⟨rfl, rfl⟩))
  refine (phase_F x y (by omega) (by omega) H0.out _).mono ?_
  rw [← HN.out]
  rintro e w2 ⟨rfl, hb2⟩
  have hw2 := hb1.trans (hb2.mono hb1.size)
  clear hb2
  go_wp2_with (go_at_call 57; refine (sum_any _ _ _).mono ?_; rintro e w' ⟨rfl, rfl⟩)
  refine (phase_F x (-y) (by omega) (by omega) (by have := H0.out; omega) _).mono ?_
  rw [Q1.out]
  rintro e w3 ⟨rfl, hb3⟩
  have hw3 := hw2.trans (hb3.mono hw2.size)
  clear hb3 hw2
  go_wp2_with (go_at_call 57; refine (sum_any _ _ _).mono ?_; rintro e w' ⟨rfl, rfl⟩)
  refine (phase_F (-y) x (by omega) (by omega) (by have := H0.out; omega) _).mono ?_
  rw [Q2.out]
  rintro e w4 ⟨rfl, hb4⟩
  have hw4 := hw3.trans (hb4.mono hw3.size)
  clear hb4 hw3
  go_wp2_with (go_at_call 57; refine (sum_any _ _ _).mono ?_; rintro e w' ⟨rfl, rfl⟩)
  refine (phase_F (2 * x) (2 * y) (by omega) (by omega) (by have := H0.out; omega) _).mono ?_
  rw [Q3.out]
  rintro e w5 ⟨rfl, hb5⟩
  have hw5 := hw4.trans (hb5.mono hw4.size)
  clear hb5 hw4 hb1
  go_wp2_with (first | (go_at_call 32; refine (baseWithin_any _ _ _ _).mono ?_; rintro e w' ⟨rfl, rfl⟩))
  refine (wrap_any (-n) (by omega) (by omega) _).mono ?_
  rw [← HA.out]
  rintro e w' ⟨rfl, rfl⟩
  go_wp2_with fail
  refine (wrap_any (n + 1024) (by omega) (by omega) _).mono ?_
  rw [← HB.out]
  rintro e w' ⟨rfl, rfl⟩
  go_wp2_with fail
  go_ret
  exact ⟨rfl, hw5⟩

set_option maxHeartbeats 4000000 in
theorem turns_b1 (x y : Int) (hx : -10000000000 ≤ x ∧ x ≤ 10000000000) (hy : -10000000000 ≤ y ∧ y ≤ 10000000000) (k1 : (x == 0) = true) (k2 : (y == 0) = false) (ly : 0 ≤ y) (lxy : x < y) (w : World) (ht : Tab w) :
    Calls Tryd.prog 11 #[.int .i64 x, .int .i64 y] w fun e w' => e = .returned (.bool true) ∧ Below w.heap.size w w' := by
  have HT := Lib.hid ht
  have i1 := inB_t hx
  have i2 := inB_t hy
  have hn := phI_range x y
  have i3 := inB_t hn
  obtain ⟨x0, x1⟩ := hx
  obtain ⟨y0, y1⟩ := hy
  obtain ⟨n0, n1⟩ := hn
  have h0 : ¬ (x = 0 ∧ y = 0) := by simp at k2; omega
  have q1 := phI_conj h0
  have q2 := phI_turn h0
  have q3 := phI_two x y
  obtain ⟨n, hn⟩ : ∃ n, n = phI x y := ⟨_, rfl⟩
  rw [← hn] at n0 n1 i3 q1 q2 q3
  obtain ⟨a, ha⟩ : ∃ a, a = wrapI (-n) := ⟨_, rfl⟩
  obtain ⟨b, hb⟩ : ∃ b, b = wrapI (n + 1024) := ⟨_, rfl⟩
  rw [← ha] at q1
  rw [← hb] at q2
  have Q1 := Lib.hid q1
  have Q2 := Lib.hid q2
  have Q3 := Lib.hid q3
  have HN := Lib.hid hn
  have HA := Lib.hid ha
  have HB := Lib.hid hb
  have H0 := Lib.hid h0
  clear ht q1 q2 q3 hn ha hb h0
  have e1 : (a != a) = false := by simp
  have e2 : (b != b) = false := by simp
  have e3 : (n != n) = false := by simp
  go_enter Tryd.func11, Tryd.ntmps11
  go_wp2_with fail
  refine (awake_ok w HT.out).mono ?_
  rintro e w1 ⟨rfl, hb1⟩
  go_wp2_with (first | (go_at_call 32; refine (baseWithin_any _ _ _ _).mono ?_; rintro e w' ⟨rfl, rfl⟩) | (go_at_call 57; refine (sum_any _ _ _).mono ?_; rintro e w' ⟨rfl, rfl⟩))
  refine (phase_F x y (by omega) (by omega) H0.out _).mono ?_
  rw [← HN.out]
  rintro e w2 ⟨rfl, hb2⟩
  have hw2 := hb1.trans (hb2.mono hb1.size)
  clear hb2
  go_wp2_with (go_at_call 57; refine (sum_any _ _ _).mono ?_; rintro e w' ⟨rfl, rfl⟩)
  refine (phase_F x (-y) (by omega) (by omega) (by have := H0.out; omega) _).mono ?_
  rw [Q1.out]
  rintro e w3 ⟨rfl, hb3⟩
  have hw3 := hw2.trans (hb3.mono hw2.size)
  clear hb3 hw2
  go_wp2_with (go_at_call 57; refine (sum_any _ _ _).mono ?_; rintro e w' ⟨rfl, rfl⟩)
  refine (phase_F (-y) x (by omega) (by omega) (by have := H0.out; omega) _).mono ?_
  rw [Q2.out]
  rintro e w4 ⟨rfl, hb4⟩
  have hw4 := hw3.trans (hb4.mono hw3.size)
  clear hb4 hw3
  go_wp2_with (go_at_call 57; refine (sum_any _ _ _).mono ?_; rintro e w' ⟨rfl, rfl⟩)
  refine (phase_F (2 * x) (2 * y) (by omega) (by omega) (by have := H0.out; omega) _).mono ?_
  rw [Q3.out]
  rintro e w5 ⟨rfl, hb5⟩
  have hw5 := hw4.trans (hb5.mono hw4.size)
  clear hb5 hw4 hb1
  go_wp2_with (first | (go_at_call 32; refine (baseWithin_any _ _ _ _).mono ?_; rintro e w' ⟨rfl, rfl⟩))
  refine (wrap_any (-n) (by omega) (by omega) _).mono ?_
  rw [← HA.out]
  rintro e w' ⟨rfl, rfl⟩
  go_wp2_with fail
  refine (wrap_any (n + 1024) (by omega) (by omega) _).mono ?_
  rw [← HB.out]
  rintro e w' ⟨rfl, rfl⟩
  go_wp2_with fail
  go_ret
  exact ⟨rfl, hw5⟩

set_option maxHeartbeats 4000000 in
theorem turns_b0 (x y : Int) (hx : -10000000000 ≤ x ∧ x ≤ 10000000000) (hy : -10000000000 ≤ y ∧ y ≤ 10000000000) (k1 : (x == 0) = false) (ly : 0 ≤ y) (lxy : x < y) (w : World) (ht : Tab w) :
    Calls Tryd.prog 11 #[.int .i64 x, .int .i64 y] w fun e w' => e = .returned (.bool true) ∧ Below w.heap.size w w' := by
  have HT := Lib.hid ht
  have i1 := inB_t hx
  have i2 := inB_t hy
  have hn := phI_range x y
  have i3 := inB_t hn
  obtain ⟨x0, x1⟩ := hx
  obtain ⟨y0, y1⟩ := hy
  obtain ⟨n0, n1⟩ := hn
  have h0 : ¬ (x = 0 ∧ y = 0) := by simp at k1; omega
  have q1 := phI_conj h0
  have q2 := phI_turn h0
  have q3 := phI_two x y
  obtain ⟨n, hn⟩ : ∃ n, n = phI x y := ⟨_, rfl⟩
  rw [← hn] at n0 n1 i3 q1 q2 q3
  obtain ⟨a, ha⟩ : ∃ a, a = wrapI (-n) := ⟨_, rfl⟩
  obtain ⟨b, hb⟩ : ∃ b, b = wrapI (n + 1024) := ⟨_, rfl⟩
  rw [← ha] at q1
  rw [← hb] at q2
  have Q1 := Lib.hid q1
  have Q2 := Lib.hid q2
  have Q3 := Lib.hid q3
  have HN := Lib.hid hn
  have HA := Lib.hid ha
  have HB := Lib.hid hb
  have H0 := Lib.hid h0
  clear ht q1 q2 q3 hn ha hb h0
  have e1 : (a != a) = false := by simp
  have e2 : (b != b) = false := by simp
  have e3 : (n != n) = false := by simp
  go_enter Tryd.func11, Tryd.ntmps11
  go_wp2_with fail
  refine (awake_ok w HT.out).mono ?_
  rintro e w1 ⟨rfl, hb1⟩
  go_wp2_with (first | (go_at_call 32; refine (baseWithin_any _ _ _ _).mono ?_; rintro e w' ⟨rfl, rfl⟩) | (go_at_call 57; refine (sum_any _ _ _).mono ?_; rintro e w' ⟨rfl, rfl⟩))
  refine (phase_F x y (by omega) (by omega) H0.out _).mono ?_
  rw [← HN.out]
  rintro e w2 ⟨rfl, hb2⟩
  have hw2 := hb1.trans (hb2.mono hb1.size)
  clear hb2
  go_wp2_with (go_at_call 57; refine (sum_any _ _ _).mono ?_; rintro e w' ⟨rfl, rfl⟩)
  refine (phase_F x (-y) (by omega) (by omega) (by have := H0.out; omega) _).mono ?_
  rw [Q1.out]
  rintro e w3 ⟨rfl, hb3⟩
  have hw3 := hw2.trans (hb3.mono hw2.size)
  clear hb3 hw2
  go_wp2_with (go_at_call 57; refine (sum_any _ _ _).mono ?_; rintro e w' ⟨rfl, rfl⟩)
  refine (phase_F (-y) x (by omega) (by omega) (by have := H0.out; omega) _).mono ?_
  rw [Q2.out]
  rintro e w4 ⟨rfl, hb4⟩
  have hw4 := hw3.trans (hb4.mono hw3.size)
  clear hb4 hw3
  go_wp2_with (go_at_call 57; refine (sum_any _ _ _).mono ?_; rintro e w' ⟨rfl, rfl⟩)
  refine (phase_F (2 * x) (2 * y) (by omega) (by omega) (by have := H0.out; omega) _).mono ?_
  rw [Q3.out]
  rintro e w5 ⟨rfl, hb5⟩
  have hw5 := hw4.trans (hb5.mono hw4.size)
  clear hb5 hw4 hb1
  go_wp2_with (first | (go_at_call 32; refine (baseWithin_any _ _ _ _).mono ?_; rintro e w' ⟨rfl, rfl⟩))
  refine (wrap_any (-n) (by omega) (by omega) _).mono ?_
  rw [← HA.out]
  rintro e w' ⟨rfl, rfl⟩
  go_wp2_with fail
  refine (wrap_any (n + 1024) (by omega) (by omega) _).mono ?_
  rw [← HB.out]
  rintro e w' ⟨rfl, rfl⟩
  go_wp2_with fail
  go_ret
  exact ⟨rfl, hw5⟩

set_option maxHeartbeats 4000000 in
theorem turns_c (x y : Int) (hx : -10000000000 ≤ x ∧ x ≤ 10000000000) (hy : -10000000000 ≤ y ∧ y ≤ 10000000000) (k1 : (x == 0) = false) (lx : 0 < x) (ly : 0 ≤ y) (lxy : y ≤ x) (ln : 0 < phI x y) (lm : phI x y < 512) (w : World) (ht : Tab w) :
    Calls Tryd.prog 11 #[.int .i64 x, .int .i64 y] w fun e w' => e = .returned (.bool true) ∧ Below w.heap.size w w' := by
  have HT := Lib.hid ht
  have i1 := inB_t hx
  have i2 := inB_t hy
  have hn := phI_range x y
  have i3 := inB_t hn
  obtain ⟨x0, x1⟩ := hx
  obtain ⟨y0, y1⟩ := hy
  obtain ⟨n0, n1⟩ := hn
  have h0 : ¬ (x = 0 ∧ y = 0) := by simp at k1; omega
  have q1 := phI_conj h0
  have q2 := phI_turn h0
  have q3 := phI_two x y
  have p1 := ahead lx ly lxy ln
  have p2 := behind lx ly lxy lm
  obtain ⟨n, hn⟩ : ∃ n, n = phI x y := ⟨_, rfl⟩
  rw [← hn] at n0 n1 i3 q1 q2 q3 ln lm p1 p2
  obtain ⟨a, ha⟩ : ∃ a, a = wrapI (-n) := ⟨_, rfl⟩
  obtain ⟨b, hb⟩ : ∃ b, b = wrapI (n + 1024) := ⟨_, rfl⟩
  rw [← ha] at q1
  rw [← hb] at q2
  have Q1 := Lib.hid q1
  have Q2 := Lib.hid q2
  have Q3 := Lib.hid q3
  have HN := Lib.hid hn
  have HA := Lib.hid ha
  have HB := Lib.hid hb
  have H0 := Lib.hid h0
  obtain ⟨_, _, a7, b7, c7, d7⟩ := okMk_facts (dirI_ok (m := 2 * n - 1))
  obtain ⟨u7, hu7⟩ : ∃ u, u = (dirI (2 * n - 1)).2.1 := ⟨_, rfl⟩
  obtain ⟨v7, hv7⟩ : ∃ v, v = (dirI (2 * n - 1)).2.2 := ⟨_, rfl⟩
  unfold Rch at p1
  rw [← hu7] at a7 b7
  rw [← hv7] at c7 d7
  rw [← hu7, ← hv7] at p1
  have s7 := Int.mul_nonneg a7 ly
  have t7 := Int.mul_le_mul b7 y1 ly (by omega)
  have s'7 := Int.mul_nonneg c7 (Int.le_of_lt lx)
  have t'7 := Int.mul_le_mul d7 x1 (Int.le_of_lt lx) (by omega)
  have HU7 := Lib.hid hu7
  have HV7 := Lib.hid hv7
  clear hu7 hv7
  obtain ⟨_, _, a8, b8, c8, d8⟩ := okMk_facts (dirI_ok (m := 2 * n + 1))
  obtain ⟨u8, hu8⟩ : ∃ u, u = (dirI (2 * n + 1)).2.1 := ⟨_, rfl⟩
  obtain ⟨v8, hv8⟩ : ∃ v, v = (dirI (2 * n + 1)).2.2 := ⟨_, rfl⟩
  unfold Rch at p2
  rw [← hu8] at a8 b8
  rw [← hv8] at c8 d8
  rw [← hu8, ← hv8] at p2
  have s8 := Int.mul_nonneg a8 ly
  have t8 := Int.mul_le_mul b8 y1 ly (by omega)
  have s'8 := Int.mul_nonneg c8 (Int.le_of_lt lx)
  have t'8 := Int.mul_le_mul d8 x1 (Int.le_of_lt lx) (by omega)
  have HU8 := Lib.hid hu8
  have HV8 := Lib.hid hv8
  clear hu8 hv8
  clear ht q1 q2 q3 hn ha hb h0
  have e1 : (a != a) = false := by simp
  have e2 : (b != b) = false := by simp
  have e3 : (n != n) = false := by simp
  go_enter Tryd.func11, Tryd.ntmps11
  go_wp2_with fail
  refine (awake_ok w HT.out).mono ?_
  rintro e w1 ⟨rfl, hb1⟩
  go_wp2_with (first | (go_at_call 32; refine (baseWithin_any _ _ _ _).mono ?_; rintro e w' ⟨rfl, rfl⟩) | (go_at_call 57; refine (sum_any _ _ _).mono ?_; rintro e w' ⟨rfl, rfl⟩))
  refine (phase_F x y (by omega) (by omega) H0.out _).mono ?_
  rw [← HN.out]
  rintro e w2 ⟨rfl, hb2⟩
  have hw2 := hb1.trans (hb2.mono hb1.size)
  clear hb2
  go_wp2_with (go_at_call 57; refine (sum_any _ _ _).mono ?_; rintro e w' ⟨rfl, rfl⟩)
  refine (phase_F x (-y) (by omega) (by omega) (by have := H0.out; omega) _).mono ?_
  rw [Q1.out]
  rintro e w3 ⟨rfl, hb3⟩
  have hw3 := hw2.trans (hb3.mono hw2.size)
  clear hb3 hw2
  go_wp2_with (go_at_call 57; refine (sum_any _ _ _).mono ?_; rintro e w' ⟨rfl, rfl⟩)
  refine (phase_F (-y) x (by omega) (by omega) (by have := H0.out; omega) _).mono ?_
  rw [Q2.out]
  rintro e w4 ⟨rfl, hb4⟩
  have hw4 := hw3.trans (hb4.mono hw3.size)
  clear hb4 hw3
  go_wp2_with (go_at_call 57; refine (sum_any _ _ _).mono ?_; rintro e w' ⟨rfl, rfl⟩)
  refine (phase_F (2 * x) (2 * y) (by omega) (by omega) (by have := H0.out; omega) _).mono ?_
  rw [Q3.out]
  rintro e w5 ⟨rfl, hb5⟩
  have hw5 := hw4.trans (hb5.mono hw4.size)
  clear hb5 hw4 hb1
  go_wp2_with (first | (go_at_call 32; refine (baseWithin_any _ _ _ _).mono ?_; rintro e w' ⟨rfl, rfl⟩))
  refine (wrap_any (-n) (by omega) (by omega) _).mono ?_
  rw [← HA.out]
  rintro e w' ⟨rfl, rfl⟩
  go_wp2_with fail
  refine (wrap_any (n + 1024) (by omega) (by omega) _).mono ?_
  rw [← HB.out]
  rintro e w' ⟨rfl, rfl⟩
  go_wp2_with fail
  refine (direction_ok (2 * n - 1) (by omega) (by omega) w5).mono ?_
  rw [← HU7.out, ← HV7.out]
  rintro e w6 ⟨rfl, hb7⟩
  have hw7 : Below w.heap.size w w6 := hw5.trans (hb7.mono hw5.size)
  have z7 := hw7.size
  clear hb7
  go_wp2_with fail
  refine (direction_ok (2 * n + 1) (by omega) (by omega) _).mono ?_
  rw [← HU8.out, ← HV8.out]
  rintro e w7 ⟨rfl, hb8⟩
  have hw8 : Below w.heap.size w w7 := (below_new hw7 z7).trans (hb8.mono (below_new hw7 z7).size)
  have z8 := hw8.size
  clear hb8
  go_wp2_with fail
  go_ret
  exact ⟨rfl, below_new hw8 z8⟩

set_option maxHeartbeats 4000000 in
theorem turns_d (x y : Int) (hx : -10000000000 ≤ x ∧ x ≤ 10000000000) (hy : -10000000000 ≤ y ∧ y ≤ 10000000000) (k1 : (x == 0) = false) (lx : 0 < x) (ly : 0 ≤ y) (lxy : y ≤ x) (ln : 0 < phI x y) (lm : ¬ phI x y < 512) (w : World) (ht : Tab w) :
    Calls Tryd.prog 11 #[.int .i64 x, .int .i64 y] w fun e w' => e = .returned (.bool true) ∧ Below w.heap.size w w' := by
  have HT := Lib.hid ht
  have i1 := inB_t hx
  have i2 := inB_t hy
  have hn := phI_range x y
  have i3 := inB_t hn
  obtain ⟨x0, x1⟩ := hx
  obtain ⟨y0, y1⟩ := hy
  obtain ⟨n0, n1⟩ := hn
  have h0 : ¬ (x = 0 ∧ y = 0) := by simp at k1; omega
  have q1 := phI_conj h0
  have q2 := phI_turn h0
  have q3 := phI_two x y
  have p1 := ahead lx ly lxy ln
  have lim := phI_first lx ly lxy
  have lim2 := halves_mark ly lxy
  have l3 : phI x y ≤ 512 := by omega
  clear lim lim2
  obtain ⟨n, hn⟩ : ∃ n, n = phI x y := ⟨_, rfl⟩
  rw [← hn] at n0 n1 i3 q1 q2 q3 ln lm p1 l3
  obtain ⟨a, ha⟩ : ∃ a, a = wrapI (-n) := ⟨_, rfl⟩
  obtain ⟨b, hb⟩ : ∃ b, b = wrapI (n + 1024) := ⟨_, rfl⟩
  rw [← ha] at q1
  rw [← hb] at q2
  have Q1 := Lib.hid q1
  have Q2 := Lib.hid q2
  have Q3 := Lib.hid q3
  have HN := Lib.hid hn
  have HA := Lib.hid ha
  have HB := Lib.hid hb
  have H0 := Lib.hid h0
  obtain ⟨_, _, a7, b7, c7, d7⟩ := okMk_facts (dirI_ok (m := 2 * n - 1))
  obtain ⟨u7, hu7⟩ : ∃ u, u = (dirI (2 * n - 1)).2.1 := ⟨_, rfl⟩
  obtain ⟨v7, hv7⟩ : ∃ v, v = (dirI (2 * n - 1)).2.2 := ⟨_, rfl⟩
  unfold Rch at p1
  rw [← hu7] at a7 b7
  rw [← hv7] at c7 d7
  rw [← hu7, ← hv7] at p1
  have s7 := Int.mul_nonneg a7 ly
  have t7 := Int.mul_le_mul b7 y1 ly (by omega)
  have s'7 := Int.mul_nonneg c7 (Int.le_of_lt lx)
  have t'7 := Int.mul_le_mul d7 x1 (Int.le_of_lt lx) (by omega)
  have HU7 := Lib.hid hu7
  have HV7 := Lib.hid hv7
  clear hu7 hv7
  clear ht q1 q2 q3 hn ha hb h0
  have e1 : (a != a) = false := by simp
  have e2 : (b != b) = false := by simp
  have e3 : (n != n) = false := by simp
  go_enter Tryd.func11, Tryd.ntmps11
  go_wp2_with fail
  refine (awake_ok w HT.out).mono ?_
  rintro e w1 ⟨rfl, hb1⟩
  go_wp2_with (first | (go_at_call 32; refine (baseWithin_any _ _ _ _).mono ?_; rintro e w' ⟨rfl, rfl⟩) | (go_at_call 57; refine (sum_any _ _ _).mono ?_; rintro e w' ⟨rfl, rfl⟩))
  refine (phase_F x y (by omega) (by omega) H0.out _).mono ?_
  rw [← HN.out]
  rintro e w2 ⟨rfl, hb2⟩
  have hw2 := hb1.trans (hb2.mono hb1.size)
  clear hb2
  go_wp2_with (go_at_call 57; refine (sum_any _ _ _).mono ?_; rintro e w' ⟨rfl, rfl⟩)
  refine (phase_F x (-y) (by omega) (by omega) (by have := H0.out; omega) _).mono ?_
  rw [Q1.out]
  rintro e w3 ⟨rfl, hb3⟩
  have hw3 := hw2.trans (hb3.mono hw2.size)
  clear hb3 hw2
  go_wp2_with (go_at_call 57; refine (sum_any _ _ _).mono ?_; rintro e w' ⟨rfl, rfl⟩)
  refine (phase_F (-y) x (by omega) (by omega) (by have := H0.out; omega) _).mono ?_
  rw [Q2.out]
  rintro e w4 ⟨rfl, hb4⟩
  have hw4 := hw3.trans (hb4.mono hw3.size)
  clear hb4 hw3
  go_wp2_with (go_at_call 57; refine (sum_any _ _ _).mono ?_; rintro e w' ⟨rfl, rfl⟩)
  refine (phase_F (2 * x) (2 * y) (by omega) (by omega) (by have := H0.out; omega) _).mono ?_
  rw [Q3.out]
  rintro e w5 ⟨rfl, hb5⟩
  have hw5 := hw4.trans (hb5.mono hw4.size)
  clear hb5 hw4 hb1
  go_wp2_with (first | (go_at_call 32; refine (baseWithin_any _ _ _ _).mono ?_; rintro e w' ⟨rfl, rfl⟩))
  refine (wrap_any (-n) (by omega) (by omega) _).mono ?_
  rw [← HA.out]
  rintro e w' ⟨rfl, rfl⟩
  go_wp2_with fail
  refine (wrap_any (n + 1024) (by omega) (by omega) _).mono ?_
  rw [← HB.out]
  rintro e w' ⟨rfl, rfl⟩
  go_wp2_with fail
  refine (direction_ok (2 * n - 1) (by omega) (by omega) w5).mono ?_
  rw [← HU7.out, ← HV7.out]
  rintro e w6 ⟨rfl, hb7⟩
  have hw7 : Below w.heap.size w w6 := hw5.trans (hb7.mono hw5.size)
  have z7 := hw7.size
  clear hb7
  go_wp2_with fail
  go_ret
  exact ⟨rfl, below_new hw7 z7⟩

set_option maxHeartbeats 4000000 in
theorem turns_e (x y : Int) (hx : -10000000000 ≤ x ∧ x ≤ 10000000000) (hy : -10000000000 ≤ y ∧ y ≤ 10000000000) (k1 : (x == 0) = false) (lx : 0 < x) (ly : 0 ≤ y) (lxy : y ≤ x) (ln : ¬ 0 < phI x y) (lm : phI x y < 512) (w : World) (ht : Tab w) :
    Calls Tryd.prog 11 #[.int .i64 x, .int .i64 y] w fun e w' => e = .returned (.bool true) ∧ Below w.heap.size w w' := by
  have HT := Lib.hid ht
  have i1 := inB_t hx
  have i2 := inB_t hy
  have hn := phI_range x y
  have i3 := inB_t hn
  obtain ⟨x0, x1⟩ := hx
  obtain ⟨y0, y1⟩ := hy
  obtain ⟨n0, n1⟩ := hn
  have h0 : ¬ (x = 0 ∧ y = 0) := by simp at k1; omega
  have q1 := phI_conj h0
  have q2 := phI_turn h0
  have q3 := phI_two x y
  have p2 := behind lx ly lxy lm
  have lim := phI_first lx ly lxy
  have lim2 := halves_mark ly lxy
  have l3 : 0 ≤ phI x y := by omega
  clear lim lim2
  obtain ⟨n, hn⟩ : ∃ n, n = phI x y := ⟨_, rfl⟩
  rw [← hn] at n0 n1 i3 q1 q2 q3 ln lm p2 l3
  obtain ⟨a, ha⟩ : ∃ a, a = wrapI (-n) := ⟨_, rfl⟩
  obtain ⟨b, hb⟩ : ∃ b, b = wrapI (n + 1024) := ⟨_, rfl⟩
  rw [← ha] at q1
  rw [← hb] at q2
  have Q1 := Lib.hid q1
  have Q2 := Lib.hid q2
  have Q3 := Lib.hid q3
  have HN := Lib.hid hn
  have HA := Lib.hid ha
  have HB := Lib.hid hb
  have H0 := Lib.hid h0
  obtain ⟨_, _, a8, b8, c8, d8⟩ := okMk_facts (dirI_ok (m := 2 * n + 1))
  obtain ⟨u8, hu8⟩ : ∃ u, u = (dirI (2 * n + 1)).2.1 := ⟨_, rfl⟩
  obtain ⟨v8, hv8⟩ : ∃ v, v = (dirI (2 * n + 1)).2.2 := ⟨_, rfl⟩
  unfold Rch at p2
  rw [← hu8] at a8 b8
  rw [← hv8] at c8 d8
  rw [← hu8, ← hv8] at p2
  have s8 := Int.mul_nonneg a8 ly
  have t8 := Int.mul_le_mul b8 y1 ly (by omega)
  have s'8 := Int.mul_nonneg c8 (Int.le_of_lt lx)
  have t'8 := Int.mul_le_mul d8 x1 (Int.le_of_lt lx) (by omega)
  have HU8 := Lib.hid hu8
  have HV8 := Lib.hid hv8
  clear hu8 hv8
  clear ht q1 q2 q3 hn ha hb h0
  have e1 : (a != a) = false := by simp
  have e2 : (b != b) = false := by simp
  have e3 : (n != n) = false := by simp
  go_enter Tryd.func11, Tryd.ntmps11
  go_wp2_with fail
  refine (awake_ok w HT.out).mono ?_
  rintro e w1 ⟨rfl, hb1⟩
  go_wp2_with (first | (go_at_call 32; refine (baseWithin_any _ _ _ _).mono ?_; rintro e w' ⟨rfl, rfl⟩) | (go_at_call 57; refine (sum_any _ _ _).mono ?_; rintro e w' ⟨rfl, rfl⟩))
  refine (phase_F x y (by omega) (by omega) H0.out _).mono ?_
  rw [← HN.out]
  rintro e w2 ⟨rfl, hb2⟩
  have hw2 := hb1.trans (hb2.mono hb1.size)
  clear hb2
  go_wp2_with (go_at_call 57; refine (sum_any _ _ _).mono ?_; rintro e w' ⟨rfl, rfl⟩)
  refine (phase_F x (-y) (by omega) (by omega) (by have := H0.out; omega) _).mono ?_
  rw [Q1.out]
  rintro e w3 ⟨rfl, hb3⟩
  have hw3 := hw2.trans (hb3.mono hw2.size)
  clear hb3 hw2
  go_wp2_with (go_at_call 57; refine (sum_any _ _ _).mono ?_; rintro e w' ⟨rfl, rfl⟩)
  refine (phase_F (-y) x (by omega) (by omega) (by have := H0.out; omega) _).mono ?_
  rw [Q2.out]
  rintro e w4 ⟨rfl, hb4⟩
  have hw4 := hw3.trans (hb4.mono hw3.size)
  clear hb4 hw3
  go_wp2_with (go_at_call 57; refine (sum_any _ _ _).mono ?_; rintro e w' ⟨rfl, rfl⟩)
  refine (phase_F (2 * x) (2 * y) (by omega) (by omega) (by have := H0.out; omega) _).mono ?_
  rw [Q3.out]
  rintro e w5 ⟨rfl, hb5⟩
  have hw5 := hw4.trans (hb5.mono hw4.size)
  clear hb5 hw4 hb1
  go_wp2_with (first | (go_at_call 32; refine (baseWithin_any _ _ _ _).mono ?_; rintro e w' ⟨rfl, rfl⟩))
  refine (wrap_any (-n) (by omega) (by omega) _).mono ?_
  rw [← HA.out]
  rintro e w' ⟨rfl, rfl⟩
  go_wp2_with fail
  refine (wrap_any (n + 1024) (by omega) (by omega) _).mono ?_
  rw [← HB.out]
  rintro e w' ⟨rfl, rfl⟩
  go_wp2_with fail
  refine (direction_ok (2 * n + 1) (by omega) (by omega) w5).mono ?_
  rw [← HU8.out, ← HV8.out]
  rintro e w6 ⟨rfl, hb8⟩
  have hw8 : Below w.heap.size w w6 := hw5.trans (hb8.mono hw5.size)
  have z8 := hw8.size
  clear hb8
  go_wp2_with fail
  go_ret
  exact ⟨rfl, below_new hw8 z8⟩

theorem turns_all (x y : Int) (w : World) (ht : Tab w) :
    Calls Tryd.prog 11 #[.int .i64 x, .int .i64 y] w fun e w' => e = .returned (.bool true) ∧ Below w.heap.size w w' := by
  by_cases h : (-10000000000 ≤ x ∧ x ≤ 10000000000) ∧ (-10000000000 ≤ y ∧ y ≤ 10000000000) ∧ ¬ (x = 0 ∧ y = 0)
  · obtain ⟨hx, hy, h0⟩ := h
    by_cases hx0 : x = 0
    · have k1 : (x == 0) = true := by simpa using hx0
      have k2 : (y == 0) = false := by simp; omega
      by_cases ly : y < 0
      · exact turns_a1 x y hx hy k1 k2 ly w ht
      · exact turns_b1 x y hx hy k1 k2 (by omega) (by omega) w ht
    · have k1 : (x == 0) = false := by simpa using hx0
      by_cases ly : y < 0
      · exact turns_a0 x y hx hy k1 ly w ht
      · by_cases lxy : x < y
        · exact turns_b0 x y hx hy k1 (by omega) lxy w ht
        · by_cases ln : 0 < phI x y
          · by_cases lm : phI x y < 512
            · exact turns_c x y hx hy k1 (by omega) (by omega) (by omega) ln lm w ht
            · exact turns_d x y hx hy k1 (by omega) (by omega) (by omega) ln lm w ht
          · exact turns_e x y hx hy k1 (by omega) (by omega) (by omega) ln (by omega) w ht
  · exact turns_out x y h w ht
end Go.Proofs.YtdpoemhpmdahjaaDoor
