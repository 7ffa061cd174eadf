/- Contracts: the reference's phase of any complex number; the law on phases. -/
import Derived.Test.YtdpoemhpmdahjaaDoorRph
import Derived.Test.YtdpoemhpmdahjaaDoorLtu
namespace Go.Proofs.YtdpoemhpmdahjaaDoor
open Go.RowKit
set_option maxHeartbeats 400000
set_option maxRecDepth 100000

theorem rp1 (x y : Int) (hyx : y ≤ x) (hx1 : x ≤ 100000000000) (hy0 : 0 ≤ y) (w : World) :
    Calls Tryd.prog 68 #[.int .i64 x, .int .i64 y] w fun e w' => e = .returned (.int .i64 (ph1 x y)) ∧ Below w.heap.size w w' := by
  have r := ph1_range x y
  have hf : wrapI (ph1 x y) = ph1 x y := by unfold wrapI; omega
  have HF := Lib.hid hf
  obtain ⟨p, hp⟩ : ∃ p, p = ph1 x y := ⟨_, rfl⟩
  have HP := Lib.hid hp
  rw [← hp] at r
  clear hf hp
  go_enter Tryd.func68, Tryd.ntmps68
  go_wp2_with fail
  refine (first_any x y hy0 hyx hx1 _).mono ?_
  rw [← HP.out]
  rintro e w1 ⟨rfl, hb1⟩
  go_wp2_with fail
  refine (wrap_any p (by omega) (by omega) _).mono ?_
  rintro e w' ⟨rfl, rfl⟩
  go_wp2_with fail
  go_ret
  exact ⟨congrArg (fun n => Ending.returned (.int .i64 n)) (by rw [HP.out, HF.out]), hb1⟩

theorem rp2 (x y : Int) (hx0 : 0 ≤ x) (hx1 : x ≤ 100000000000) (hy0 : 0 ≤ y) (hy1 : y ≤ 100000000000) (w : World) :
    Calls Tryd.prog 68 #[.int .i64 x, .int .i64 y] w fun e w' => e = .returned (.int .i64 (ph2 x y)) ∧ Below w.heap.size w w' := by
  by_cases h : x < y
  · have r := ph1_range y x
    have hf : wrapI (1024 - ph1 y x) = ph2 x y := by unfold ph2 wrapI; rw [if_pos h]; omega
    have HF := Lib.hid hf
    obtain ⟨p, hp⟩ : ∃ p, p = ph1 y x := ⟨_, rfl⟩
    have HP := Lib.hid hp
    rw [← hp] at r
    clear hf hp
    go_enter Tryd.func68, Tryd.ntmps68
    go_wp2_with fail
    refine (rp1 y x (by omega) hy1 hx0 _).mono ?_
    rw [← HP.out]
    rintro e w1 ⟨rfl, hb1⟩
    go_wp2_with fail
    refine (wrap_any (1024 - p) (by omega) (by omega) _).mono ?_
    rintro e w' ⟨rfl, rfl⟩
    go_wp2_with fail
    go_ret
    exact ⟨congrArg (fun n => Ending.returned (.int .i64 n)) (by rw [HP.out, HF.out]), hb1⟩
  · have e : ph2 x y = ph1 x y := by unfold ph2; rw [if_neg h]
    rw [e]
    exact rp1 x y (by omega) hx1 hy0 w

theorem rp3 (x y : Int) (hx0 : -100000000000 ≤ x) (hx1 : x ≤ 100000000000) (hy0 : 0 ≤ y) (hy1 : y ≤ 100000000000) (w : World) :
    Calls Tryd.prog 68 #[.int .i64 x, .int .i64 y] w fun e w' => e = .returned (.int .i64 (wrapI (ph3 x y))) ∧ Below w.heap.size w w' := by
  by_cases h : x < 0
  · have r := ph2_range (-x) y
    have hf : wrapI (2048 - ph2 (-x) y) = wrapI (ph3 x y) := by unfold ph3; rw [if_pos h]
    have HF := Lib.hid hf
    obtain ⟨p, hp⟩ : ∃ p, p = ph2 (-x) y := ⟨_, rfl⟩
    have HP := Lib.hid hp
    rw [← hp] at r
    clear hf hp
    go_enter Tryd.func68, Tryd.ntmps68
    go_wp2_with fail
    refine (rp2 (-x) y (by omega) (by omega) hy0 hy1 _).mono ?_
    rw [← HP.out]
    rintro e w1 ⟨rfl, hb1⟩
    go_wp2_with fail
    refine (wrap_any (2048 - p) (by omega) (by omega) _).mono ?_
    rintro e w' ⟨rfl, rfl⟩
    go_wp2_with fail
    go_ret
    exact ⟨congrArg (fun n => Ending.returned (.int .i64 n)) (by rw [HP.out, HF.out]), hb1⟩
  · have r := ph2_range x y
    have e : wrapI (ph3 x y) = ph2 x y := by unfold ph3 wrapI; rw [if_neg h]; omega
    rw [e]
    exact rp2 x y (by omega) hx1 hy0 hy1 w

theorem rp4 (x y : Int) (hx0 : -100000000000 ≤ x) (hx1 : x ≤ 100000000000) (hy0 : -100000000000 ≤ y) (hy1 : y ≤ 100000000000) (w : World) :
    Calls Tryd.prog 68 #[.int .i64 x, .int .i64 y] w fun e w' => e = .returned (.int .i64 (phI x y)) ∧ Below w.heap.size w w' := by
  by_cases h : y < 0
  · have r := ph3_range x (-y)
    have hf : wrapI (-(wrapI (ph3 x (-y)))) = phI x y := by
      unfold phI ph4
      rw [if_pos h, if_neg (by omega)]
      unfold wrapI
      omega
    have r2 : -2048 ≤ wrapI (ph3 x (-y)) ∧ wrapI (ph3 x (-y)) ≤ 2047 := by unfold wrapI; omega
    have HF := Lib.hid hf
    obtain ⟨p, hp⟩ : ∃ p, p = wrapI (ph3 x (-y)) := ⟨_, rfl⟩
    have HP := Lib.hid hp
    rw [← hp] at r2
    clear hf hp r
    go_enter Tryd.func68, Tryd.ntmps68
    go_wp2_with fail
    refine (rp3 x (-y) (by omega) (by omega) (by omega) (by omega) _).mono ?_
    rw [← HP.out]
    rintro e w1 ⟨rfl, hb1⟩
    go_wp2_with fail
    refine (wrap_any (-p) (by omega) (by omega) _).mono ?_
    rintro e w' ⟨rfl, rfl⟩
    go_wp2_with fail
    go_ret
    exact ⟨congrArg (fun n => Ending.returned (.int .i64 n)) (by rw [HP.out, HF.out]), hb1⟩
  · have r := ph3_range x y
    have e : phI x y = wrapI (ph3 x y) := by
      unfold phI ph4
      rw [if_neg h]
      unfold wrapI
      split <;> omega
    rw [e]
    exact rp3 x y hx0 hx1 (by omega) hy1 w

theorem baseParts_ok (a b : Nat) (x y : Int) (ha : Is .f64 a x) (hb : Is .f64 b y) (hx : x.natAbs ≤ 1000000000000) (hy : y.natAbs ≤ 1000000000000) (w : World) :
    Calls Tryd.prog 86 #[.complex .f64 a b] w fun e w' => e = .returned (.tuple #[.int .i64 x, .int .i64 y]) ∧ w = w' := by
  have h1 := toInt64_is ha (by omega) (by omega)
  have h2 := toInt64_is hb (by omega) (by omega)
  have c1 : ∀ w, (convert 86 3 (.float .f64 a)).run Tryd.prog w = .ok (.int .i64 x) w := fun w => run_convert_float_int w _ _ _ _ _ _ (by kernel_rfl) Tryd.underlying3 h1
  have c2 : ∀ w, (convert 86 3 (.float .f64 b)).run Tryd.prog w = .ok (.int .i64 y) w := fun w => run_convert_float_int w _ _ _ _ _ _ (by kernel_rfl) Tryd.underlying3 h2
  clear ha hb hx hy h1 h2
  go_enter Tryd.func86, Tryd.ntmps86
  go_wp2
  go_ret2
  exact ⟨rfl, rfl⟩

theorem partErr_odd (a b : Nat) (L : Int) (h : Odd a b) (w : World) :
    Calls Tryd.prog 85 #[.float .f64 a, .float .f64 b, .int .i64 L] w fun e w' => e = .returned (.int .i64 29) ∧ ∃ k, w' = w.drewN k := by
  rcases h with h | ⟨h, h2⟩
  · have H := Lib.hid h
    clear h
    go_enter Tryd.func85, Tryd.ntmps85
    go_wp2_with fail
    refine (baseWhole_no a H.out _).mono ?_
    rintro e w' ⟨rfl, k, rfl⟩
    go_wp2_with fail
    go_ret
    exact ⟨rfl, k, rfl⟩
  · have H := Lib.hid h
    have H2 := Lib.hid h2
    clear h h2
    go_enter Tryd.func85, Tryd.ntmps85
    go_wp2_with fail
    refine (baseWhole_yes a H.out _).mono ?_
    rintro e w' ⟨rfl, k, rfl⟩
    go_wp2_with fail
    refine (baseWhole_no b H2.out _).mono ?_
    rintro e w' ⟨rfl, k2, rfl⟩
    go_wp2_with fail
    go_ret
    exact ⟨rfl, k + k2, by simp⟩

theorem partErr_far (a b : Nat) (L : Int) (h : Far a b L) (hL : L.natAbs < 9007199254740992) (w : World) :
    Calls Tryd.prog 85 #[.float .f64 a, .float .f64 b, .int .i64 L] w fun e w' => e = .returned (.int .i64 2) ∧ ∃ k, w' = w.drewN k := by
  have hl : Is .f64 (floatOfInt .f64 L) L := is_F .f64 L (by rw [two53]; exact hL)
  have hk := neg_is hl
  have hneg : ∀ w, (Op.unary .neg (.float .f64 (floatOfInt .f64 L))).run Tryd.prog w = .ok (.float .f64 (Op.negFloat .f64 (floatOfInt .f64 L))) w := fun _ => rfl
  obtain ⟨ya, yb, h⟩ := h
  have YA := Lib.hid ya
  have YB := Lib.hid yb
  clear ya yb
  rcases h with h | ⟨h, x, hx⟩
  · rcases over_ref h hl hk hL with e1 | ⟨e1, e2⟩
    · clear h hl hk hL
      go_enter Tryd.func85, Tryd.ntmps85
      go_wp2_with fail
      refine (baseWhole_yes a YA.out _).mono ?_
      rintro e w' ⟨rfl, k, rfl⟩
      go_wp2_with fail
      refine (baseWhole_yes b YB.out _).mono ?_
      rintro e w' ⟨rfl, k2, rfl⟩
      go_wp2_with fail
      go_ret
      exact ⟨rfl, k + k2, by simp⟩
    · clear h hl hk hL
      go_enter Tryd.func85, Tryd.ntmps85
      go_wp2_with fail
      refine (baseWhole_yes a YA.out _).mono ?_
      rintro e w' ⟨rfl, k, rfl⟩
      go_wp2_with fail
      refine (baseWhole_yes b YB.out _).mono ?_
      rintro e w' ⟨rfl, k2, rfl⟩
      go_wp2_with fail
      go_ret
      exact ⟨rfl, k + k2, by simp⟩
  · obtain ⟨f1, f2⟩ := inn_ref hx hl hk
    rcases over_ref h hl hk hL with e1 | ⟨e1, e2⟩
    · clear h hl hk hL hx
      go_enter Tryd.func85, Tryd.ntmps85
      go_wp2_with fail
      refine (baseWhole_yes a YA.out _).mono ?_
      rintro e w' ⟨rfl, k, rfl⟩
      go_wp2_with fail
      refine (baseWhole_yes b YB.out _).mono ?_
      rintro e w' ⟨rfl, k2, rfl⟩
      go_wp2_with fail
      go_ret
      exact ⟨rfl, k + k2, by simp⟩
    · clear h hl hk hL hx
      go_enter Tryd.func85, Tryd.ntmps85
      go_wp2_with fail
      refine (baseWhole_yes a YA.out _).mono ?_
      rintro e w' ⟨rfl, k, rfl⟩
      go_wp2_with fail
      refine (baseWhole_yes b YB.out _).mono ?_
      rintro e w' ⟨rfl, k2, rfl⟩
      go_wp2_with fail
      go_ret
      exact ⟨rfl, k + k2, by simp⟩

theorem partErr_in (a b : Nat) (x y L : Int) (hx : Inn a x L) (hy : Inn b y L) (hL : L ≤ 1000000000000) (w : World) :
    Calls Tryd.prog 85 #[.float .f64 a, .float .f64 b, .int .i64 L] w fun e w' => e = .returned (.int .i64 0) ∧ ∃ k, w' = w.drewN k := by
  have hL2 : 0 ≤ L := by have := hx.2; omega
  have hl : Is .f64 (floatOfInt .f64 L) L := is_F .f64 L (by rw [two53]; omega)
  have hk := neg_is hl
  have hneg : ∀ w, (Op.unary .neg (.float .f64 (floatOfInt .f64 L))).run Tryd.prog w = .ok (.float .f64 (Op.negFloat .f64 (floatOfInt .f64 L))) w := fun _ => rfl
  have YA := Lib.hid (hx.yes hL)
  have YB := Lib.hid (hy.yes hL)
  obtain ⟨e1, e2⟩ := inn_ref hx hl hk
  obtain ⟨f1, f2⟩ := inn_ref hy hl hk
  clear hx hy hl hk hL
  go_enter Tryd.func85, Tryd.ntmps85
  go_wp2_with fail
  refine (baseWhole_yes a YA.out _).mono ?_
  rintro e w' ⟨rfl, k, rfl⟩
  go_wp2_with fail
  refine (baseWhole_yes b YB.out _).mono ?_
  rintro e w' ⟨rfl, k2, rfl⟩
  go_wp2_with fail
  go_ret
  exact ⟨rfl, k + k2, by simp⟩

/-! ### PhaseOf, both -/
theorem phaseOf_odd (a b : Nat) (ha : a < 18446744073709551616) (hb : b < 18446744073709551616) (h : Odd a b) (w : World) :
    Calls Tryd.prog 55 #[.complex .f64 a b] w fun e w' => e = .returned (.tuple #[.int .i64 0, .int .i64 29]) ∧ Below w.heap.size w w' := by
  have HA := Lib.hid ha
  have HB := Lib.hid hb
  have H := Lib.hid h
  clear ha hb h
  go_enter Tryd.func55, Tryd.ntmps55
  go_wp2_with fail
  refine (checkParts_odd a b _ HA.out HB.out H.out _).mono ?_
  rintro e w1 ⟨rfl, k, rfl⟩
  go_wp2_with fail
  go_ret2
  exact ⟨rfl, below_drewNs (Below.refl _ _)⟩
theorem phaseOf_far (a b : Nat) (ha : a < 18446744073709551616) (hb : b < 18446744073709551616) (h : Far a b 100000000000) (w : World) :
    Calls Tryd.prog 55 #[.complex .f64 a b] w fun e w' => e = .returned (.tuple #[.int .i64 0, .int .i64 2]) ∧ Below w.heap.size w w' := by
  have HA := Lib.hid ha
  have HB := Lib.hid hb
  have H := Lib.hid h
  clear ha hb h
  go_enter Tryd.func55, Tryd.ntmps55
  go_wp2_with fail
  refine (checkParts_far a b _ 100000000000 HA.out HB.out H.out lim11 (by decide) _).mono ?_
  rintro e w1 ⟨rfl, k, rfl⟩
  go_wp2_with fail
  go_ret2
  exact ⟨rfl, below_drewNs (Below.refl _ _)⟩
theorem phaseOf_void (a b : Nat) (ha : Is .f64 a 0) (hb : Is .f64 b 0) (w : World) :
    Calls Tryd.prog 55 #[.complex .f64 a b] w fun e w' => e = .returned (.tuple #[.int .i64 0, .int .i64 31]) ∧ Below w.heap.size w w' := by
  have hz : ((FloatKind.f64.format.order a 0 == some .eq) && (FloatKind.f64.format.order b 0 == some .eq)) = true := by
    rw [cmp_zero ha, cmp_zero hb]; rfl
  have HA := Lib.hid ha
  have HB := Lib.hid hb
  clear ha hb
  go_enter Tryd.func55, Tryd.ntmps55
  go_wp2_with fail
  refine (checkParts_ok a b _ 0 0 100000000000 HA.out HB.out lim11 (by decide) (by decide) (by omega) _).mono ?_
  rintro e w1 ⟨rfl, rfl⟩
  go_wp2_with fail
  go_ret2
  exact ⟨rfl, Below.refl _ _⟩

theorem refOf_odd (a b : Nat) (h : Odd a b) (w : World) :
    Calls Tryd.prog 56 #[.complex .f64 a b] w fun e w' => e = .returned (.tuple #[.int .i64 0, .int .i64 29]) ∧ Below w.heap.size w w' := by
  have H := Lib.hid h
  clear h
  go_enter Tryd.func56, Tryd.ntmps56
  go_wp2_with fail
  refine (partErr_odd a b 100000000000 H.out _).mono ?_
  rintro e w1 ⟨rfl, k, rfl⟩
  go_wp2_with fail
  go_ret2
  exact ⟨rfl, below_drewNs (Below.refl _ _)⟩
theorem refOf_far (a b : Nat) (h : Far a b 100000000000) (w : World) :
    Calls Tryd.prog 56 #[.complex .f64 a b] w fun e w' => e = .returned (.tuple #[.int .i64 0, .int .i64 2]) ∧ Below w.heap.size w w' := by
  have H := Lib.hid h
  clear h
  go_enter Tryd.func56, Tryd.ntmps56
  go_wp2_with fail
  refine (partErr_far a b 100000000000 H.out (by decide) _).mono ?_
  rintro e w1 ⟨rfl, k, rfl⟩
  go_wp2_with fail
  go_ret2
  exact ⟨rfl, below_drewNs (Below.refl _ _)⟩
theorem refOf_void (a b : Nat) (ha : Is .f64 a 0) (hb : Is .f64 b 0) (w : World) :
    Calls Tryd.prog 56 #[.complex .f64 a b] w fun e w' => e = .returned (.tuple #[.int .i64 0, .int .i64 31]) ∧ Below w.heap.size w w' := by
  have HA := Lib.hid ha
  have HB := Lib.hid hb
  clear ha hb
  go_enter Tryd.func56, Tryd.ntmps56
  go_wp2_with fail
  refine (partErr_in a b 0 0 100000000000 ⟨HA.out, by decide⟩ ⟨HB.out, by decide⟩ (by decide) _).mono ?_
  rintro e w1 ⟨rfl, k, rfl⟩
  go_wp2_with fail
  refine (baseParts_ok a b 0 0 HA.out HB.out (by decide) (by decide) _).mono ?_
  rintro e w1 ⟨rfl, rfl⟩
  go_wp2_with fail
  go_ret2
  exact ⟨rfl, below_drewNs (Below.refl _ _)⟩
theorem refOf_ok (a b : Nat) (x y : Int) (ha : Inn a x 100000000000) (hb : Inn b y 100000000000) (h0 : ¬ (x = 0 ∧ y = 0)) (w : World) :
    Calls Tryd.prog 56 #[.complex .f64 a b] w fun e w' => e = .returned (.tuple #[.int .i64 (phI x y), .int .i64 0]) ∧ Below w.heap.size w w' := by
  have hx := ha.2
  have hy := hb.2
  have HA := Lib.hid ha
  have HB := Lib.hid hb
  clear ha hb
  have hz : (x == 0) = true ∧ (y == 0) = false ∨ (x == 0) = false := by
    by_cases h : x = 0
    · left; exact ⟨by simpa using h, by simp; omega⟩
    · right; simpa using h
  obtain ⟨n, hn⟩ : ∃ n, n = phI x y := ⟨_, rfl⟩
  have HN := Lib.hid hn
  rw [← hn]
  clear h0 hn
  rcases hz with ⟨z1, z2⟩ | z1
  · go_enter Tryd.func56, Tryd.ntmps56
    go_wp2_with fail
    refine (partErr_in a b x y 100000000000 HA.out HB.out (by decide) _).mono ?_
    rintro e w1 ⟨rfl, k, rfl⟩
    go_wp2_with fail
    refine (baseParts_ok a b x y HA.out.1 HB.out.1 (by omega) (by omega) _).mono ?_
    rintro e w1 ⟨rfl, rfl⟩
    go_wp2_with fail
    refine (rp4 x y (by omega) (by omega) (by omega) (by omega) _).mono ?_
    rw [← HN.out]
    rintro e w1 ⟨rfl, hb1⟩
    go_wp2_with fail
    go_ret2
    exact ⟨rfl, (below_drewNs (Below.refl _ _)).trans hb1⟩
  · go_enter Tryd.func56, Tryd.ntmps56
    go_wp2_with fail
    refine (partErr_in a b x y 100000000000 HA.out HB.out (by decide) _).mono ?_
    rintro e w1 ⟨rfl, k, rfl⟩
    go_wp2_with fail
    refine (baseParts_ok a b x y HA.out.1 HB.out.1 (by omega) (by omega) _).mono ?_
    rintro e w1 ⟨rfl, rfl⟩
    go_wp2_with fail
    refine (rp4 x y (by omega) (by omega) (by omega) (by omega) _).mono ?_
    rw [← HN.out]
    rintro e w1 ⟨rfl, hb1⟩
    go_wp2_with fail
    go_ret2
    exact ⟨rfl, (below_drewNs (Below.refl _ _)).trans hb1⟩

/-- both give the same, and a phase -/
theorem both (a b : Nat) (ha : a < 18446744073709551616) (hb : b < 18446744073709551616) : ∃ n c : Int, -2048 ≤ n ∧ n ≤ 2047 ∧ 0 ≤ c ∧ c ≤ 100 ∧
    (∀ w, Calls Tryd.prog 55 #[.complex .f64 a b] w fun e w' => e = .returned (.tuple #[.int .i64 n, .int .i64 c]) ∧ Below w.heap.size w w') ∧
    (∀ w, Calls Tryd.prog 56 #[.complex .f64 a b] w fun e w' => e = .returned (.tuple #[.int .i64 n, .int .i64 c]) ∧ Below w.heap.size w w') := by
  rcases three ha hb 100000000000 with h | h | ⟨x, y, hx, hy⟩
  · exact ⟨0, 29, by decide, by decide, by decide, by decide, phaseOf_odd a b ha hb h, refOf_odd a b h⟩
  · exact ⟨0, 2, by decide, by decide, by decide, by decide, phaseOf_far a b ha hb h, refOf_far a b h⟩
  · by_cases h0 : x = 0 ∧ y = 0
    · obtain ⟨rfl, rfl⟩ := h0
      exact ⟨0, 31, by decide, by decide, by decide, by decide, phaseOf_void a b hx.1 hy.1, refOf_void a b hx.1 hy.1⟩
    · have r := phI_range x y
      have h1 := hx.2
      have h2 := hy.2
      exact ⟨phI x y, 0, r.1, r.2, by decide, by decide, phaseOf_ok a b x y hx.1 hy.1 (by omega) (by omega) h0, refOf_ok a b x y hx hy h0⟩

theorem phases_all (a b : Nat) (ha : a < 18446744073709551616) (hb : b < 18446744073709551616) (w : World) (ht : Tab w) :
    Calls Tryd.prog 10 #[.float .f64 a, .float .f64 b] w fun e w' => e = .returned (.bool true) ∧ Below w.heap.size w w' := by
  obtain ⟨n, c, n0, n1, c0, c1, h1, h2⟩ := both a b ha hb
  have HT := Lib.hid ht
  have H1 := Lib.hid h1
  have H2 := Lib.hid h2
  have i1 := inB_t (n := n) (lo := -2048) (hi := 2047) ⟨n0, n1⟩
  have e1 : (n == n) = true := by simp
  have e2 : (c == c) = true := by simp
  clear ha hb h1 h2 ht
  go_enter Tryd.func10, Tryd.ntmps10
  go_wp2_with fail
  refine (awake_ok w HT.out).mono ?_
  rintro e w1 ⟨rfl, hb1⟩
  go_wp2_with fail
  refine (H1.out _).mono ?_
  rintro e w2 ⟨rfl, hb2⟩
  have hw2 := hb1.trans (hb2.mono hb1.size)
  go_wp2_with fail
  refine (H2.out _).mono ?_
  rintro e w3 ⟨rfl, hb3⟩
  have hw3 := hw2.trans (hb3.mono hw2.size)
  go_wp2_with (go_at_call 32; refine (baseWithin_any _ _ _ _).mono ?_; rintro e w' ⟨rfl, rfl⟩)
  go_ret
  exact ⟨rfl, hw3⟩
end Go.Proofs.YtdpoemhpmdahjaaDoor
