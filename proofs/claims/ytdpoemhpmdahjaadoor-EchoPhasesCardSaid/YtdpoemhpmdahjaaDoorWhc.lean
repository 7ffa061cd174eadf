/- Contracts: the reference's question whether a float64 is whole. -/
import Derived.Test.YtdpoemhpmdahjaaDoorWhb
namespace Go.Proofs.YtdpoemhpmdahjaaDoor
open Go.RowKit Ieee
set_option maxHeartbeats 400000
set_option maxRecDepth 100000

theorem read_mag {b : Nat} {s : Bool} {m : Nat} {p : Int} (h : FloatKind.f64.format.read b = .number s m p) : m < 9007199254740992 := by
  unfold Format.read at h
  simp only [leastP, binade64, inf64, sign64] at h
  split at h
  · injection h with _ h2 _
    omega
  · split at h
    · injection h with _ h2 _
      omega
    · split at h <;> cases h

theorem baseWhole_low (b : Nat) (n : Int) (v : Bool) (s : Bool) (m t : Nat) (hb : FloatKind.f64.format.read b = .number s m (-(t : Int))) (hm : m < 9007199254740992)
    (hi : floatToIntVal .f64 b .i64 = some n) (hv : (FloatKind.f64.format.order (Go.Proofs.YtdpoemhpmdahjaaDoor.F .f64 n) b == some .eq) = v) (w : World) :
    Calls Tryd.prog 120 #[.float .f64 b] w fun e w' => e = .returned (.bool v) ∧ ∃ k, w' = w.drewN k := by
  have h1 : (FloatKind.f64.format.order b b != some .eq) = false := by
    rw [order_same rfl (by rintro ⟨s', t', h'⟩; rw [hb] at h'; cases h')]; rfl
  have h2 := fun w => run_float_arith (P := Tryd.prog) w .sub 86 .f64 b b 0 (sub_self hb)
  have h3 : (FloatKind.f64.format.order 0 0 != some .eq) = false := by decide
  obtain ⟨l1, l2⟩ := low_e16 hb hm
  have h4 : (FloatKind.f64.format.order b 14069741636278059008 == some .gt || FloatKind.f64.format.order b 14069741636278059008 == some .eq) = true := by rw [l2]; rfl
  have h5 : (FloatKind.f64.format.order b 4846369599423283200 == some .lt || FloatKind.f64.format.order b 4846369599423283200 == some .eq) = true := by rw [l1]; rfl
  have hc : ∀ w, (convert 86 3 (.float .f64 b)).run Tryd.prog w = .ok (.int .i64 n) w := fun w => run_convert_float_int w _ _ _ _ _ _ (by kernel_rfl) Tryd.underlying3 hi
  have HV := Lib.hid hv
  clear hb hm hi l1 l2 hv
  go_enter Tryd.func120, Tryd.ntmps120
  go_wp2
  go_ret
  exact ⟨congrArg (fun v => Ending.returned (.bool v)) HV.out, 0, rfl⟩

theorem baseWhole_nan (b : Nat) (h : Nan b) (w : World) :
    Calls Tryd.prog 120 #[.float .f64 b] w fun e w' => e = .returned (.bool false) ∧ ∃ k, w' = w.drewN k := by
  have h1 : (FloatKind.f64.format.order b b != some .eq) = true := by rw [order_nan h]; rfl
  clear h
  go_enter Tryd.func120, Tryd.ntmps120
  go_wp2
  go_ret
  exact ⟨rfl, 0, rfl⟩

theorem baseWhole_inf (b : Nat) (h : Inf b) (w : World) :
    Calls Tryd.prog 120 #[.float .f64 b] w fun e w' => e = .returned (.bool false) ∧ ∃ k, w' = w.drewN k := by
  obtain ⟨r, hr, hs⟩ := sub_inf h w
  have h1 : (FloatKind.f64.format.order b b != some .eq) = false := by
    rw [order_same rfl (by rintro ⟨s', t', h'⟩; obtain ⟨s, h⟩ := h; rw [h] at h'; cases h')]; rfl
  have h2 : (FloatKind.f64.format.order r 0 != some .eq) = true := by rw [order_nan hr]; rfl
  clear h hr
  go_enter Tryd.func120, Tryd.ntmps120
  go_wp2
  go_ret
  exact ⟨rfl, 1, rfl⟩

theorem cmp_le {x y : Int} (h : (some (compare x y) == some Ordering.lt || some (compare x y) == some Ordering.eq) = true) : x ≤ y := by
  simp only [compare, compareOfLessAndEq] at h
  split at h
  · omega
  · split at h
    · omega
    · simp at h
theorem cmp_ge {x y : Int} (h : (some (compare x y) == some Ordering.gt || some (compare x y) == some Ordering.eq) = true) : y ≤ x := by
  simp only [compare, compareOfLessAndEq] at h
  split at h
  · simp at h
  · split at h
    · omega
    · omega

theorem baseWhole_big (b : Nat) (h : Big b) (w : World) :
    Calls Tryd.prog 120 #[.float .f64 b] w fun e w' => e = .returned (.bool true) ∧ ∃ k, w' = w.drewN k := by
  have hn := big_not h
  obtain ⟨s, m, p, h, p1, p2, m1, m2⟩ := h
  have h1 : (FloatKind.f64.format.order b b != some .eq) = false := by rw [order_same rfl hn]; rfl
  have h2 := fun w => run_float_arith (P := Tryd.prog) w .sub 86 .f64 b b 0 (sub_self h)
  have h3 : (FloatKind.f64.format.order 0 0 != some .eq) = false := by decide
  by_cases h4 : (FloatKind.f64.format.order b 14069741636278059008 == some .gt || FloatKind.f64.format.order b 14069741636278059008 == some .eq) = true
  · by_cases h5 : (FloatKind.f64.format.order b 4846369599423283200 == some .lt || FloatKind.f64.format.order b 4846369599423283200 == some .eq) = true
    · have e0 : ((1 : Int) - min (p : Int) 1).toNat = 0 := by omega
      have e1 : ((p : Int) - min (p : Int) 1).toNat = p - 1 := by omega
      have g1 : signed s m (p - 1) ≤ 5000000000000000 := by
        have h6 := h5
        unfold Format.order at h6
        rw [h, e16_read] at h6
        simp only [Datum.order, e0, e1] at h6
        exact cmp_le h6
      have g2 : -5000000000000000 ≤ signed s m (p - 1) := by
        have h6 := h4
        unfold Format.order at h6
        rw [h, m16_read] at h6
        simp only [Datum.order, e0, e1] at h6
        exact cmp_ge h6
      have ha := signed_abs s m (p - 1)
      have hp : m * 2 ^ p = 2 * (m * 2 ^ (p - 1)) := by
        rw [show p = (p - 1) + 1 from by omega, Nat.pow_succ, Nat.add_sub_cancel, ← Nat.mul_assoc, Nat.mul_comm]
      have hle : m * 2 ^ p ≤ 10000000000000000 := by omega
      obtain ⟨n, hnn⟩ : ∃ n : Int, n = signed s (m <<< p) 0 := ⟨_, rfl⟩
      have hna : n.natAbs = m <<< p := by rw [hnn, signed_abs, Nat.pow_zero, Nat.mul_one]
      have hns : (decide (n < 0)) = s := by
        have hpos : 0 < m <<< p := by rw [Nat.shiftLeft_eq]; exact Nat.mul_pos (by omega) (Nat.two_pow_pos p)
        rw [hnn]
        unfold signed
        rw [Nat.shiftLeft_zero]
        cases s
        · exact decide_eq_false (by show ¬ (((m <<< p : Nat) : Int) < 0); omega)
        · show decide (-((m <<< p : Nat) : Int) < 0) = true
          simp only [decide_eq_true_eq]
          omega
      have hb2 : n.natAbs ≤ 10000000000000000 := by rw [hna, Nat.shiftLeft_eq]; exact hle
      have hi : floatToIntVal .f64 b .i64 = some n := by
        unfold floatToIntVal
        have hd : FloatKind.f64.decode b = .number s m (p : Int) := h
        have ht : (Datum.number s m (p : Int)).toInt .zero = some n := by
          unfold Datum.toInt Datum.integral
          show some (signed s (Toward.zero.cut s (m <<< ((p : Int)).toNat) (-(p : Int)).toNat) 0) = some n
          rw [show (-(p : Int)).toNat = 0 from by omega, cut_whole, Int.toNat_natCast, hnn]
        rw [hd, ht]
        have e1 : IntKind.i64.min = -9223372036854775808 := by decide
        have e2 : IntKind.i64.max = 9223372036854775807 := by decide
        simp only [e1, e2]
        rw [if_pos (by omega)]
      have hf : FloatKind.f64.format.read (Go.Proofs.YtdpoemhpmdahjaaDoor.F .f64 n) = .number s m (p : Int) := by
        show FloatKind.f64.format.read (FloatKind.f64.format.nearest (decide (n < 0)) n.natAbs 0) = _
        rw [hns, hna]
        exact big_read p2 m1 m2
      have h6 : (FloatKind.f64.format.order (Go.Proofs.YtdpoemhpmdahjaaDoor.F .f64 n) b == some .eq) = true := by
        rw [order_same (by rw [hf, h]) (by rintro ⟨s', t', h'⟩; rw [hf] at h'; cases h')]; rfl
      have hc : ∀ w, (convert 86 3 (.float .f64 b)).run Tryd.prog w = .ok (.int .i64 n) w := fun w => run_convert_float_int w _ _ _ _ _ _ (by kernel_rfl) Tryd.underlying3 hi
      clear hn h p1 p2 m1 m2 g1 g2 ha hp hle hnn hna hns hb2 hi hf e0 e1
      go_enter Tryd.func120, Tryd.ntmps120
      go_wp2
      go_ret
      exact ⟨congrArg (fun v => Ending.returned (.bool v)) h6, 0, rfl⟩
    · have h6 : (FloatKind.f64.format.order b 4846369599423283200 == some .lt || FloatKind.f64.format.order b 4846369599423283200 == some .eq) = false := by simpa using h5
      clear hn h p1 p2 m1 m2 h5
      go_enter Tryd.func120, Tryd.ntmps120
      go_wp2
      go_ret
      exact ⟨rfl, 0, rfl⟩
  · have h6 : (FloatKind.f64.format.order b 14069741636278059008 == some .gt || FloatKind.f64.format.order b 14069741636278059008 == some .eq) = false := by simpa using h4
    clear hn h p1 p2 m1 m2 h4
    go_enter Tryd.func120, Tryd.ntmps120
    go_wp2
    go_ret
    exact ⟨rfl, 0, rfl⟩

theorem baseWhole_yes (b : Nat) (h : Yes b) (w : World) :
    Calls Tryd.prog 120 #[.float .f64 b] w fun e w' => e = .returned (.bool true) ∧ ∃ k, w' = w.drewN k := by
  rcases h with h | ⟨n, h, hn⟩
  · exact baseWhole_big b h w
  · obtain ⟨s, m, t, hr, _⟩ := is_low h
    refine baseWhole_low b n true s m t hr (read_mag hr) (toInt64_is h (by omega) (by omega)) ?_ w
    rw [order_is (is_F .f64 n (by rw [two53]; exact hn)) h]
    simp [compare, compareOfLessAndEq]

theorem baseWhole_no (b : Nat) (h : No b) (w : World) :
    Calls Tryd.prog 120 #[.float .f64 b] w fun e w' => e = .returned (.bool false) ∧ ∃ k, w' = w.drewN k := by
  rcases h with h | h | h
  · exact baseWhole_nan b h w
  · exact baseWhole_inf b h w
  · have h0 := h
    obtain ⟨s, m, t, h, hm, _⟩ := h
    obtain ⟨d, hd2⟩ : ∃ d, d = m / 2 ^ t := ⟨_, rfl⟩
    have hq : d ≤ m := by rw [hd2]; exact Nat.div_le_self _ _
    obtain ⟨n, hn⟩ : ∃ n, n = signed s d 0 := ⟨_, rfl⟩
    have ha : n.natAbs = d := by rw [hn, signed_abs]; omega
    have hi : floatToIntVal .f64 b .i64 = some n := by
      unfold floatToIntVal
      have hd : FloatKind.f64.decode b = .number s m (-(t : Int)) := h
      have ht : (Datum.number s m (-(t : Int))).toInt .zero = some n := by
        unfold Datum.toInt Datum.integral
        show some (signed s (Toward.zero.cut s (m <<< (-(t : Int)).toNat) (-(-(t : Int))).toNat) 0) = some n
        rw [show (-(t : Int)).toNat = 0 from by omega, Nat.shiftLeft_zero, cut_frac, show (-(-(t : Int))).toNat = t from by omega, ← hd2, hn]
      rw [hd, ht]
      have e1 : IntKind.i64.min = -9223372036854775808 := by decide
      have e2 : IntKind.i64.max = 9223372036854775807 := by decide
      simp only [e1, e2]
      rw [if_pos (by omega)]
    exact baseWhole_low b n false s m t h hm hi (frac_ne h0 (is_F .f64 n (by rw [ha, two53]; omega))).2 w
end Go.Proofs.YtdpoemhpmdahjaaDoor
