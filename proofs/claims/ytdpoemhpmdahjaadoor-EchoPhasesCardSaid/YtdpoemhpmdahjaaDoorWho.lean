/- Whether any float64 is whole: the code's way. -/
import Derived.Test.YtdpoemhpmdahjaaDoorCla
import Derived.Test.YtdpoemhpmdahjaaDoorMid
namespace Go.Proofs.YtdpoemhpmdahjaaDoor
open Go.RowKit Ieee
set_option maxHeartbeats 400000
set_option maxRecDepth 100000

theorem cut_whole (way : Toward) (neg : Bool) (n : Nat) : way.cut neg n 0 = n := by
  unfold Toward.cut
  cases way <;> simp [Nat.mod_one]
theorem cut_frac (neg : Bool) (n d : Nat) : Toward.zero.cut neg n d = n / 2 ^ d := by
  unfold Toward.cut
  simp only [Bool.toNat_false, Nat.add_zero, Nat.one_shiftLeft]
  by_cases h : d ≤ n.log2 + 2
  · rw [Nat.min_eq_left h]
  · rw [Nat.min_eq_right (by omega)]
    have h1 : n < 2 ^ (n.log2 + 2) := Nat.lt_of_lt_of_le Nat.lt_log2_self (Nat.pow_le_pow_right (by decide) (by omega))
    have h2 : n < 2 ^ d := Nat.lt_of_lt_of_le h1 (Nat.pow_le_pow_right (by decide) (by omega))
    rw [Nat.div_eq_of_lt h1, Nat.div_eq_of_lt h2]

theorem log2_52 {m : Nat} (h1 : 4503599627370496 ≤ m) (h2 : m < 9007199254740992) : m.log2 = 52 := by
  have a : m.log2 < 53 := (Nat.log2_lt (by omega)).2 (by omega)
  have b : 52 ≤ m.log2 := (Nat.le_log2 (by omega)).2 (by omega)
  omega

theorem big_read {s : Bool} {m p : Nat} (hp : p ≤ 971) (h1 : 4503599627370496 ≤ m) (h2 : m < 9007199254740992) :
    FloatKind.f64.format.read (FloatKind.f64.format.nearest s (m <<< p) 0) = .number s m (p : Int) := by
  have hl := log2_52 h1 h2
  have fb : FloatKind.f64.format.fractionBits = 52 := rfl
  have h := nearest_norm FloatKind.f64.format s m p (p : Int) (by omega) (by rw [hl, fb]; exact Nat.le_refl _) (by rw [hl, fb, leastP]; omega)
  rw [Int.sub_self] at h
  rw [h, hl, fb, leastP, binade64, inf64]
  have e1 : ((p : Int) + ((52 : Nat) : Int) - ((52 : Nat) : Int) - -1074).toNat = p + 1074 := by omega
  rw [e1, Nat.sub_self, Nat.shiftLeft_zero, Nat.min_eq_left (by omega)]
  have hr := read_word FloatKind.f64.format s (p + 1074) m (by rw [binade64]; exact h1) (by rw [binade64]; omega) (by show _ ≤ 2 ^ 11 - 1; omega)
  rw [binade64, leastP] at hr
  rw [hr]
  congr 1
  omega

theorem big_not {b : Nat} (h : Big b) : ¬ Nan b := by
  obtain ⟨s, m, p, h, _⟩ := h
  rintro ⟨s', t', h'⟩
  rw [h] at h'
  cases h'

theorem signed_abs (s : Bool) (m a : Nat) : (signed s m a).natAbs = m * 2 ^ a := by
  unfold signed
  cases s
  · show ((m <<< a : Nat) : Int).natAbs = _
    rw [Int.natAbs_natCast, Nat.shiftLeft_eq]
  · show (-((m <<< a : Nat) : Int)).natAbs = _
    rw [Int.natAbs_neg, Int.natAbs_natCast, Nat.shiftLeft_eq]

theorem frac_ne {b r : Nat} {n : Int} (hb : Frac b) (hr : Is .f64 r n) : (FloatKind.f64.format.order b r == some .eq) = false ∧ (FloatKind.f64.format.order r b == some .eq) = false := by
  obtain ⟨s, m, t, h, _, hd⟩ := hb
  obtain ⟨s', t', h', _, _⟩ := hr
  have key : ∀ x y : Int, x.natAbs = m * 2 ^ (-(t : Int) - min (-(t : Int)) (-(t' : Int))).toNat → y.natAbs = n.natAbs * 2 ^ t' * 2 ^ (-(t' : Int) - min (-(t : Int)) (-(t' : Int))).toNat → x ≠ y := by
    intro x y hx hy e
    rw [e, hy] at hx
    apply hd
    by_cases hc : t' ≤ t
    · have e1 : (-(t : Int) - min (-(t : Int)) (-(t' : Int))).toNat = 0 := by omega
      have e2 : (-(t' : Int) - min (-(t : Int)) (-(t' : Int))).toNat = t - t' := by omega
      rw [e1, e2, Nat.mul_assoc, ← Nat.pow_add, show t' + (t - t') = t from by omega, Nat.pow_zero, Nat.mul_one] at hx
      exact ⟨n.natAbs, by rw [← hx, Nat.mul_comm]⟩
    · have e1 : (-(t : Int) - min (-(t : Int)) (-(t' : Int))).toNat = t' - t := by omega
      have e2 : (-(t' : Int) - min (-(t : Int)) (-(t' : Int))).toNat = 0 := by omega
      rw [e1, e2, Nat.pow_zero, Nat.mul_one] at hx
      have e3 : n.natAbs * 2 ^ t' = n.natAbs * 2 ^ t * 2 ^ (t' - t) := by rw [Nat.mul_assoc, ← Nat.pow_add, show t + (t' - t) = t' from by omega]
      rw [e3] at hx
      have := Nat.eq_of_mul_eq_mul_right (Nat.two_pow_pos (t' - t)) hx
      exact ⟨n.natAbs, by rw [← this, Nat.mul_comm]⟩
  have ce : ∀ x y : Int, x ≠ y → (some (compare x y) == some Ordering.eq) = false := by
    intro x y hxy
    simp [compare, compareOfLessAndEq, hxy]
    split <;> simp
  constructor
  · unfold Format.order
    rw [h, h']
    simp only [Datum.order]
    refine ce _ _ (key _ _ (signed_abs _ _ _) ?_)
    rw [signed_abs, Nat.shiftLeft_eq]
  · unfold Format.order
    rw [h, h']
    simp only [Datum.order, Int.min_comm (-(t' : Int)) (-(t : Int))]
    refine ce _ _ (fun e => key _ _ (signed_abs _ _ _) ?_ e.symm)
    rw [signed_abs, Nat.shiftLeft_eq]

/-! ### cut towards zero -/
theorem trunc_form {b : Nat} (h : ¬ Nan b) (w : World) :
    (callFunc 136 #[.float .f64 b]).run Tryd.prog w = .ok (.value (.float .f64 (FloatKind.f64.encode ((FloatKind.f64.decode b).integral .zero)))) w := by
  rw [run_callFunc_extern Tryd.func136 (by kernel_rfl) (by kernel_rfl) (by kernel_rfl) (e := Extern.MathFloor.toIntegral "math.archTrunc" .zero) (by kernel_rfl)]
  have e : (Extern.MathFloor.toIntegral "math.archTrunc" .zero #[.float .f64 b]).run Tryd.prog w = .ok (.float .f64 (FloatKind.f64.encode ((FloatKind.f64.decode b).integral .zero))) w := by
    obtain ⟨rest, hr⟩ := integral_form b
    rw [hr]
    cases hd : FloatKind.f64.decode b with
    | nan s t => exact absurd ⟨s, t, hd⟩ h
    | infinity s => rfl
    | number s m p => rfl
  rw [e]; rfl

theorem nan_form (b : Nat) : ∃ (q : Question) (f : Nat → Bool → Nat → Nat) (rest : Datum → Sem Value), q.forced = false ∧ Extern.MathFloor.toIntegral "math.archTrunc" .zero #[.float .f64 b] = (match FloatKind.f64.decode b with
      | .nan s t => if FloatKind.f64.format.quiet t = t then pure (Value.float .f64 b) else do
          let kept ← choose q
          pure (Value.float .f64 (f kept s t))
      | d => rest d) :=
  ⟨_, fun kept s t => if kept == 1 then b else FloatKind.f64.encode (.nan s (FloatKind.f64.format.quiet t)), fun d => pure (.float .f64 (FloatKind.f64.encode (d.integral .zero))), rfl, rfl⟩

theorem trunc_nan {b : Nat} (h : Nan b) (w : World) :
    ∃ r k, (callFunc 136 #[.float .f64 b]).run Tryd.prog w = .ok (.value (.float .f64 r)) (w.drewN k) := by
  obtain ⟨s, t, h⟩ := h
  rw [run_callFunc_extern Tryd.func136 (by kernel_rfl) (by kernel_rfl) (by kernel_rfl) (e := Extern.MathFloor.toIntegral "math.archTrunc" .zero) (by kernel_rfl)]
  have hd : FloatKind.f64.decode b = .nan s t := h
  have e : ∃ r k, (Extern.MathFloor.toIntegral "math.archTrunc" .zero #[.float .f64 b]).run Tryd.prog w = .ok (.float .f64 r) (w.drewN k) := by
    obtain ⟨q, f, rest, hq, hr⟩ := nan_form b
    rw [hr, hd]
    by_cases hqt : FloatKind.f64.format.quiet t = t
    · exact ⟨b, 0, by simp only [if_pos hqt]; rfl⟩
    · simp only [if_neg hqt, Sem.run_bind, run_choose, hq]
      exact ⟨_, 1, rfl⟩
  obtain ⟨r, k, e⟩ := e
  refine ⟨r, k, ?_⟩
  rw [e]; rfl

theorem read_abs (b : Nat) : FloatKind.f64.format.read (absB b) = match FloatKind.f64.format.read b with
    | .number _ m p => .number false m p
    | .infinity _ => .infinity false
    | .nan _ t => .nan false t := by
  unfold Format.read absB
  simp only [sign64, Nat.mod_mod]
  have e : (b % 9223372036854775808 / 9223372036854775808 % 2 == 1) = false := by
    rw [Nat.div_eq_of_lt (Nat.mod_lt _ (by decide))]; rfl
  rw [e]
  split
  · rfl
  · split
    · rfl
    · split <;> rfl

/-- infinite, or not, as the code asks it -/
theorem isInf_yes (b : Nat) (hb : b < 18446744073709551616) (h : Inf b) (w : World) :
    Calls Tryd.prog 132 #[.float .f64 b, .int .i64 0] w fun e w' => e = .returned (.bool true) ∧ w = w' := by
  have h1 : (FloatKind.f64.format.order (absB b) 9218868437227405311 == some .gt) = true := by
    obtain ⟨s, h⟩ := h
    unfold Format.order
    rw [read_abs, h, max_read]
    rfl
  have HB := Lib.hid hb
  clear h hb
  go_enter Tryd.func132, Tryd.ntmps132
  go_wp2_with (go_at_call 118; refine (abs_any b HB.out _).mono ?_; rintro e w' ⟨rfl, rfl⟩)
  go_ret
  exact ⟨rfl, rfl⟩
theorem isInf_big (b : Nat) (hb : b < 18446744073709551616) (h : Big b) (w : World) :
    Calls Tryd.prog 132 #[.float .f64 b, .int .i64 0] w fun e w' => e = .returned (.bool false) ∧ w = w' := by
  have h1 : (FloatKind.f64.format.order (absB b) 9218868437227405311 == some .gt) = false := by
    obtain ⟨s, m, p, h, p1, p2, m1, m2⟩ := h
    unfold Format.order
    rw [read_abs, h, max_read]
    simp only [Datum.order]
    have e1 : ((p : Int) - min (p : Int) 971).toNat = 0 := by omega
    rw [e1]
    have e2 : signed false m 0 ≤ signed false 9007199254740991 ((971 : Int) - min (p : Int) 971).toNat := by
      unfold signed
      simp only [Bool.false_eq_true, if_false, Nat.shiftLeft_eq]
      have := Nat.le_mul_of_pos_right 9007199254740991 (Nat.two_pow_pos ((971 : Int) - min (p : Int) 971).toNat)
      omega
    simp only [compare, compareOfLessAndEq]
    split
    · rfl
    · split
      · rfl
      · omega
  have HB := Lib.hid hb
  clear h hb
  go_enter Tryd.func132, Tryd.ntmps132
  go_wp2_with (go_at_call 118; refine (abs_any b HB.out _).mono ?_; rintro e w' ⟨rfl, rfl⟩)
  go_ret
  exact ⟨rfl, rfl⟩

theorem trunc_any_nan (b : Nat) (h : Nan b) (w : World) :
    Calls Tryd.prog 131 #[.float .f64 b] w fun e w' => ∃ r k, e = .returned (.float .f64 r) ∧ w' = w.drewN k := by
  obtain ⟨r, k, ht⟩ := trunc_nan h w
  go_enter Tryd.func131, Tryd.ntmps131
  go_wp2
  go_ret
  exact ⟨r, k, rfl, rfl⟩

def Yes (b : Nat) : Prop := Big b ∨ Small b
def No (b : Nat) : Prop := Nan b ∨ Inf b ∨ Frac b
theorem yes_or_no {b : Nat} (hb : b < 18446744073709551616) : Yes b ∨ No b := by
  rcases cls b hb with h | h | h | h | h
  · exact Or.inr (Or.inl h)
  · exact Or.inr (Or.inr (Or.inl h))
  · exact Or.inl (Or.inl h)
  · exact Or.inl (Or.inr h)
  · exact Or.inr (Or.inr (Or.inr h))

theorem isWhole_yes (b : Nat) (hb : b < 18446744073709551616) (h : Yes b) (w : World) :
    Calls Tryd.prog 125 #[.float .f64 b] w fun e w' => e = .returned (.bool true) ∧ ∃ k, w' = w.drewN k := by
  rcases h with h | ⟨n, h, hn⟩
  · have ht := fun w => trunc_form (big_not h) w
    obtain ⟨r, hr⟩ : ∃ r, r = FloatKind.f64.encode ((FloatKind.f64.decode b).integral .zero) := ⟨_, rfl⟩
    simp only [← hr] at ht
    have h1 : (FloatKind.f64.format.order b r == some .eq) = true := by
      rw [order_same ?_ (big_not h)]
      · rfl
      · obtain ⟨s, m, p, h, p1, p2, m1, m2⟩ := h
        have hd : FloatKind.f64.decode b = .number s m (p : Int) := h
        rw [hr, hd, h]
        show FloatKind.f64.format.read (FloatKind.f64.format.nearest s (Toward.zero.cut s (m <<< ((p : Int)).toNat) (-(p : Int)).toNat) 0) = _
        rw [show (-(p : Int)).toNat = 0 from by omega, cut_whole, Int.toNat_natCast]
        exact big_read p2 m1 m2
    have HT := Lib.hid ht
    have HB := Lib.hid hb
    have H := Lib.hid h
    clear hr ht hb h
    go_enter Tryd.func125, Tryd.ntmps125
    go_wp2_with (first
      | (go_at_call 131; refine (trunc_any b r HT.out _).mono ?_; rintro e w' ⟨rfl, rfl⟩)
      | (go_at_call 132; refine (isInf_big b HB.out H.out _).mono ?_; rintro e w' ⟨rfl, rfl⟩))
    go_ret
    exact ⟨rfl, 0, rfl⟩
  · refine (isWhole_ok b n h hn w).mono ?_
    rintro e w' ⟨rfl, rfl⟩
    exact ⟨rfl, 0, rfl⟩

theorem isWhole_no (b : Nat) (hb : b < 18446744073709551616) (h : No b) (w : World) :
    Calls Tryd.prog 125 #[.float .f64 b] w fun e w' => e = .returned (.bool false) ∧ ∃ k, w' = w.drewN k := by
  rcases h with h | h | h
  · have h1 : ∀ r, (FloatKind.f64.format.order b r == some .eq) = false := fun r => by rw [order_nan h]; rfl
    have H := Lib.hid h
    clear h
    go_enter Tryd.func125, Tryd.ntmps125
    go_wp2_with fail
    refine (trunc_any_nan b H.out _).mono ?_
    rintro e w' ⟨r, k, rfl, rfl⟩
    have h2 := h1 r
    go_wp2
    go_ret
    exact ⟨rfl, k, rfl⟩
  · have hn : ¬ Nan b := by
      obtain ⟨s, h⟩ := h
      rintro ⟨s', t', h'⟩
      rw [h] at h'
      cases h'
    have ht := fun w => trunc_form hn w
    obtain ⟨r, hr⟩ : ∃ r, r = FloatKind.f64.encode ((FloatKind.f64.decode b).integral .zero) := ⟨_, rfl⟩
    simp only [← hr] at ht
    have h1 : (FloatKind.f64.format.order b r == some .eq) = true := by
      rw [order_same ?_ hn]
      · rfl
      · obtain ⟨s, h⟩ := h
        have hd : FloatKind.f64.decode b = .infinity s := h
        rw [hr, hd, h]
        cases s <;> decide
    have HT := Lib.hid ht
    have HB := Lib.hid hb
    have H := Lib.hid h
    clear hr ht hb h hn
    go_enter Tryd.func125, Tryd.ntmps125
    go_wp2_with (first
      | (go_at_call 131; refine (trunc_any b r HT.out _).mono ?_; rintro e w' ⟨rfl, rfl⟩)
      | (go_at_call 132; refine (isInf_yes b HB.out H.out _).mono ?_; rintro e w' ⟨rfl, rfl⟩))
    go_ret
    exact ⟨rfl, 0, rfl⟩
  · have hn : ¬ Nan b := by
      obtain ⟨s, m, t, h, _⟩ := h
      rintro ⟨s', t', h'⟩
      rw [h] at h'
      cases h'
    have ht := fun w => trunc_form hn w
    obtain ⟨r, hr⟩ : ∃ r, r = FloatKind.f64.encode ((FloatKind.f64.decode b).integral .zero) := ⟨_, rfl⟩
    simp only [← hr] at ht
    have h1 : (FloatKind.f64.format.order b r == some .eq) = false := by
      have h0 := h
      obtain ⟨s, m, t, h, hm, _⟩ := h
      have hd : FloatKind.f64.decode b = .number s m (-(t : Int)) := h
      obtain ⟨d, hd2⟩ : ∃ d, d = m / 2 ^ t := ⟨_, rfl⟩
      have hq : d ≤ m := by rw [hd2]; exact Nat.div_le_self _ _
      obtain ⟨n, hn⟩ : ∃ n : Int, n = if s then -(d : Int) else (d : Int) := ⟨_, rfl⟩
      have ha : n.natAbs = d := by rw [hn]; cases s <;> simp
      have hs : n ≠ 0 → s = decide (n < 0) := by
        intro h2
        rw [hn] at h2 ⊢
        cases s
        · simp
        · simp only [if_true] at h2 ⊢
          have : -(d : Int) < 0 := by omega
          exact (decide_eq_true this).symm
      refine (frac_ne (n := n) h0 ?_).1
      have hi := is_nearest .f64 s n 0 hs (by rw [ha, two53]; omega)
      rw [hr, hd]
      show Is .f64 (FloatKind.f64.format.nearest s (Toward.zero.cut s (m <<< (-(t : Int)).toNat) (-(-(t : Int))).toNat) 0) n
      rw [show (-(t : Int)).toNat = 0 from by omega, Nat.shiftLeft_zero, cut_frac, show (-(-(t : Int))).toNat = t from by omega, ← hd2, ← ha]
      exact hi
    have HT := Lib.hid ht
    clear hr ht h hn
    go_enter Tryd.func125, Tryd.ntmps125
    go_wp2_with (go_at_call 131; refine (trunc_any b r HT.out _).mono ?_; rintro e w' ⟨rfl, rfl⟩)
    go_ret
    exact ⟨rfl, 0, rfl⟩
end Go.Proofs.YtdpoemhpmdahjaaDoor
