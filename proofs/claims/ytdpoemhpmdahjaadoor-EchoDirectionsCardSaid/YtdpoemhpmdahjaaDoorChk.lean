/- Contracts: images and codes whose parts are whole and small enough pass the checks. -/
import Derived.Test.YtdpoemhpmdahjaaDoorPhs
import Derived.Test.YtdpoemhpmdahjaaDoorSum
namespace Go.Proofs.YtdpoemhpmdahjaaDoor
open Go.RowKit
set_option maxHeartbeats 400000
set_option maxRecDepth 100000

/-- complex numbers by the bits of their parts -/
def cx (k : FloatKind) (re im : Nat → Nat) (i : Nat) : Value := .complex k (re i) (im i)
/-- the first n of them have whole parts of at most that size -/
def Wh (k : FloatKind) (re im : Nat → Nat) (X Y : Nat → Int) (n : Nat) (m : Nat) : Prop := ∀ i, i < n → Is k (re i) (X i) ∧ Is k (im i) (Y i) ∧ (X i).natAbs ≤ m ∧ (Y i).natAbs ≤ m

theorem widen_run (a b : Nat) (x y : Int) (ha : Is .f32 a x) (hb : Is .f32 b y) (hx : x.natAbs ≤ 1000000000) (hy : y.natAbs ≤ 1000000000) :
    ∃ r s, (∀ w, (convert 109 88 (.complex .f32 a b)).run Tryd.prog w = .ok (.complex .f64 r s) w) ∧ Is .f64 r x ∧ Is .f64 s y := by
  obtain ⟨r, hr, h1⟩ := widen_is ha (by rw [two53]; omega)
  obtain ⟨s, hs, h2⟩ := widen_is hb (by rw [two53]; omega)
  refine ⟨r, s, fun w => run_convert_complex w _ _ .f32 .f64 a b r s (by kernel_rfl) Tryd.underlying88 (by simp [cConvBits, hr, hs]), h1, h2⟩

theorem checkSamples_ok (A : Option Addr) (n c l : Nat) (re im : Nat → Nat) (X Y : Nat → Int) (m : Nat) (w : World) (hs : Sl w A n (cx .f32 re im)) (hw : Wh .f32 re im X Y n m) (hl : Is .f64 l m) (hm : m ≤ 1000000000) (hn : n ≤ 1000000) :
    Calls Tryd.prog 87 #[.slice A n c, .float .f64 l] w fun e w' => e = .returned (.tuple #[.int .i64 0, .int .i64 0]) ∧ w = w' := by
  have HS := Lib.hid hs
  have HW := Lib.hid hw
  have HL := Lib.hid hl
  clear hs hw hl
  go_enter Tryd.func87, Tryd.ntmps87
  go_wp2
  go_loop [11] (fun i => ∃ k : Nat, k ≤ n ∧ i = .int .i64 (k : Int)) (fun i => n - (intOf i).toNat)
  case atStart => exact ⟨0, Nat.zero_le _, rfl⟩
  case round =>
    obtain ⟨k, hk, rfl⟩ := hrel
    by_cases hlt : k < n
    · obtain ⟨b, off, rfl, _, hc⟩ := HS.out (by omega)
      obtain ⟨h1, h2, h3, h4⟩ := HW.out k hlt
      obtain ⟨r, s, hrun, g1, g2⟩ := widen_run _ _ _ _ h1 h2 (by omega) (by omega)
      have hcell := hc k hlt
      unfold cx at hcell
      have G1 := Lib.hid g1
      have G2 := Lib.hid g2
      have H3 := Lib.hid h3
      have H4 := Lib.hid h4
      clear hc h1 h2 g1 g2 h3 h4
      go_wp2_with (go_at_call 104; refine (checkParts_ok r s l (X k) (Y k) m G1.out G2.out HL.out (by have := H3.out; omega) (by have := H4.out; omega) (by omega) _).mono ?_; rintro e w' ⟨rfl, rfl⟩)
      go_round
      case rel => exact ⟨k + 1, by omega, by go_num⟩
      case measure => simp [intOf]; omega
    · go_wp2
      go_ret2
      exact ⟨rfl, rfl⟩

theorem lim2047 : Is .f64 4656717616654581760 2047 := by
  have h := is_F .f64 2047 (by rw [two53]; decide)
  have e : F .f64 2047 = 4656717616654581760 := by decide +kernel
  rwa [e] at h
theorem lim3 : Is .f64 4613937818241073152 3 := by
  have h := is_F .f64 3 (by rw [two53]; decide)
  have e : F .f64 3 = 4613937818241073152 := by decide +kernel
  rwa [e] at h

theorem checkGrid_ok (A : Option Addr) (L S n c l : Nat) (re im : Nat → Nat) (X Y : Nat → Int) (m : Nat) (w : World) (hs : Sl w A n (cx .f32 re im)) (hw : Wh .f32 re im X Y n m) (hl : Is .f64 l m) (hm : m ≤ 1000000000)
    (hL : 1 ≤ L ∧ L ≤ 64) (hS : 1 ≤ S ∧ S ≤ 64) (hn : n = L * S) :
    Calls Tryd.prog 72 #[.int .i64 (L : Int), .int .i64 (S : Int), .slice A n c, .float .f64 l] w fun e w' => e = .returned (.tuple #[.int .i64 0, .int .i64 0]) ∧ w = w' := by
  have hb : n ≤ 64 * 64 := by rw [hn]; exact Nat.mul_le_mul hL.2 hS.2
  have hne : ((n : Int) == (L : Int) * (S : Int)) = true := by rw [beq_iff_eq, hn]; exact Int.natCast_mul L S
  have hb2 : (L : Int) * (S : Int) ≤ 4096 := by
    have : ((L * S : Nat) : Int) = (L : Int) * (S : Int) := Int.natCast_mul L S
    omega
  have hb3 : 0 ≤ (L : Int) * (S : Int) := Int.mul_nonneg (by omega) (by omega)
  have i1 := inB_t (n := (L : Int)) (lo := 1) (hi := 64) (by omega)
  have i2 := inB_t (n := (S : Int)) (lo := 1) (hi := 64) (by omega)
  have HS := Lib.hid hs
  have HW := Lib.hid hw
  have HL := Lib.hid hl
  clear hs hw hl hn
  go_enter Tryd.func72, Tryd.ntmps72
  go_wp2_with (first
    | (go_at_call 83; refine (within_any _ _ _ _).mono ?_; rintro e w' ⟨rfl, rfl⟩)
    | (go_at_call 87; refine (checkSamples_ok A n c l re im X Y m _ HS.out HW.out HL.out hm (by omega)).mono ?_; rintro e w' ⟨rfl, rfl⟩))
  go_ret2
  exact ⟨rfl, rfl⟩

/-- an image that has its form -/
theorem checkImage_ok (A : Option Addr) (L S n c : Nat) (re im : Nat → Nat) (X Y : Nat → Int) (w : World) (hs : Sl w A n (cx .f32 re im)) (hw : Wh .f32 re im X Y n 2047)
    (hL : 1 ≤ L ∧ L ≤ 64) (hS : 1 ≤ S ∧ S ≤ 64) (hn : n = L * S) :
    Calls Tryd.prog 17 #[.agg #[.int .i64 (L : Int), .int .i64 (S : Int), .slice A n c]] w fun e w' => e = .returned (.tuple #[.int .i64 0, .int .i64 0]) ∧ Below w.heap.size w w' := by
  have HS := Lib.hid (hs.alloc (.cells #[.int .i64 (L : Int), .int .i64 (S : Int), .slice A n c] 32))
  have HW := Lib.hid hw
  have HN := Lib.hid hn
  clear hs hw hn
  go_enter Tryd.func17, Tryd.ntmps17
  go_wp2_with fail
  refine (checkGrid_ok A L S n c _ re im X Y 2047 _ HS.out HW.out lim2047 (by omega) hL hS HN.out).mono ?_
  rintro e w' ⟨rfl, rfl⟩
  go_wp2_with fail
  go_ret2
  exact ⟨rfl, (Below.refl _ _).alloc (Nat.le_refl _) _⟩

theorem cmp_zero32 {k : FloatKind} {a : Nat} {x : Int} (ha : Is k a x) : (k.format.order a 0 == some .eq) = decide (x = 0) := by
  rw [order_is ha (is_zero k)]
  by_cases h : x = 0
  · simp [h, compare, compareOfLessAndEq]
  · by_cases h2 : x < 0
    · simp [h, h2, compare, compareOfLessAndEq]
    · simp [h, h2, compare, compareOfLessAndEq]

def zAll (X Y : Nat → Int) : Nat → Bool
  | 0 => true
  | k + 1 => zAll X Y k && (decide (X k = 0) && decide (Y k = 0))

theorem zAll_false {X Y : Nat → Int} {k n : Nat} (hk : k < n) (h : (decide (X k = 0) && decide (Y k = 0)) = false) : zAll X Y n = false := by
  induction n with
  | zero => omega
  | succ n ih =>
    rw [zAll]
    by_cases e : k = n
    · subst e; rw [h, Bool.and_false]
    · rw [ih (by omega), Bool.false_and]

theorem allZero_any (A : Option Addr) (n c : Nat) (re im : Nat → Nat) (X Y : Nat → Int) (m : Nat) (w : World) (hs : Sl w A n (cx .f32 re im)) (hw : Wh .f32 re im X Y n m) (hn : n ≤ 1000000) :
    Calls Tryd.prog 73 #[.slice A n c] w fun e w' => e = .returned (.bool (zAll X Y n)) ∧ w = w' := by
  have HS := Lib.hid hs
  have HW := Lib.hid hw
  clear hs hw
  go_enter Tryd.func73, Tryd.ntmps73
  go_wp2
  go_loop [7] (fun i => ∃ k : Nat, k ≤ n ∧ i = .int .i64 (k : Int) ∧ zAll X Y k = true) (fun i => n - (intOf i).toNat)
  case atStart => exact ⟨0, Nat.zero_le _, rfl, rfl⟩
  case round =>
    obtain ⟨k, hk, rfl, hz⟩ := hrel
    have HZ := Lib.hid hz
    clear hz
    by_cases hlt : k < n
    · obtain ⟨b, off, rfl, _, hc⟩ := HS.out (by omega)
      obtain ⟨h1, h2, h3, h4⟩ := HW.out k hlt
      have hcell := hc k hlt
      unfold cx at hcell
      have e1 := cmp_zero32 h1
      have e2 := cmp_zero32 h2
      clear hc h1 h2 h3 h4
      by_cases hxy : (decide (X k = 0) && decide (Y k = 0)) = true
      · have e3 : ((FloatKind.f32.format.order (re k) 0 == some .eq) && (FloatKind.f32.format.order (im k) 0 == some .eq)) = true := by rw [e1, e2]; exact hxy
        have HX := Lib.hid hxy
        clear e1 e2 hxy
        go_wp2
        go_round
        case rel => exact ⟨k + 1, by omega, by go_num, by rw [zAll, HZ.out, HX.out]; rfl⟩
        case measure => simp [intOf]; omega
      · have hf : (decide (X k = 0) && decide (Y k = 0)) = false := by simpa using hxy
        have e3 : ((FloatKind.f32.format.order (re k) 0 == some .eq) && (FloatKind.f32.format.order (im k) 0 == some .eq)) = false := by rw [e1, e2]; exact hf
        have HX := Lib.hid (zAll_false hlt hf)
        clear e1 e2 hxy hf
        go_wp2
        go_ret
        exact ⟨congrArg (fun b => Ending.returned (.bool b)) HX.out.symm, rfl⟩
    · go_wp2
      go_ret
      obtain rfl : k = n := by omega
      exact ⟨congrArg (fun b => Ending.returned (.bool b)) HZ.out.symm, rfl⟩

/-- a code that has its form -/
theorem checkCode_ok (A : Option Addr) (n c : Nat) (re im : Nat → Nat) (X Y : Nat → Int) (w : World) (hs : Sl w A n (cx .f32 re im)) (hw : Wh .f32 re im X Y n 3) (h1 : 1 ≤ n) (h2 : n ≤ 32) (hz : zAll X Y n = false) :
    Calls Tryd.prog 34 #[.slice A n c] w fun e w' => e = .returned (.tuple #[.int .i64 0, .int .i64 0]) ∧ w = w' := by
  have e0 : ((n : Int) == 0) = false := by rw [beq_eq_false_iff_ne]; omega
  have HS := Lib.hid hs
  have HW := Lib.hid hw
  have HZ := Lib.hid hz
  clear hs hw hz
  go_enter Tryd.func34, Tryd.ntmps34
  go_wp2_with fail
  refine (checkSamples_ok A n c _ re im X Y 3 _ HS.out HW.out lim3 (by omega) (by omega)).mono ?_
  rintro e w' ⟨rfl, rfl⟩
  go_wp2_with fail
  refine (allZero_any A n c re im X Y 3 _ HS.out HW.out (by omega)).mono ?_
  rintro e w' ⟨rfl, rfl⟩
  rw [HZ.out]
  go_wp2_with fail
  go_ret2
  exact ⟨rfl, rfl⟩
end Go.Proofs.YtdpoemhpmdahjaaDoor
