/- Contracts: PhaseOf of whole numbers, Direction, and the reference's roots, halves and directions. -/
import Derived.Test.YtdpoemhpmdahjaaDoorPhs
namespace Go.Proofs.YtdpoemhpmdahjaaDoor
open Go.RowKit
set_option maxHeartbeats 400000
set_option maxRecDepth 100000

/-- the phase, from -2048 to 2047 -/
def phI (x y : Int) : Int := if ph4 x y = 2048 then -2048 else ph4 x y

theorem lim11 : Is .f64 4771362005757984768 100000000000 := by
  have h := is_F .f64 100000000000 (by rw [two53]; decide)
  have e : F .f64 100000000000 = 4771362005757984768 := by decide +kernel
  rwa [e] at h

theorem cmp_zero {k : FloatKind} {a : Nat} {x : Int} (ha : Is k a x) : (k.format.order a 0 == some .eq) = decide (x = 0) := by
  rw [order_is ha (is_zero k)]
  by_cases h : x = 0
  · simp [h, compare, compareOfLessAndEq]
  · by_cases h2 : x < 0
    · simp [h, h2, compare, compareOfLessAndEq]
    · simp [h, h2, compare, compareOfLessAndEq]

theorem phaseOf_ok (a b : Nat) (x y : Int) (ha : Is .f64 a x) (hb : Is .f64 b y) (hx : x.natAbs ≤ 100000000000) (hy : y.natAbs ≤ 100000000000) (h0 : ¬ (x = 0 ∧ y = 0)) (w : World) :
    Calls Tryd.prog 55 #[.complex .f64 a b] w fun e w' => e = .returned (.tuple #[.int .i64 (phI x y), .int .i64 0]) ∧ Below w.heap.size w w' := by
  have hz : ((FloatKind.f64.format.order a 0 == some .eq) && (FloatKind.f64.format.order b 0 == some .eq)) = false := by
    rw [cmp_zero ha, cmp_zero hb]
    simp only [Bool.and_eq_false_iff, decide_eq_false_iff_not]
    omega
  obtain ⟨r0, r1⟩ := ph4_range x y
  have HA := Lib.hid ha
  have HB := Lib.hid hb
  have HX := Lib.hid hx
  have HY := Lib.hid hy
  have hfin : phI x y = if ph4 x y = 2048 then -2048 else ph4 x y := rfl
  have HF := Lib.hid hfin
  obtain ⟨q, hq⟩ : ∃ q, q = ph4 x y := ⟨_, rfl⟩
  have HQ := Lib.hid hq
  rw [← hq] at r0 r1
  clear ha hb hx hy h0 hfin hq
  by_cases hq2 : q = 2048
  · have e2 : (q == 2048) = true := by simp [hq2]
    go_enter Tryd.func55, Tryd.ntmps55
    go_wp2_with fail
    refine (checkParts_ok a b _ x y 100000000000 HA.out HB.out lim11 (by have := HX.out; omega) (by have := HY.out; omega) (by omega) _).mono ?_
    rintro e w1 ⟨rfl, rfl⟩
    go_wp2_with fail
    refine (parts_ok a b x y HA.out HB.out (by have := HX.out; omega) (by have := HY.out; omega) _).mono ?_
    rintro e w1 ⟨rfl, rfl⟩
    go_wp2_with fail
    refine (php4 x y (by have := HX.out; omega) (by have := HX.out; omega) (by have := HY.out; omega) (by have := HY.out; omega) _).mono ?_
    rintro e w1 ⟨rfl, hb1⟩
    rw [← HQ.out]
    go_wp2_with fail
    go_ret2
    exact ⟨congrArg (fun n => Ending.returned (.tuple #[.int .i64 n, .int .i64 0])) (by rw [HF.out, if_pos (by rw [← HQ.out]; exact hq2)]), hb1⟩
  · have e2 : (q == 2048) = false := by simpa using hq2
    have HN := Lib.hid hq2
    clear hq2
    go_enter Tryd.func55, Tryd.ntmps55
    go_wp2_with fail
    refine (checkParts_ok a b _ x y 100000000000 HA.out HB.out lim11 (by have := HX.out; omega) (by have := HY.out; omega) (by omega) _).mono ?_
    rintro e w1 ⟨rfl, rfl⟩
    go_wp2_with fail
    refine (parts_ok a b x y HA.out HB.out (by have := HX.out; omega) (by have := HY.out; omega) _).mono ?_
    rintro e w1 ⟨rfl, rfl⟩
    go_wp2_with fail
    refine (php4 x y (by have := HX.out; omega) (by have := HX.out; omega) (by have := HY.out; omega) (by have := HY.out; omega) _).mono ?_
    rintro e w1 ⟨rfl, hb1⟩
    rw [← HQ.out]
    go_wp2_with fail
    go_ret2
    exact ⟨congrArg (fun n => Ending.returned (.tuple #[.int .i64 n, .int .i64 0])) (by rw [HF.out, if_neg (by rw [← HQ.out]; exact HN.out), ← HQ.out]), hb1⟩

/-- the direction of m, 0 ≤ m ≤ 1024 -/
def dirI (m : Int) : Mk := if m = 1024 then (narAll (fun c => decide (c.1 ≤ m))).2 else (narAll (fun c => decide (c.1 ≤ m))).1

theorem direction_no (m : Int) (h : ¬ (0 ≤ m ∧ m ≤ 1024)) (w : World) :
    Calls Tryd.prog 53 #[.int .i64 m] w fun e w' => e = .returned (.tuple #[.agg #[.int .i64 0, .int .i64 0], .int .i64 2]) ∧ Below w.heap.size w w' := by
  have hi := inB_f h
  clear h
  go_enter Tryd.func53, Tryd.ntmps53
  go_wp2_with (go_at_call 83; refine (within_any _ _ _ _).mono ?_; rintro e w' ⟨rfl, rfl⟩)
  refine bodyPost_ret (v := .tuple #[.agg #[.int .i64 0, .int .i64 0], .int .i64 2]) (by simp [results, Tryd.results53, go_sem]) rfl ⟨rfl, ?_⟩
  exact ((Below.refl _ _).alloc (Nat.le_refl _) _).alloc (by simp) _

theorem direction_ok (m : Int) (h0 : 0 ≤ m) (h1 : m ≤ 1024) (w : World) :
    Calls Tryd.prog 53 #[.int .i64 m] w fun e w' => e = .returned (.tuple #[.agg #[.int .i64 (dirI m).2.1, .int .i64 (dirI m).2.2], .int .i64 0]) ∧ Below w.heap.size w w' := by
  have hi := inB_t ⟨h0, h1⟩
  by_cases hm : m = 1024
  · have hd : dirI m = (narAll (fun c => decide (c.1 ≤ m))).2 := if_pos hm
    have he : (m == 1024) = true := by simpa using hm
    have HD := Lib.hid hd
    clear hd hm
    go_enter Tryd.func53, Tryd.ntmps53
    go_wp2_with (go_at_call 83; refine (within_any _ _ _ _).mono ?_; rintro e w' ⟨rfl, rfl⟩)
    refine (narrowD_any _ ⟨w.heap.size, 0, none⟩ m (by simp; omega) (by simp [go_sem])).mono ?_
    rintro e w1 ⟨⟨a0, a1, a2⟩, ⟨b0, b1, b2⟩, rfl, hn, hb1⟩
    have hh : ((a0, a1, a2), (b0, b1, b2)) = narAll (fun c => decide (c.1 ≤ m)) := hn.1
    have E1 : Hid ((dirI m).2.1 = b1) := by show _ = _; rw [HD.out, ← hh]
    have E2 : Hid ((dirI m).2.2 = b2) := by show _ = _; rw [HD.out, ← hh]
    have hs := hb1.size
    simp at hs
    unfold mkV
    simp only
    have A1 := (At.new (w.alloc (.cells #[.int .i64 m] 3)) 51 #[.int .i64 0, .int .i64 0]).below hb1 (by simp)
    have A0 := ((At.new w 3 #[.int .i64 m]).alloc (.cells #[.int .i64 0, .int .i64 0] 51)).below hb1 (by simp; omega)
    simp at A1
    have c0 := A0.cell 0
    have c10 := A1.cell 0
    have c11 := A1.cell 1
    have f10 := A1.free 0
    have f11 := A1.free 1
    simp at c0 c10 c11
    have hw1 : Below w.heap.size w w1 := (((Below.refl _ _).alloc (Nat.le_refl _) _).alloc (by simp) _).trans (hb1.mono (by simp; omega))
    have z1 : w.heap.size < w1.heap.size := by omega
    have z2 : w.heap.size + 1 < w1.heap.size := by omega
    have z3 : w.heap.size < w1.heap.size + 1 := by omega
    have z4 : w.heap.size + 1 < w1.heap.size + 1 := by omega
    clear hn hh HD A1 A0 hi hb1
    go_wp2
    refine bodyPost_ret (v := .tuple #[.agg #[.int .i64 b1, .int .i64 b2], .int .i64 0]) (by simp [results, Tryd.results53, go_sem, *]) rfl ⟨by rw [E1.out, E2.out], ?_⟩
    have hz := hw1.size
    repeat (first | (with_reducible refine Below.drew ?_) | (with_reducible refine below_drewNs ?_) | (with_reducible refine below_set ?_ (by first | omega | (simp; omega))) | (with_reducible refine below_new ?_ (by first | omega | (simp; omega))) | (with_reducible exact hw1))
  · have hd : dirI m = (narAll (fun c => decide (c.1 ≤ m))).1 := if_neg hm
    have he : (m == 1024) = false := by simpa using hm
    have HD := Lib.hid hd
    clear hd hm
    go_enter Tryd.func53, Tryd.ntmps53
    go_wp2_with (go_at_call 83; refine (within_any _ _ _ _).mono ?_; rintro e w' ⟨rfl, rfl⟩)
    refine (narrowD_any _ ⟨w.heap.size, 0, none⟩ m (by simp; omega) (by simp [go_sem])).mono ?_
    rintro e w1 ⟨⟨a0, a1, a2⟩, ⟨b0, b1, b2⟩, rfl, hn, hb1⟩
    have hh : ((a0, a1, a2), (b0, b1, b2)) = narAll (fun c => decide (c.1 ≤ m)) := hn.1
    have E1 : Hid ((dirI m).2.1 = a1) := by show _ = _; rw [HD.out, ← hh]
    have E2 : Hid ((dirI m).2.2 = a2) := by show _ = _; rw [HD.out, ← hh]
    have hs := hb1.size
    simp at hs
    unfold mkV
    simp only
    have A1 := (At.new (w.alloc (.cells #[.int .i64 m] 3)) 51 #[.int .i64 0, .int .i64 0]).below hb1 (by simp)
    have A0 := ((At.new w 3 #[.int .i64 m]).alloc (.cells #[.int .i64 0, .int .i64 0] 51)).below hb1 (by simp; omega)
    simp at A1
    have c0 := A0.cell 0
    have c10 := A1.cell 0
    have c11 := A1.cell 1
    have f10 := A1.free 0
    have f11 := A1.free 1
    simp at c0 c10 c11
    have hw1 : Below w.heap.size w w1 := (((Below.refl _ _).alloc (Nat.le_refl _) _).alloc (by simp) _).trans (hb1.mono (by simp; omega))
    have z1 : w.heap.size < w1.heap.size := by omega
    have z2 : w.heap.size + 1 < w1.heap.size := by omega
    have z3 : w.heap.size < w1.heap.size + 1 := by omega
    have z4 : w.heap.size + 1 < w1.heap.size + 1 := by omega
    clear hn hh HD A1 A0 hi hb1
    go_wp2
    refine bodyPost_ret (v := .tuple #[.agg #[.int .i64 a1, .int .i64 a2], .int .i64 0]) (by simp [results, Tryd.results53, go_sem, *]) rfl ⟨by rw [E1.out, E2.out], ?_⟩
    have hz := hw1.size
    repeat (first | (with_reducible refine Below.drew ?_) | (with_reducible refine below_drewNs ?_) | (with_reducible refine below_set ?_ (by first | omega | (simp; omega))) | (with_reducible refine below_new ?_ (by first | omega | (simp; omega))) | (with_reducible exact hw1))
end Go.Proofs.YtdpoemhpmdahjaaDoor
