/- The law: ShiftAt returns the shift at a place in sixteenths, or the errors. -/
import Derived.Test.YtoaecfblpkgehaaMse
import Derived.Test.YtoaecfblpkgehaaMsf
import Derived.Test.YtoaecfblpkgehaaEvm
import Derived.DeepKeys
import Derived.Laws.StructEq
namespace Go.Proofs.Ytoaecfblpkgehaa
open Go.RowKit
set_option maxHeartbeats 3200000
set_option maxRecDepth 100000

theorem part_int (xs : Array Value) (i : Nat) (v : Value) (w : World) (h : xs[i]? = some v) : (part 3 xs i).run Try.prog w = .ok v w := by
  have i2 := Try.isAgg3
  have i3 := Try.sizeOf3
  go_simp
theorem eqItems_nil (d : Nat) (e : TypeId) (c : Nat) (xs ys : Array Value) (w : World) : (Op.eqItems d e c xs ys []).run Try.prog w = .ok true w := by simp [Op.eqItems]
theorem eqItems_cons (d : Nat) (e : TypeId) (c : Nat) (xs ys : Array Value) (i : Nat) (is : List Nat) (w : World) (a b : Value) (q r : Bool) (ha : (part e xs (i * c)).run Try.prog w = .ok a w) (hb : (part e ys (i * c)).run Try.prog w = .ok b w)
    (hq : (Op.equalIn d e a b).run Try.prog w = .ok q w) (hr : (Op.eqItems d e c xs ys is).run Try.prog w = .ok r w) : (Op.eqItems d e c xs ys (i :: is)).run Try.prog w = .ok (q && r) w := by
  simp only [Op.eqItems, Sem.run_bind, ha, hb, hq, Result.andThen_ok]
  cases q
  · simp
  · simpa using hr
theorem infoIn : (Try.prog.info? 3).isSome = true := by kernel_rfl
@[go_sem] theorem eq_two (a1 a2 b1 b2 : Int) (w : World) : (Op.equalIn 10000 39 (.agg #[.int .i64 a1, .int .i64 a2]) (.agg #[.int .i64 b1, .int .i64 b2])).run Try.prog w = .ok (a1 == b1 && a2 == b2) w := by
  obtain ⟨i, hi⟩ := Option.isSome_iff_exists.1 infoIn
  rw [show (10000 : Nat) = 9999 + 1 from rfl, run_equalIn_array w 9999 _ _ Try.underlying39 hi, show Try.prog.cellsOf 3 = 1 by kernel_rfl]
  have q (u v : Int) := run_equalIn_int (P := Try.prog) w 9998 3 .i64 .i64 u v Try.underlying3
  have e := eqItems_cons 9999 3 1 #[.int .i64 a1, .int .i64 a2] #[.int .i64 b1, .int .i64 b2] 0 [1] w _ _ _ _ (part_int _ _ _ w rfl) (part_int _ _ _ w rfl) (q a1 b1) (eqItems_cons 9999 3 1 _ _ 1 [] w _ _ _ _ (part_int _ _ _ w rfl) (part_int _ _ _ w rfl) (q a2 b2) (eqItems_nil _ _ _ _ _ w))
  rw [show List.range 2 = [0, 1] from rfl, e, Bool.and_true]

theorem shifts_all {w : World} {n l0 l1 l2 s0 s1 s2 l s : Int} :
    Calls Try.prog 4 #[.agg #[.int .i64 n, .int .i64 l0, .int .i64 l1, .int .i64 l2, .int .i64 s0, .int .i64 s1, .int .i64 s2], .int .i64 l, .int .i64 s] w fun e w' => e = .returned (.bool true) ∧ Below w.heap.size w w' := by
  obtain ⟨b1, hb1⟩ : ∃ b, rk n l0 l1 l2 s0 s1 s2 3 = b := ⟨_, rfl⟩
  obtain ⟨p1, hp1⟩ : ∃ b, inB l 0 63 = b := ⟨_, rfl⟩
  obtain ⟨p2, hp2⟩ : ∃ b, inB s 0 63 = b := ⟨_, rfl⟩
  obtain ⟨v1, v2, v3, hv⟩ : ∃ v1 v2 v3 : Int, shR n l0 l1 l2 s0 s1 s2 l s = .tuple #[.agg #[.int .i64 v1, .int .i64 v2], .int .i64 v3] := by
    unfold shR
    split <;> exact ⟨_, _, _, rfl⟩
  have HA : Hid (∀ W : World, Calls Try.prog 12 #[.agg #[.int .i64 n, .int .i64 l0, .int .i64 l1, .int .i64 l2, .int .i64 s0, .int .i64 s1, .int .i64 s2], .int .i64 l, .int .i64 s] W fun e w' => e = .returned (.tuple #[.agg #[.int .i64 v1, .int .i64 v2], .int .i64 v3]) ∧ Below W.heap.size W w') := fun W => by rw [← hv]; exact shiftAt_any _ _ _ _ _ _ _ _ _ W
  have HC : Hid (∀ W : World, Calls Try.prog 14 #[.agg #[.int .i64 n, .int .i64 l0, .int .i64 l1, .int .i64 l2, .int .i64 s0, .int .i64 s1, .int .i64 s2]] W fun e w' => e = .returned (.int .i64 (eif (!b1) 2)) ∧ Below W.heap.size W w') := fun W => by rw [← hb1]; exact checkAffine_any _ _ _ _ _ _ _ W
  have HR : Hid (∀ W : World, Calls Try.prog 13 #[.agg #[.int .i64 n, .int .i64 l0, .int .i64 l1, .int .i64 l2, .int .i64 s0, .int .i64 s1, .int .i64 s2]] W fun e w' => e = .returned (.int .i64 (eif (!b1) 2)) ∧ Below W.heap.size W w') := fun W => by rw [← hb1]; exact refCheckAffine_any _ _ _ _ _ _ _ W
  have HW1 : Hid (∀ W : World, Calls Try.prog 9 #[.int .i64 l, .int .i64 0, .int .i64 63] W fun e w' => e = .returned (.bool p1) ∧ W = w') := fun W => by rw [← hp1]; exact baseWithin_any _ _ _ W
  have HW2 : Hid (∀ W : World, Calls Try.prog 9 #[.int .i64 s, .int .i64 0, .int .i64 63] W fun e w' => e = .returned (.bool p2) ∧ W = w') := fun W => by rw [← hp2]; exact baseWithin_any _ _ _ W
  cases b1 <;> cases p1 <;> cases p2
  · have hq := hv
    unfold shR at hq
    rw [if_neg (fun h => by rw [hb1, hp1, hp2] at h; exact absurd h (by decide))] at hq
    simp at hq
    obtain ⟨⟨q1, q2⟩, q3⟩ := hq
    obtain rfl : v3 = 2 := q3.symm
    obtain rfl : v1 = 0 := q1.symm
    obtain rfl : v2 = 0 := q2.symm
    simp only [show eif (!false) 2 = 2 from rfl] at HC HR
    clear hv hb1 hp1 hp2
    go_enter Try.func4, Try.ntmps4
    go_wp2_with fail
    have hX0 : At (w.alloc (.cells #[.int .i64 n, .int .i64 l0, .int .i64 l1, .int .i64 l2, .int .i64 s0, .int .i64 s1, .int .i64 s2] 38)) w.heap.size 38 #[.int .i64 n, .int .i64 l0, .int .i64 l1, .int .i64 l2, .int .i64 s0, .int .i64 s1, .int .i64 s2] := At.new w _ _
    have hb0 : Below w.heap.size w (w.alloc (.cells #[.int .i64 n, .int .i64 l0, .int .i64 l1, .int .i64 l2, .int .i64 s0, .int .i64 s1, .int .i64 s2] 38)) := below_new (Below.refl _ _) (Nat.le_refl _)
    refine (awake_ok _).mono ?_
    rintro e w1 ⟨rfl, hbw⟩
    have HX1 := Lib.hid (hX0.keep hbw)
    have HB1 := Lib.hid (below_two hb0 hbw)
    have i1 : w.heap.size < w1.heap.size := HX1.out.lt
    clear hX0 hb0 hbw
    have x0 := HX1.out.cell 0
    have x1 := HX1.out.cell 1
    have x2 := HX1.out.cell 2
    have x3 := HX1.out.cell 3
    have x4 := HX1.out.cell 4
    have x5 := HX1.out.cell 5
    have x6 := HX1.out.cell 6
    simp at x0 x1 x2 x3 x4 x5 x6
    go_wp2_with fail
    refine (HA.out _).mono ?_
    rintro e w2 ⟨rfl, hbw⟩
    have HX2 := Lib.hid (HX1.out.keep hbw)
    have HB2 := Lib.hid (below_two HB1.out hbw)
    have i2 : w.heap.size < w2.heap.size := HX2.out.lt
    clear hbw x0 x1 x2 x3 x4 x5 x6 HX1 HB1
    have x0 := HX2.out.cell 0
    have x1 := HX2.out.cell 1
    have x2 := HX2.out.cell 2
    have x3 := HX2.out.cell 3
    have x4 := HX2.out.cell 4
    have x5 := HX2.out.cell 5
    have x6 := HX2.out.cell 6
    simp at x0 x1 x2 x3 x4 x5 x6
    go_wp2_with fail
    have hV3 : At (w2.alloc (.cells #[.int .i64 0, .int .i64 0] 39)) w2.heap.size 39 #[.int .i64 0, .int .i64 0] := At.new w2 _ _
    have hX3 := HX2.out.alloc (.cells #[.int .i64 0, .int .i64 0] 39)
    have hB3 : Below w.heap.size w (w2.alloc (.cells #[.int .i64 0, .int .i64 0] 39)) := below_new HB2.out (by omega)
    refine (HR.out _).mono ?_
    rintro e w4 ⟨rfl, hbw⟩
    have HX4 := Lib.hid (hX3.keep hbw)
    have HV4 := Lib.hid (hV3.keep hbw)
    have HB4 := Lib.hid (below_two hB3 hbw)
    have i4 : w2.heap.size < w4.heap.size := HV4.out.lt
    clear hbw x0 x1 x2 x3 x4 x5 x6 HX2 HB2 hX3 hV3 hB3
    have x0 := HX4.out.cell 0
    have x1 := HX4.out.cell 1
    have x2 := HX4.out.cell 2
    have x3 := HX4.out.cell 3
    have x4 := HX4.out.cell 4
    have x5 := HX4.out.cell 5
    have x6 := HX4.out.cell 6
    simp at x0 x1 x2 x3 x4 x5 x6
    go_wp2_with fail
    refine (HC.out _).mono ?_
    rintro e w5 ⟨rfl, hbw⟩
    have HX5 := Lib.hid (HX4.out.keep hbw)
    have HV5 := Lib.hid (HV4.out.keep hbw)
    have HB5 := Lib.hid (below_two HB4.out hbw)
    have i5 : w2.heap.size < w5.heap.size := HV5.out.lt
    clear hbw x0 x1 x2 x3 x4 x5 x6 HX4 HV4 HB4
    have x0 := HX5.out.cell 0
    have x1 := HX5.out.cell 1
    have x2 := HX5.out.cell 2
    have x3 := HX5.out.cell 3
    have x4 := HX5.out.cell 4
    have x5 := HX5.out.cell 5
    have x6 := HX5.out.cell 6
    simp at x0 x1 x2 x3 x4 x5 x6
    have y0 := HV5.out.cell 0
    have y1 := HV5.out.cell 1
    simp at y0 y1
    go_wp2_with (first | (go_at_call 9; first | ((with_reducible refine (HW1.out _).mono ?_); rintro e w' ⟨rfl, rfl⟩) | ((with_reducible refine (HW2.out _).mono ?_); rintro e w' ⟨rfl, rfl⟩)))
    go_ret
    have hq := HB5.out
    refine ⟨rfl, ?_⟩
    repeat (first | (with_reducible assumption) | (with_reducible exact Below.refl _ _) | (with_reducible refine Below.drew ?_) | (with_reducible refine below_drewNs ?_) | (with_reducible refine below_set ?_ (by first | omega | (simp; omega))) | (with_reducible refine below_new ?_ (by first | omega | (simp; done) | (simp; omega))))
  · have hq := hv
    unfold shR at hq
    rw [if_neg (fun h => by rw [hb1, hp1, hp2] at h; exact absurd h (by decide))] at hq
    simp at hq
    obtain ⟨⟨q1, q2⟩, q3⟩ := hq
    obtain rfl : v3 = 2 := q3.symm
    obtain rfl : v1 = 0 := q1.symm
    obtain rfl : v2 = 0 := q2.symm
    simp only [show eif (!false) 2 = 2 from rfl] at HC HR
    clear hv hb1 hp1 hp2
    go_enter Try.func4, Try.ntmps4
    go_wp2_with fail
    have hX0 : At (w.alloc (.cells #[.int .i64 n, .int .i64 l0, .int .i64 l1, .int .i64 l2, .int .i64 s0, .int .i64 s1, .int .i64 s2] 38)) w.heap.size 38 #[.int .i64 n, .int .i64 l0, .int .i64 l1, .int .i64 l2, .int .i64 s0, .int .i64 s1, .int .i64 s2] := At.new w _ _
    have hb0 : Below w.heap.size w (w.alloc (.cells #[.int .i64 n, .int .i64 l0, .int .i64 l1, .int .i64 l2, .int .i64 s0, .int .i64 s1, .int .i64 s2] 38)) := below_new (Below.refl _ _) (Nat.le_refl _)
    refine (awake_ok _).mono ?_
    rintro e w1 ⟨rfl, hbw⟩
    have HX1 := Lib.hid (hX0.keep hbw)
    have HB1 := Lib.hid (below_two hb0 hbw)
    have i1 : w.heap.size < w1.heap.size := HX1.out.lt
    clear hX0 hb0 hbw
    have x0 := HX1.out.cell 0
    have x1 := HX1.out.cell 1
    have x2 := HX1.out.cell 2
    have x3 := HX1.out.cell 3
    have x4 := HX1.out.cell 4
    have x5 := HX1.out.cell 5
    have x6 := HX1.out.cell 6
    simp at x0 x1 x2 x3 x4 x5 x6
    go_wp2_with fail
    refine (HA.out _).mono ?_
    rintro e w2 ⟨rfl, hbw⟩
    have HX2 := Lib.hid (HX1.out.keep hbw)
    have HB2 := Lib.hid (below_two HB1.out hbw)
    have i2 : w.heap.size < w2.heap.size := HX2.out.lt
    clear hbw x0 x1 x2 x3 x4 x5 x6 HX1 HB1
    have x0 := HX2.out.cell 0
    have x1 := HX2.out.cell 1
    have x2 := HX2.out.cell 2
    have x3 := HX2.out.cell 3
    have x4 := HX2.out.cell 4
    have x5 := HX2.out.cell 5
    have x6 := HX2.out.cell 6
    simp at x0 x1 x2 x3 x4 x5 x6
    go_wp2_with fail
    have hV3 : At (w2.alloc (.cells #[.int .i64 0, .int .i64 0] 39)) w2.heap.size 39 #[.int .i64 0, .int .i64 0] := At.new w2 _ _
    have hX3 := HX2.out.alloc (.cells #[.int .i64 0, .int .i64 0] 39)
    have hB3 : Below w.heap.size w (w2.alloc (.cells #[.int .i64 0, .int .i64 0] 39)) := below_new HB2.out (by omega)
    refine (HR.out _).mono ?_
    rintro e w4 ⟨rfl, hbw⟩
    have HX4 := Lib.hid (hX3.keep hbw)
    have HV4 := Lib.hid (hV3.keep hbw)
    have HB4 := Lib.hid (below_two hB3 hbw)
    have i4 : w2.heap.size < w4.heap.size := HV4.out.lt
    clear hbw x0 x1 x2 x3 x4 x5 x6 HX2 HB2 hX3 hV3 hB3
    have x0 := HX4.out.cell 0
    have x1 := HX4.out.cell 1
    have x2 := HX4.out.cell 2
    have x3 := HX4.out.cell 3
    have x4 := HX4.out.cell 4
    have x5 := HX4.out.cell 5
    have x6 := HX4.out.cell 6
    simp at x0 x1 x2 x3 x4 x5 x6
    go_wp2_with fail
    refine (HC.out _).mono ?_
    rintro e w5 ⟨rfl, hbw⟩
    have HX5 := Lib.hid (HX4.out.keep hbw)
    have HV5 := Lib.hid (HV4.out.keep hbw)
    have HB5 := Lib.hid (below_two HB4.out hbw)
    have i5 : w2.heap.size < w5.heap.size := HV5.out.lt
    clear hbw x0 x1 x2 x3 x4 x5 x6 HX4 HV4 HB4
    have x0 := HX5.out.cell 0
    have x1 := HX5.out.cell 1
    have x2 := HX5.out.cell 2
    have x3 := HX5.out.cell 3
    have x4 := HX5.out.cell 4
    have x5 := HX5.out.cell 5
    have x6 := HX5.out.cell 6
    simp at x0 x1 x2 x3 x4 x5 x6
    have y0 := HV5.out.cell 0
    have y1 := HV5.out.cell 1
    simp at y0 y1
    go_wp2_with (first | (go_at_call 9; first | ((with_reducible refine (HW1.out _).mono ?_); rintro e w' ⟨rfl, rfl⟩) | ((with_reducible refine (HW2.out _).mono ?_); rintro e w' ⟨rfl, rfl⟩)))
    go_ret
    have hq := HB5.out
    refine ⟨rfl, ?_⟩
    repeat (first | (with_reducible assumption) | (with_reducible exact Below.refl _ _) | (with_reducible refine Below.drew ?_) | (with_reducible refine below_drewNs ?_) | (with_reducible refine below_set ?_ (by first | omega | (simp; omega))) | (with_reducible refine below_new ?_ (by first | omega | (simp; done) | (simp; omega))))
  · have hq := hv
    unfold shR at hq
    rw [if_neg (fun h => by rw [hb1, hp1, hp2] at h; exact absurd h (by decide))] at hq
    simp at hq
    obtain ⟨⟨q1, q2⟩, q3⟩ := hq
    obtain rfl : v3 = 2 := q3.symm
    obtain rfl : v1 = 0 := q1.symm
    obtain rfl : v2 = 0 := q2.symm
    simp only [show eif (!false) 2 = 2 from rfl] at HC HR
    clear hv hb1 hp1 hp2
    go_enter Try.func4, Try.ntmps4
    go_wp2_with fail
    have hX0 : At (w.alloc (.cells #[.int .i64 n, .int .i64 l0, .int .i64 l1, .int .i64 l2, .int .i64 s0, .int .i64 s1, .int .i64 s2] 38)) w.heap.size 38 #[.int .i64 n, .int .i64 l0, .int .i64 l1, .int .i64 l2, .int .i64 s0, .int .i64 s1, .int .i64 s2] := At.new w _ _
    have hb0 : Below w.heap.size w (w.alloc (.cells #[.int .i64 n, .int .i64 l0, .int .i64 l1, .int .i64 l2, .int .i64 s0, .int .i64 s1, .int .i64 s2] 38)) := below_new (Below.refl _ _) (Nat.le_refl _)
    refine (awake_ok _).mono ?_
    rintro e w1 ⟨rfl, hbw⟩
    have HX1 := Lib.hid (hX0.keep hbw)
    have HB1 := Lib.hid (below_two hb0 hbw)
    have i1 : w.heap.size < w1.heap.size := HX1.out.lt
    clear hX0 hb0 hbw
    have x0 := HX1.out.cell 0
    have x1 := HX1.out.cell 1
    have x2 := HX1.out.cell 2
    have x3 := HX1.out.cell 3
    have x4 := HX1.out.cell 4
    have x5 := HX1.out.cell 5
    have x6 := HX1.out.cell 6
    simp at x0 x1 x2 x3 x4 x5 x6
    go_wp2_with fail
    refine (HA.out _).mono ?_
    rintro e w2 ⟨rfl, hbw⟩
    have HX2 := Lib.hid (HX1.out.keep hbw)
    have HB2 := Lib.hid (below_two HB1.out hbw)
    have i2 : w.heap.size < w2.heap.size := HX2.out.lt
    clear hbw x0 x1 x2 x3 x4 x5 x6 HX1 HB1
    have x0 := HX2.out.cell 0
    have x1 := HX2.out.cell 1
    have x2 := HX2.out.cell 2
    have x3 := HX2.out.cell 3
    have x4 := HX2.out.cell 4
    have x5 := HX2.out.cell 5
    have x6 := HX2.out.cell 6
    simp at x0 x1 x2 x3 x4 x5 x6
    go_wp2_with fail
    have hV3 : At (w2.alloc (.cells #[.int .i64 0, .int .i64 0] 39)) w2.heap.size 39 #[.int .i64 0, .int .i64 0] := At.new w2 _ _
    have hX3 := HX2.out.alloc (.cells #[.int .i64 0, .int .i64 0] 39)
    have hB3 : Below w.heap.size w (w2.alloc (.cells #[.int .i64 0, .int .i64 0] 39)) := below_new HB2.out (by omega)
    refine (HR.out _).mono ?_
    rintro e w4 ⟨rfl, hbw⟩
    have HX4 := Lib.hid (hX3.keep hbw)
    have HV4 := Lib.hid (hV3.keep hbw)
    have HB4 := Lib.hid (below_two hB3 hbw)
    have i4 : w2.heap.size < w4.heap.size := HV4.out.lt
    clear hbw x0 x1 x2 x3 x4 x5 x6 HX2 HB2 hX3 hV3 hB3
    have x0 := HX4.out.cell 0
    have x1 := HX4.out.cell 1
    have x2 := HX4.out.cell 2
    have x3 := HX4.out.cell 3
    have x4 := HX4.out.cell 4
    have x5 := HX4.out.cell 5
    have x6 := HX4.out.cell 6
    simp at x0 x1 x2 x3 x4 x5 x6
    go_wp2_with fail
    refine (HC.out _).mono ?_
    rintro e w5 ⟨rfl, hbw⟩
    have HX5 := Lib.hid (HX4.out.keep hbw)
    have HV5 := Lib.hid (HV4.out.keep hbw)
    have HB5 := Lib.hid (below_two HB4.out hbw)
    have i5 : w2.heap.size < w5.heap.size := HV5.out.lt
    clear hbw x0 x1 x2 x3 x4 x5 x6 HX4 HV4 HB4
    have x0 := HX5.out.cell 0
    have x1 := HX5.out.cell 1
    have x2 := HX5.out.cell 2
    have x3 := HX5.out.cell 3
    have x4 := HX5.out.cell 4
    have x5 := HX5.out.cell 5
    have x6 := HX5.out.cell 6
    simp at x0 x1 x2 x3 x4 x5 x6
    have y0 := HV5.out.cell 0
    have y1 := HV5.out.cell 1
    simp at y0 y1
    go_wp2_with (first | (go_at_call 9; first | ((with_reducible refine (HW1.out _).mono ?_); rintro e w' ⟨rfl, rfl⟩) | ((with_reducible refine (HW2.out _).mono ?_); rintro e w' ⟨rfl, rfl⟩)))
    go_ret
    have hq := HB5.out
    refine ⟨rfl, ?_⟩
    repeat (first | (with_reducible assumption) | (with_reducible exact Below.refl _ _) | (with_reducible refine Below.drew ?_) | (with_reducible refine below_drewNs ?_) | (with_reducible refine below_set ?_ (by first | omega | (simp; omega))) | (with_reducible refine below_new ?_ (by first | omega | (simp; done) | (simp; omega))))
  · have hq := hv
    unfold shR at hq
    rw [if_neg (fun h => by rw [hb1, hp1, hp2] at h; exact absurd h (by decide))] at hq
    simp at hq
    obtain ⟨⟨q1, q2⟩, q3⟩ := hq
    obtain rfl : v3 = 2 := q3.symm
    obtain rfl : v1 = 0 := q1.symm
    obtain rfl : v2 = 0 := q2.symm
    simp only [show eif (!false) 2 = 2 from rfl] at HC HR
    clear hv hb1 hp1 hp2
    go_enter Try.func4, Try.ntmps4
    go_wp2_with fail
    have hX0 : At (w.alloc (.cells #[.int .i64 n, .int .i64 l0, .int .i64 l1, .int .i64 l2, .int .i64 s0, .int .i64 s1, .int .i64 s2] 38)) w.heap.size 38 #[.int .i64 n, .int .i64 l0, .int .i64 l1, .int .i64 l2, .int .i64 s0, .int .i64 s1, .int .i64 s2] := At.new w _ _
    have hb0 : Below w.heap.size w (w.alloc (.cells #[.int .i64 n, .int .i64 l0, .int .i64 l1, .int .i64 l2, .int .i64 s0, .int .i64 s1, .int .i64 s2] 38)) := below_new (Below.refl _ _) (Nat.le_refl _)
    refine (awake_ok _).mono ?_
    rintro e w1 ⟨rfl, hbw⟩
    have HX1 := Lib.hid (hX0.keep hbw)
    have HB1 := Lib.hid (below_two hb0 hbw)
    have i1 : w.heap.size < w1.heap.size := HX1.out.lt
    clear hX0 hb0 hbw
    have x0 := HX1.out.cell 0
    have x1 := HX1.out.cell 1
    have x2 := HX1.out.cell 2
    have x3 := HX1.out.cell 3
    have x4 := HX1.out.cell 4
    have x5 := HX1.out.cell 5
    have x6 := HX1.out.cell 6
    simp at x0 x1 x2 x3 x4 x5 x6
    go_wp2_with fail
    refine (HA.out _).mono ?_
    rintro e w2 ⟨rfl, hbw⟩
    have HX2 := Lib.hid (HX1.out.keep hbw)
    have HB2 := Lib.hid (below_two HB1.out hbw)
    have i2 : w.heap.size < w2.heap.size := HX2.out.lt
    clear hbw x0 x1 x2 x3 x4 x5 x6 HX1 HB1
    have x0 := HX2.out.cell 0
    have x1 := HX2.out.cell 1
    have x2 := HX2.out.cell 2
    have x3 := HX2.out.cell 3
    have x4 := HX2.out.cell 4
    have x5 := HX2.out.cell 5
    have x6 := HX2.out.cell 6
    simp at x0 x1 x2 x3 x4 x5 x6
    go_wp2_with fail
    have hV3 : At (w2.alloc (.cells #[.int .i64 0, .int .i64 0] 39)) w2.heap.size 39 #[.int .i64 0, .int .i64 0] := At.new w2 _ _
    have hX3 := HX2.out.alloc (.cells #[.int .i64 0, .int .i64 0] 39)
    have hB3 : Below w.heap.size w (w2.alloc (.cells #[.int .i64 0, .int .i64 0] 39)) := below_new HB2.out (by omega)
    refine (HR.out _).mono ?_
    rintro e w4 ⟨rfl, hbw⟩
    have HX4 := Lib.hid (hX3.keep hbw)
    have HV4 := Lib.hid (hV3.keep hbw)
    have HB4 := Lib.hid (below_two hB3 hbw)
    have i4 : w2.heap.size < w4.heap.size := HV4.out.lt
    clear hbw x0 x1 x2 x3 x4 x5 x6 HX2 HB2 hX3 hV3 hB3
    have x0 := HX4.out.cell 0
    have x1 := HX4.out.cell 1
    have x2 := HX4.out.cell 2
    have x3 := HX4.out.cell 3
    have x4 := HX4.out.cell 4
    have x5 := HX4.out.cell 5
    have x6 := HX4.out.cell 6
    simp at x0 x1 x2 x3 x4 x5 x6
    go_wp2_with fail
    refine (HC.out _).mono ?_
    rintro e w5 ⟨rfl, hbw⟩
    have HX5 := Lib.hid (HX4.out.keep hbw)
    have HV5 := Lib.hid (HV4.out.keep hbw)
    have HB5 := Lib.hid (below_two HB4.out hbw)
    have i5 : w2.heap.size < w5.heap.size := HV5.out.lt
    clear hbw x0 x1 x2 x3 x4 x5 x6 HX4 HV4 HB4
    have x0 := HX5.out.cell 0
    have x1 := HX5.out.cell 1
    have x2 := HX5.out.cell 2
    have x3 := HX5.out.cell 3
    have x4 := HX5.out.cell 4
    have x5 := HX5.out.cell 5
    have x6 := HX5.out.cell 6
    simp at x0 x1 x2 x3 x4 x5 x6
    have y0 := HV5.out.cell 0
    have y1 := HV5.out.cell 1
    simp at y0 y1
    go_wp2_with (first | (go_at_call 9; first | ((with_reducible refine (HW1.out _).mono ?_); rintro e w' ⟨rfl, rfl⟩) | ((with_reducible refine (HW2.out _).mono ?_); rintro e w' ⟨rfl, rfl⟩)))
    go_ret
    have hq := HB5.out
    refine ⟨rfl, ?_⟩
    repeat (first | (with_reducible assumption) | (with_reducible exact Below.refl _ _) | (with_reducible refine Below.drew ?_) | (with_reducible refine below_drewNs ?_) | (with_reducible refine below_set ?_ (by first | omega | (simp; omega))) | (with_reducible refine below_new ?_ (by first | omega | (simp; done) | (simp; omega))))
  · have hq := hv
    unfold shR at hq
    rw [if_neg (fun h => by rw [hb1, hp1, hp2] at h; exact absurd h (by decide))] at hq
    simp at hq
    obtain ⟨⟨q1, q2⟩, q3⟩ := hq
    obtain rfl : v3 = 2 := q3.symm
    obtain rfl : v1 = 0 := q1.symm
    obtain rfl : v2 = 0 := q2.symm
    simp only [show eif (!true) 2 = 0 from rfl] at HC HR
    clear hv hb1 hp1 hp2
    go_enter Try.func4, Try.ntmps4
    go_wp2_with fail
    have hX0 : At (w.alloc (.cells #[.int .i64 n, .int .i64 l0, .int .i64 l1, .int .i64 l2, .int .i64 s0, .int .i64 s1, .int .i64 s2] 38)) w.heap.size 38 #[.int .i64 n, .int .i64 l0, .int .i64 l1, .int .i64 l2, .int .i64 s0, .int .i64 s1, .int .i64 s2] := At.new w _ _
    have hb0 : Below w.heap.size w (w.alloc (.cells #[.int .i64 n, .int .i64 l0, .int .i64 l1, .int .i64 l2, .int .i64 s0, .int .i64 s1, .int .i64 s2] 38)) := below_new (Below.refl _ _) (Nat.le_refl _)
    refine (awake_ok _).mono ?_
    rintro e w1 ⟨rfl, hbw⟩
    have HX1 := Lib.hid (hX0.keep hbw)
    have HB1 := Lib.hid (below_two hb0 hbw)
    have i1 : w.heap.size < w1.heap.size := HX1.out.lt
    clear hX0 hb0 hbw
    have x0 := HX1.out.cell 0
    have x1 := HX1.out.cell 1
    have x2 := HX1.out.cell 2
    have x3 := HX1.out.cell 3
    have x4 := HX1.out.cell 4
    have x5 := HX1.out.cell 5
    have x6 := HX1.out.cell 6
    simp at x0 x1 x2 x3 x4 x5 x6
    go_wp2_with fail
    refine (HA.out _).mono ?_
    rintro e w2 ⟨rfl, hbw⟩
    have HX2 := Lib.hid (HX1.out.keep hbw)
    have HB2 := Lib.hid (below_two HB1.out hbw)
    have i2 : w.heap.size < w2.heap.size := HX2.out.lt
    clear hbw x0 x1 x2 x3 x4 x5 x6 HX1 HB1
    have x0 := HX2.out.cell 0
    have x1 := HX2.out.cell 1
    have x2 := HX2.out.cell 2
    have x3 := HX2.out.cell 3
    have x4 := HX2.out.cell 4
    have x5 := HX2.out.cell 5
    have x6 := HX2.out.cell 6
    simp at x0 x1 x2 x3 x4 x5 x6
    go_wp2_with fail
    have hV3 : At (w2.alloc (.cells #[.int .i64 0, .int .i64 0] 39)) w2.heap.size 39 #[.int .i64 0, .int .i64 0] := At.new w2 _ _
    have hX3 := HX2.out.alloc (.cells #[.int .i64 0, .int .i64 0] 39)
    have hB3 : Below w.heap.size w (w2.alloc (.cells #[.int .i64 0, .int .i64 0] 39)) := below_new HB2.out (by omega)
    refine (HR.out _).mono ?_
    rintro e w4 ⟨rfl, hbw⟩
    have HX4 := Lib.hid (hX3.keep hbw)
    have HV4 := Lib.hid (hV3.keep hbw)
    have HB4 := Lib.hid (below_two hB3 hbw)
    have i4 : w2.heap.size < w4.heap.size := HV4.out.lt
    clear hbw x0 x1 x2 x3 x4 x5 x6 HX2 HB2 hX3 hV3 hB3
    have x0 := HX4.out.cell 0
    have x1 := HX4.out.cell 1
    have x2 := HX4.out.cell 2
    have x3 := HX4.out.cell 3
    have x4 := HX4.out.cell 4
    have x5 := HX4.out.cell 5
    have x6 := HX4.out.cell 6
    simp at x0 x1 x2 x3 x4 x5 x6
    go_wp2_with fail
    refine (HC.out _).mono ?_
    rintro e w5 ⟨rfl, hbw⟩
    have HX5 := Lib.hid (HX4.out.keep hbw)
    have HV5 := Lib.hid (HV4.out.keep hbw)
    have HB5 := Lib.hid (below_two HB4.out hbw)
    have i5 : w2.heap.size < w5.heap.size := HV5.out.lt
    clear hbw x0 x1 x2 x3 x4 x5 x6 HX4 HV4 HB4
    have x0 := HX5.out.cell 0
    have x1 := HX5.out.cell 1
    have x2 := HX5.out.cell 2
    have x3 := HX5.out.cell 3
    have x4 := HX5.out.cell 4
    have x5 := HX5.out.cell 5
    have x6 := HX5.out.cell 6
    simp at x0 x1 x2 x3 x4 x5 x6
    have y0 := HV5.out.cell 0
    have y1 := HV5.out.cell 1
    simp at y0 y1
    go_wp2_with (first | (go_at_call 9; first | ((with_reducible refine (HW1.out _).mono ?_); rintro e w' ⟨rfl, rfl⟩) | ((with_reducible refine (HW2.out _).mono ?_); rintro e w' ⟨rfl, rfl⟩)))
    go_ret
    have hq := HB5.out
    refine ⟨rfl, ?_⟩
    repeat (first | (with_reducible assumption) | (with_reducible exact Below.refl _ _) | (with_reducible refine Below.drew ?_) | (with_reducible refine below_drewNs ?_) | (with_reducible refine below_set ?_ (by first | omega | (simp; omega))) | (with_reducible refine below_new ?_ (by first | omega | (simp; done) | (simp; omega))))
  · have hq := hv
    unfold shR at hq
    rw [if_neg (fun h => by rw [hb1, hp1, hp2] at h; exact absurd h (by decide))] at hq
    simp at hq
    obtain ⟨⟨q1, q2⟩, q3⟩ := hq
    obtain rfl : v3 = 2 := q3.symm
    obtain rfl : v1 = 0 := q1.symm
    obtain rfl : v2 = 0 := q2.symm
    simp only [show eif (!true) 2 = 0 from rfl] at HC HR
    clear hv hb1 hp1 hp2
    go_enter Try.func4, Try.ntmps4
    go_wp2_with fail
    have hX0 : At (w.alloc (.cells #[.int .i64 n, .int .i64 l0, .int .i64 l1, .int .i64 l2, .int .i64 s0, .int .i64 s1, .int .i64 s2] 38)) w.heap.size 38 #[.int .i64 n, .int .i64 l0, .int .i64 l1, .int .i64 l2, .int .i64 s0, .int .i64 s1, .int .i64 s2] := At.new w _ _
    have hb0 : Below w.heap.size w (w.alloc (.cells #[.int .i64 n, .int .i64 l0, .int .i64 l1, .int .i64 l2, .int .i64 s0, .int .i64 s1, .int .i64 s2] 38)) := below_new (Below.refl _ _) (Nat.le_refl _)
    refine (awake_ok _).mono ?_
    rintro e w1 ⟨rfl, hbw⟩
    have HX1 := Lib.hid (hX0.keep hbw)
    have HB1 := Lib.hid (below_two hb0 hbw)
    have i1 : w.heap.size < w1.heap.size := HX1.out.lt
    clear hX0 hb0 hbw
    have x0 := HX1.out.cell 0
    have x1 := HX1.out.cell 1
    have x2 := HX1.out.cell 2
    have x3 := HX1.out.cell 3
    have x4 := HX1.out.cell 4
    have x5 := HX1.out.cell 5
    have x6 := HX1.out.cell 6
    simp at x0 x1 x2 x3 x4 x5 x6
    go_wp2_with fail
    refine (HA.out _).mono ?_
    rintro e w2 ⟨rfl, hbw⟩
    have HX2 := Lib.hid (HX1.out.keep hbw)
    have HB2 := Lib.hid (below_two HB1.out hbw)
    have i2 : w.heap.size < w2.heap.size := HX2.out.lt
    clear hbw x0 x1 x2 x3 x4 x5 x6 HX1 HB1
    have x0 := HX2.out.cell 0
    have x1 := HX2.out.cell 1
    have x2 := HX2.out.cell 2
    have x3 := HX2.out.cell 3
    have x4 := HX2.out.cell 4
    have x5 := HX2.out.cell 5
    have x6 := HX2.out.cell 6
    simp at x0 x1 x2 x3 x4 x5 x6
    go_wp2_with fail
    have hV3 : At (w2.alloc (.cells #[.int .i64 0, .int .i64 0] 39)) w2.heap.size 39 #[.int .i64 0, .int .i64 0] := At.new w2 _ _
    have hX3 := HX2.out.alloc (.cells #[.int .i64 0, .int .i64 0] 39)
    have hB3 : Below w.heap.size w (w2.alloc (.cells #[.int .i64 0, .int .i64 0] 39)) := below_new HB2.out (by omega)
    refine (HR.out _).mono ?_
    rintro e w4 ⟨rfl, hbw⟩
    have HX4 := Lib.hid (hX3.keep hbw)
    have HV4 := Lib.hid (hV3.keep hbw)
    have HB4 := Lib.hid (below_two hB3 hbw)
    have i4 : w2.heap.size < w4.heap.size := HV4.out.lt
    clear hbw x0 x1 x2 x3 x4 x5 x6 HX2 HB2 hX3 hV3 hB3
    have x0 := HX4.out.cell 0
    have x1 := HX4.out.cell 1
    have x2 := HX4.out.cell 2
    have x3 := HX4.out.cell 3
    have x4 := HX4.out.cell 4
    have x5 := HX4.out.cell 5
    have x6 := HX4.out.cell 6
    simp at x0 x1 x2 x3 x4 x5 x6
    go_wp2_with fail
    refine (HC.out _).mono ?_
    rintro e w5 ⟨rfl, hbw⟩
    have HX5 := Lib.hid (HX4.out.keep hbw)
    have HV5 := Lib.hid (HV4.out.keep hbw)
    have HB5 := Lib.hid (below_two HB4.out hbw)
    have i5 : w2.heap.size < w5.heap.size := HV5.out.lt
    clear hbw x0 x1 x2 x3 x4 x5 x6 HX4 HV4 HB4
    have x0 := HX5.out.cell 0
    have x1 := HX5.out.cell 1
    have x2 := HX5.out.cell 2
    have x3 := HX5.out.cell 3
    have x4 := HX5.out.cell 4
    have x5 := HX5.out.cell 5
    have x6 := HX5.out.cell 6
    simp at x0 x1 x2 x3 x4 x5 x6
    have y0 := HV5.out.cell 0
    have y1 := HV5.out.cell 1
    simp at y0 y1
    go_wp2_with (first | (go_at_call 9; first | ((with_reducible refine (HW1.out _).mono ?_); rintro e w' ⟨rfl, rfl⟩) | ((with_reducible refine (HW2.out _).mono ?_); rintro e w' ⟨rfl, rfl⟩)))
    go_ret
    have hq := HB5.out
    refine ⟨rfl, ?_⟩
    repeat (first | (with_reducible assumption) | (with_reducible exact Below.refl _ _) | (with_reducible refine Below.drew ?_) | (with_reducible refine below_drewNs ?_) | (with_reducible refine below_set ?_ (by first | omega | (simp; omega))) | (with_reducible refine below_new ?_ (by first | omega | (simp; done) | (simp; omega))))
  · have hq := hv
    unfold shR at hq
    rw [if_neg (fun h => by rw [hb1, hp1, hp2] at h; exact absurd h (by decide))] at hq
    simp at hq
    obtain ⟨⟨q1, q2⟩, q3⟩ := hq
    obtain rfl : v3 = 2 := q3.symm
    obtain rfl : v1 = 0 := q1.symm
    obtain rfl : v2 = 0 := q2.symm
    simp only [show eif (!true) 2 = 0 from rfl] at HC HR
    clear hv hb1 hp1 hp2
    go_enter Try.func4, Try.ntmps4
    go_wp2_with fail
    have hX0 : At (w.alloc (.cells #[.int .i64 n, .int .i64 l0, .int .i64 l1, .int .i64 l2, .int .i64 s0, .int .i64 s1, .int .i64 s2] 38)) w.heap.size 38 #[.int .i64 n, .int .i64 l0, .int .i64 l1, .int .i64 l2, .int .i64 s0, .int .i64 s1, .int .i64 s2] := At.new w _ _
    have hb0 : Below w.heap.size w (w.alloc (.cells #[.int .i64 n, .int .i64 l0, .int .i64 l1, .int .i64 l2, .int .i64 s0, .int .i64 s1, .int .i64 s2] 38)) := below_new (Below.refl _ _) (Nat.le_refl _)
    refine (awake_ok _).mono ?_
    rintro e w1 ⟨rfl, hbw⟩
    have HX1 := Lib.hid (hX0.keep hbw)
    have HB1 := Lib.hid (below_two hb0 hbw)
    have i1 : w.heap.size < w1.heap.size := HX1.out.lt
    clear hX0 hb0 hbw
    have x0 := HX1.out.cell 0
    have x1 := HX1.out.cell 1
    have x2 := HX1.out.cell 2
    have x3 := HX1.out.cell 3
    have x4 := HX1.out.cell 4
    have x5 := HX1.out.cell 5
    have x6 := HX1.out.cell 6
    simp at x0 x1 x2 x3 x4 x5 x6
    go_wp2_with fail
    refine (HA.out _).mono ?_
    rintro e w2 ⟨rfl, hbw⟩
    have HX2 := Lib.hid (HX1.out.keep hbw)
    have HB2 := Lib.hid (below_two HB1.out hbw)
    have i2 : w.heap.size < w2.heap.size := HX2.out.lt
    clear hbw x0 x1 x2 x3 x4 x5 x6 HX1 HB1
    have x0 := HX2.out.cell 0
    have x1 := HX2.out.cell 1
    have x2 := HX2.out.cell 2
    have x3 := HX2.out.cell 3
    have x4 := HX2.out.cell 4
    have x5 := HX2.out.cell 5
    have x6 := HX2.out.cell 6
    simp at x0 x1 x2 x3 x4 x5 x6
    go_wp2_with fail
    have hV3 : At (w2.alloc (.cells #[.int .i64 0, .int .i64 0] 39)) w2.heap.size 39 #[.int .i64 0, .int .i64 0] := At.new w2 _ _
    have hX3 := HX2.out.alloc (.cells #[.int .i64 0, .int .i64 0] 39)
    have hB3 : Below w.heap.size w (w2.alloc (.cells #[.int .i64 0, .int .i64 0] 39)) := below_new HB2.out (by omega)
    refine (HR.out _).mono ?_
    rintro e w4 ⟨rfl, hbw⟩
    have HX4 := Lib.hid (hX3.keep hbw)
    have HV4 := Lib.hid (hV3.keep hbw)
    have HB4 := Lib.hid (below_two hB3 hbw)
    have i4 : w2.heap.size < w4.heap.size := HV4.out.lt
    clear hbw x0 x1 x2 x3 x4 x5 x6 HX2 HB2 hX3 hV3 hB3
    have x0 := HX4.out.cell 0
    have x1 := HX4.out.cell 1
    have x2 := HX4.out.cell 2
    have x3 := HX4.out.cell 3
    have x4 := HX4.out.cell 4
    have x5 := HX4.out.cell 5
    have x6 := HX4.out.cell 6
    simp at x0 x1 x2 x3 x4 x5 x6
    go_wp2_with fail
    refine (HC.out _).mono ?_
    rintro e w5 ⟨rfl, hbw⟩
    have HX5 := Lib.hid (HX4.out.keep hbw)
    have HV5 := Lib.hid (HV4.out.keep hbw)
    have HB5 := Lib.hid (below_two HB4.out hbw)
    have i5 : w2.heap.size < w5.heap.size := HV5.out.lt
    clear hbw x0 x1 x2 x3 x4 x5 x6 HX4 HV4 HB4
    have x0 := HX5.out.cell 0
    have x1 := HX5.out.cell 1
    have x2 := HX5.out.cell 2
    have x3 := HX5.out.cell 3
    have x4 := HX5.out.cell 4
    have x5 := HX5.out.cell 5
    have x6 := HX5.out.cell 6
    simp at x0 x1 x2 x3 x4 x5 x6
    have y0 := HV5.out.cell 0
    have y1 := HV5.out.cell 1
    simp at y0 y1
    go_wp2_with (first | (go_at_call 9; first | ((with_reducible refine (HW1.out _).mono ?_); rintro e w' ⟨rfl, rfl⟩) | ((with_reducible refine (HW2.out _).mono ?_); rintro e w' ⟨rfl, rfl⟩)))
    go_ret
    have hq := HB5.out
    refine ⟨rfl, ?_⟩
    repeat (first | (with_reducible assumption) | (with_reducible exact Below.refl _ _) | (with_reducible refine Below.drew ?_) | (with_reducible refine below_drewNs ?_) | (with_reducible refine below_set ?_ (by first | omega | (simp; omega))) | (with_reducible refine below_new ?_ (by first | omega | (simp; done) | (simp; omega))))
  · have hq := hv
    unfold shR at hq
    rw [if_pos ⟨hb1, by rw [hp1, hp2]; rfl⟩] at hq
    simp at hq
    obtain ⟨⟨q1, q2⟩, q3⟩ := hq
    obtain ⟨hn, hL, hS⟩ := rk_true hb1
    have hl := inB_iff.1 hp1
    have hs := inB_iff.1 hp2
    have HF : Hid (∀ W : World, Calls Try.prog 15 #[.agg #[.int .i64 n, .int .i64 l0, .int .i64 l1, .int .i64 l2, .int .i64 s0, .int .i64 s1, .int .i64 s2], .int .i64 l, .int .i64 s] W fun e w' => e = .returned (.agg #[.int .i64 v1, .int .i64 v2]) ∧ Below W.heap.size W w') := fun W => by rw [← q1, ← q2]; exact refShiftAt_any _ _ _ _ _ _ _ _ _ W hn hL hS hl hs
    obtain rfl : v3 = 0 := q3.symm
    clear hn hL hS hl hs q1 q2
    simp only [show eif (!true) 2 = 0 from rfl] at HC HR
    clear hv hb1 hp1 hp2
    go_enter Try.func4, Try.ntmps4
    go_wp2_with fail
    have hX0 : At (w.alloc (.cells #[.int .i64 n, .int .i64 l0, .int .i64 l1, .int .i64 l2, .int .i64 s0, .int .i64 s1, .int .i64 s2] 38)) w.heap.size 38 #[.int .i64 n, .int .i64 l0, .int .i64 l1, .int .i64 l2, .int .i64 s0, .int .i64 s1, .int .i64 s2] := At.new w _ _
    have hb0 : Below w.heap.size w (w.alloc (.cells #[.int .i64 n, .int .i64 l0, .int .i64 l1, .int .i64 l2, .int .i64 s0, .int .i64 s1, .int .i64 s2] 38)) := below_new (Below.refl _ _) (Nat.le_refl _)
    refine (awake_ok _).mono ?_
    rintro e w1 ⟨rfl, hbw⟩
    have HX1 := Lib.hid (hX0.keep hbw)
    have HB1 := Lib.hid (below_two hb0 hbw)
    have i1 : w.heap.size < w1.heap.size := HX1.out.lt
    clear hX0 hb0 hbw
    have x0 := HX1.out.cell 0
    have x1 := HX1.out.cell 1
    have x2 := HX1.out.cell 2
    have x3 := HX1.out.cell 3
    have x4 := HX1.out.cell 4
    have x5 := HX1.out.cell 5
    have x6 := HX1.out.cell 6
    simp at x0 x1 x2 x3 x4 x5 x6
    go_wp2_with fail
    refine (HA.out _).mono ?_
    rintro e w2 ⟨rfl, hbw⟩
    have HX2 := Lib.hid (HX1.out.keep hbw)
    have HB2 := Lib.hid (below_two HB1.out hbw)
    have i2 : w.heap.size < w2.heap.size := HX2.out.lt
    clear hbw x0 x1 x2 x3 x4 x5 x6 HX1 HB1
    have x0 := HX2.out.cell 0
    have x1 := HX2.out.cell 1
    have x2 := HX2.out.cell 2
    have x3 := HX2.out.cell 3
    have x4 := HX2.out.cell 4
    have x5 := HX2.out.cell 5
    have x6 := HX2.out.cell 6
    simp at x0 x1 x2 x3 x4 x5 x6
    go_wp2_with fail
    have hV3 : At (w2.alloc (.cells #[.int .i64 v1, .int .i64 v2] 39)) w2.heap.size 39 #[.int .i64 v1, .int .i64 v2] := At.new w2 _ _
    have hX3 := HX2.out.alloc (.cells #[.int .i64 v1, .int .i64 v2] 39)
    have hB3 : Below w.heap.size w (w2.alloc (.cells #[.int .i64 v1, .int .i64 v2] 39)) := below_new HB2.out (by omega)
    refine (HR.out _).mono ?_
    rintro e w4 ⟨rfl, hbw⟩
    have HX4 := Lib.hid (hX3.keep hbw)
    have HV4 := Lib.hid (hV3.keep hbw)
    have HB4 := Lib.hid (below_two hB3 hbw)
    have i4 : w2.heap.size < w4.heap.size := HV4.out.lt
    clear hbw x0 x1 x2 x3 x4 x5 x6 HX2 HB2 hX3 hV3 hB3
    have x0 := HX4.out.cell 0
    have x1 := HX4.out.cell 1
    have x2 := HX4.out.cell 2
    have x3 := HX4.out.cell 3
    have x4 := HX4.out.cell 4
    have x5 := HX4.out.cell 5
    have x6 := HX4.out.cell 6
    simp at x0 x1 x2 x3 x4 x5 x6
    go_wp2_with fail
    refine (HC.out _).mono ?_
    rintro e w5 ⟨rfl, hbw⟩
    have HX5 := Lib.hid (HX4.out.keep hbw)
    have HV5 := Lib.hid (HV4.out.keep hbw)
    have HB5 := Lib.hid (below_two HB4.out hbw)
    have i5 : w2.heap.size < w5.heap.size := HV5.out.lt
    clear hbw x0 x1 x2 x3 x4 x5 x6 HX4 HV4 HB4
    have x0 := HX5.out.cell 0
    have x1 := HX5.out.cell 1
    have x2 := HX5.out.cell 2
    have x3 := HX5.out.cell 3
    have x4 := HX5.out.cell 4
    have x5 := HX5.out.cell 5
    have x6 := HX5.out.cell 6
    simp at x0 x1 x2 x3 x4 x5 x6
    have y0 := HV5.out.cell 0
    have y1 := HV5.out.cell 1
    simp at y0 y1
    go_wp2_with (first | (go_at_call 9; first | ((with_reducible refine (HW1.out _).mono ?_); rintro e w' ⟨rfl, rfl⟩) | ((with_reducible refine (HW2.out _).mono ?_); rintro e w' ⟨rfl, rfl⟩)))
    have HFC : Hid (∀ W : World, Below w5.heap.size w5 W → Calls Try.prog 15 #[.agg #[.int .i64 n, .int .i64 l0, .int .i64 l1, .int .i64 l2, .int .i64 s0, .int .i64 s1, .int .i64 s2], .int .i64 l, .int .i64 s] W fun e w' => e = .returned (.agg #[.int .i64 v1, .int .i64 v2]) ∧ Below w5.heap.size w5 w' ∧ w'.cell? ⟨w.heap.size, 0, none⟩ = some (.int .i64 n) ∧ w'.cell? ⟨w.heap.size, 1, none⟩ = some (.int .i64 l0) ∧ w'.cell? ⟨w.heap.size, 2, none⟩ = some (.int .i64 l1) ∧ w'.cell? ⟨w.heap.size, 3, none⟩ = some (.int .i64 l2) ∧ w'.cell? ⟨w.heap.size, 4, none⟩ = some (.int .i64 s0) ∧ w'.cell? ⟨w.heap.size, 5, none⟩ = some (.int .i64 s1) ∧ w'.cell? ⟨w.heap.size, 6, none⟩ = some (.int .i64 s2) ∧ w'.cell? ⟨w2.heap.size, 0, none⟩ = some (.int .i64 v1) ∧ w'.cell? ⟨w2.heap.size, 1, none⟩ = some (.int .i64 v2)) := fun W hW => (HF.out W).mono fun e w' ⟨he, hb⟩ => by
      have hB := hW.trans (hb.mono hW.size)
      have q := HX5.out.keep hB
      have r := HV5.out.keep hB
      exact ⟨he, hB, q.cell 0, q.cell 1, q.cell 2, q.cell 3, q.cell 4, q.cell 5, q.cell 6, r.cell 0, r.cell 1⟩
    go_region_held3 (fun w' => w'.cell? ⟨w.heap.size, 0, none⟩ = some (.int .i64 n) ∧ w'.cell? ⟨w.heap.size, 1, none⟩ = some (.int .i64 l0) ∧ w'.cell? ⟨w.heap.size, 2, none⟩ = some (.int .i64 l1) ∧ w'.cell? ⟨w.heap.size, 3, none⟩ = some (.int .i64 l2) ∧ w'.cell? ⟨w.heap.size, 4, none⟩ = some (.int .i64 s0) ∧ w'.cell? ⟨w.heap.size, 5, none⟩ = some (.int .i64 s1) ∧ w'.cell? ⟨w.heap.size, 6, none⟩ = some (.int .i64 s2) ∧ w'.cell? ⟨w2.heap.size, 0, none⟩ = some (.int .i64 v1) ∧ w'.cell? ⟨w2.heap.size, 1, none⟩ = some (.int .i64 v2)) (go_keep)
      (first | (go_at_call 15; (with_reducible refine (HFC.out _ ?_).mono ?_); (repeat (first | assumption | (with_reducible exact Below.refl _ _) | (with_reducible refine Below.drew ?_) | (with_reducible refine below_drewNs ?_))); rintro e w6 ⟨rfl, hb6, xa0, xa1, xa2, xa3, xa4, xa5, xa6, ya0, ya1⟩))
    all_goals
      have hq := below_two HB5.out hb6
      go_wp2
      go_ret
      refine ⟨rfl, ?_⟩
      repeat (first | (with_reducible assumption) | (with_reducible exact Below.refl _ _) | (with_reducible refine Below.drew ?_) | (with_reducible refine below_drewNs ?_) | (with_reducible refine below_set ?_ (by first | omega | (simp; omega))) | (with_reducible refine below_new ?_ (by first | omega | (simp; done) | (simp; omega))))
end Go.Proofs.Ytoaecfblpkgehaa
