/- Match: the numerators of a shift at a place. -/
import Derived.Test.YtoaecfblpkgehaaMsb
namespace Go.Proofs.Ytoaecfblpkgehaa
open Go.RowKit
set_option maxHeartbeats 1600000
set_option maxRecDepth 100000

/-- the first k terms' sum -/
def ps (a b c : Int) : Nat → Int
  | 0 => 0
  | 1 => a
  | 2 => a + b
  | _ => a + b + c

theorem numerators_any (n l0 l1 l2 s0 s1 s2 l s : Int) (w : World) (hL : Tm l0 l1 l2) (hS : Tm s0 s1 s2) (hl : 0 ≤ l ∧ l ≤ 63) (hs : 0 ≤ s ∧ s ≤ 63) :
    Calls Try.prog 62 #[.agg #[.int .i64 n, .int .i64 l0, .int .i64 l1, .int .i64 l2, .int .i64 s0, .int .i64 s1, .int .i64 s2], .int .i64 l, .int .i64 s] w fun e w' => e = .returned (.agg #[.int .i64 (tv l0 l1 l2 l s), .int .i64 (tv s0 s1 s2 l s)]) ∧ Below w.heap.size w w' := by
  obtain ⟨o, ho⟩ : ∃ o : Int, o = 1 := ⟨_, rfl⟩
  have HF : Hid (∀ W : World, Calls Try.prog 77 #[.int .i64 l, .int .i64 s] W fun e w' => e = .returned (.agg #[.int .i64 o, .int .i64 l, .int .i64 s]) ∧ Below W.heap.size W w') := fun W => by rw [ho]; exact factorsAt_any _ _ W
  obtain ⟨a1, a2, a3⟩ := hL
  obtain ⟨b1, b2, b3⟩ := hS
  have ma1 := mul_small a2 hl
  have ma2 := mul_small a3 hs
  have mb1 := mul_small b2 hl
  have mb2 := mul_small b3 hs
  obtain ⟨p0, hp0⟩ : ∃ q, q = l0 * o := ⟨_, rfl⟩
  obtain ⟨p1, hp1⟩ : ∃ q, q = l1 * l := ⟨_, rfl⟩
  obtain ⟨p2, hp2⟩ : ∃ q, q = l2 * s := ⟨_, rfl⟩
  obtain ⟨q0, hq0⟩ : ∃ q, q = s0 * o := ⟨_, rfl⟩
  obtain ⟨q1, hq1⟩ : ∃ q, q = s1 * l := ⟨_, rfl⟩
  obtain ⟨q2, hq2⟩ : ∃ q, q = s2 * s := ⟨_, rfl⟩
  have e1 : tv l0 l1 l2 l s = p0 + p1 + p2 := by rw [hp0, hp1, hp2, ho, Int.mul_one]; rfl
  have e2 : tv s0 s1 s2 l s = q0 + q1 + q2 := by rw [hq0, hq1, hq2, ho, Int.mul_one]; rfl
  have hp0' : p0 = l0 := by rw [hp0, ho, Int.mul_one]
  have hq0' : q0 = s0 := by rw [hq0, ho, Int.mul_one]
  rw [← hp1] at ma1
  rw [← hp2] at ma2
  have wp0 : IntKind.i64.wrap (l0 * o) = p0 := by rw [← hp0]; exact IntWalk.i64_in _ (by omega)
  have wp1 : IntKind.i64.wrap (l1 * l) = p1 := by rw [← hp1]; exact IntWalk.i64_in _ (by omega)
  have wp2 : IntKind.i64.wrap (l2 * s) = p2 := by rw [← hp2]; exact IntWalk.i64_in _ (by omega)
  have vp0 : IntKind.i64.wrap (0 + p0) = p0 := by rw [Int.zero_add]; exact IntWalk.i64_in _ (by omega)
  have up0 : IntKind.i64.wrap p0 = p0 := IntWalk.i64_in _ (by omega)
  have vp1 : IntKind.i64.wrap (p0 + p1) = p0 + p1 := IntWalk.i64_in _ (by omega)
  have vp2 : IntKind.i64.wrap (p0 + p1 + p2) = p0 + p1 + p2 := IntWalk.i64_in _ (by omega)
  rw [← hq1] at mb1
  rw [← hq2] at mb2
  have wq0 : IntKind.i64.wrap (s0 * o) = q0 := by rw [← hq0]; exact IntWalk.i64_in _ (by omega)
  have wq1 : IntKind.i64.wrap (s1 * l) = q1 := by rw [← hq1]; exact IntWalk.i64_in _ (by omega)
  have wq2 : IntKind.i64.wrap (s2 * s) = q2 := by rw [← hq2]; exact IntWalk.i64_in _ (by omega)
  have vq0 : IntKind.i64.wrap (0 + q0) = q0 := by rw [Int.zero_add]; exact IntWalk.i64_in _ (by omega)
  have uq0 : IntKind.i64.wrap q0 = q0 := IntWalk.i64_in _ (by omega)
  have vq1 : IntKind.i64.wrap (q0 + q1) = q0 + q1 := IntWalk.i64_in _ (by omega)
  have vq2 : IntKind.i64.wrap (q0 + q1 + q2) = q0 + q1 + q2 := IntWalk.i64_in _ (by omega)
  have E := Lib.hid (And.intro e1 e2)
  clear a1 a2 a3 b1 b2 b3 ma1 ma2 mb1 mb2 e1 e2 hp0' hq0' hp0 hp1 hp2 hq0 hq1 hq2 ho hl hs
  go_enter Try.func62, Try.ntmps62
  go_wp2_with fail
  have hX0 : At (((w.alloc (.cells #[.int .i64 n, .int .i64 l0, .int .i64 l1, .int .i64 l2, .int .i64 s0, .int .i64 s1, .int .i64 s2] 84)).alloc (.cells #[.int .i64 0, .int .i64 0] 39)).alloc (.cells #[.int .i64 0, .int .i64 0] 39)) w.heap.size 84 #[.int .i64 n, .int .i64 l0, .int .i64 l1, .int .i64 l2, .int .i64 s0, .int .i64 s1, .int .i64 s2] := ((At.new w _ _).alloc _).alloc _
  have hR0 : At (((w.alloc (.cells #[.int .i64 n, .int .i64 l0, .int .i64 l1, .int .i64 l2, .int .i64 s0, .int .i64 s1, .int .i64 s2] 84)).alloc (.cells #[.int .i64 0, .int .i64 0] 39)).alloc (.cells #[.int .i64 0, .int .i64 0] 39)) (w.heap.size + 1) 39 #[.int .i64 0, .int .i64 0] := (at_new (by simp)).alloc _
  have hV0 : At (((w.alloc (.cells #[.int .i64 n, .int .i64 l0, .int .i64 l1, .int .i64 l2, .int .i64 s0, .int .i64 s1, .int .i64 s2] 84)).alloc (.cells #[.int .i64 0, .int .i64 0] 39)).alloc (.cells #[.int .i64 0, .int .i64 0] 39)) (w.heap.size + 1 + 1) 39 #[.int .i64 0, .int .i64 0] := at_new (by simp)
  have hb0 : Below w.heap.size w (((w.alloc (.cells #[.int .i64 n, .int .i64 l0, .int .i64 l1, .int .i64 l2, .int .i64 s0, .int .i64 s1, .int .i64 s2] 84)).alloc (.cells #[.int .i64 0, .int .i64 0] 39)).alloc (.cells #[.int .i64 0, .int .i64 0] 39)) := by
    repeat (first | (with_reducible exact Below.refl _ _) | (with_reducible refine below_new ?_ (by first | omega | (simp; done) | (simp; omega))))
  refine (HF.out _).mono ?_
  rintro e w1 ⟨rfl, hb1⟩
  have HX1 := Lib.hid (hX0.keep hb1)
  have HR1 := Lib.hid (hR0.keep hb1)
  have HV1 := Lib.hid (hV0.keep hb1)
  have HB1 := Lib.hid (below_two hb0 hb1)
  clear hX0 hR0 hV0 hb0 hb1
  go_wp2_with fail
  go_loopw [13] (fun i wx => ∃ k : Nat, k ≤ 3 ∧ i = .int .i64 (k : Int) ∧ At wx w.heap.size 84 #[.int .i64 n, .int .i64 l0, .int .i64 l1, .int .i64 l2, .int .i64 s0, .int .i64 s1, .int .i64 s2] ∧ At wx (w.heap.size + 1) 39 #[.int .i64 0, .int .i64 0] ∧ At wx (w.heap.size + 1 + 1) 39 #[.int .i64 (ps p0 p1 p2 k), .int .i64 (ps q0 q1 q2 k)] ∧ Below w.heap.size w wx) (fun i _ => 3 - (intOf i).toNat)
  case atStart => exact ⟨0, by omega, rfl, HX1.out, HR1.out, HV1.out, HB1.out⟩
  case round =>
    clear HX1 HR1 HV1 HB1
    obtain ⟨k, hk, rfl, hX, hR, hV, hB⟩ := hrel
    obtain ⟨w7, hw7⟩ : ∃ q, q = wr := ⟨_, rfl⟩
    rw [← hw7] at hX hR hV hB ⊢
    clear hw7
    have HX := Lib.hid hX
    have HR := Lib.hid hR
    have HB := Lib.hid hB
    have i1 : w.heap.size < w7.heap.size := hX.lt
    have i2 : w.heap.size + 1 < w7.heap.size := hR.lt
    have i3 : w.heap.size + 1 + 1 < w7.heap.size := hV.lt
    by_cases hk3 : k < 3
    · have h3 : k = 0 ∨ k = 1 ∨ k = 2 := by omega
      clear hX hR hB
      rcases h3 with rfl | rfl | rfl
      · have hV : At w7 (w.heap.size + 1 + 1) 39 #[.int .i64 (0), .int .i64 (0)] := hV
        have x1 := HX.out.cell 1
        have x2 := hV.cell 0
        have z2 := hV.free 0
        simp at x1 x2
        have HV := Lib.hid hV
        clear hV
        go_wp2_with fail
        refine wp_region_still_tail 11 (by kernel_rfl) (by kernel_rfl) ?_
        simp only [List.take_succ_cons, List.take_zero, List.drop_succ_cons, List.drop_zero]
        repeat still_step
        try refine wpStill_nil ?_
        change wpList _ _ _ _ _ w7.drew
        have hX8 : At w7.drew w.heap.size 84 #[.int .i64 n, .int .i64 l0, .int .i64 l1, .int .i64 l2, .int .i64 s0, .int .i64 s1, .int .i64 s2] := HX.out
        have hR8 : At w7.drew (w.heap.size + 1) 39 #[.int .i64 0, .int .i64 0] := HR.out
        have hV8 : At w7.drew (w.heap.size + 1 + 1) 39 #[.int .i64 (0), .int .i64 (0)] := HV.out
        have hB8 : Below w.heap.size w w7.drew := HB.out.drew
        have i4 : w7.drew.heap.size = w7.heap.size := rfl
        generalize hwz : w7.drew = w8 at hX8 hR8 hV8 hB8 i4 ⊢
        clear hwz x1 x2 z2 HX HR HV HB
        have x2 := hV8.cell 0
        have z2 := hV8.free 0
        simp at x2
        have HX8 := Lib.hid hX8
        have HR8 := Lib.hid hR8
        have HV8 := Lib.hid hV8
        have HB8 := Lib.hid hB8
        clear hX8 hR8 hV8 hB8
        go_wp2_with fail
        have hX9 : At (w8.setCell ⟨w.heap.size + 1 + 1, 0, none⟩ (.int .i64 (p0))) w.heap.size 84 #[.int .i64 n, .int .i64 l0, .int .i64 l1, .int .i64 l2, .int .i64 s0, .int .i64 s1, .int .i64 s2] := HX8.out.far (by first | (simp; done) | (simp; omega)) _
        have hR9 : At (w8.setCell ⟨w.heap.size + 1 + 1, 0, none⟩ (.int .i64 (p0))) (w.heap.size + 1) 39 #[.int .i64 0, .int .i64 0] := HR8.out.far (by first | (simp; done) | (simp; omega)) _
        have hV9 : At (w8.setCell ⟨w.heap.size + 1 + 1, 0, none⟩ (.int .i64 (p0))) (w.heap.size + 1 + 1) 39 #[.int .i64 (p0), .int .i64 (0)] := HV8.out.put 0 _
        have hB9 : Below w.heap.size w (w8.setCell ⟨w.heap.size + 1 + 1, 0, none⟩ (.int .i64 (p0))) := below_set HB8.out (by omega)
        have i5 : (w8.setCell ⟨w.heap.size + 1 + 1, 0, none⟩ (.int .i64 (p0))).heap.size = w8.heap.size := by simp
        generalize hwz : w8.setCell ⟨w.heap.size + 1 + 1, 0, none⟩ (.int .i64 (p0)) = w9 at hX9 hR9 hV9 hB9 i5 ⊢
        clear hwz x2 z2 HX8 HR8 HV8 HB8
        have x1 := hX9.cell 4
        have x2 := hV9.cell 1
        have z2 := hV9.free 1
        simp at x1 x2
        have HX9 := Lib.hid hX9
        have HR9 := Lib.hid hR9
        have HV9 := Lib.hid hV9
        have HB9 := Lib.hid hB9
        clear hX9 hR9 hV9 hB9
        refine wp_region_still_tail 11 (by kernel_rfl) (by kernel_rfl) ?_
        simp only [List.take_succ_cons, List.take_zero, List.drop_succ_cons, List.drop_zero]
        repeat still_step
        try refine wpStill_nil ?_
        change wpList _ _ _ _ _ w9.drew
        have hX8 : At w9.drew w.heap.size 84 #[.int .i64 n, .int .i64 l0, .int .i64 l1, .int .i64 l2, .int .i64 s0, .int .i64 s1, .int .i64 s2] := HX9.out
        have hR8 : At w9.drew (w.heap.size + 1) 39 #[.int .i64 0, .int .i64 0] := HR9.out
        have hV8 : At w9.drew (w.heap.size + 1 + 1) 39 #[.int .i64 (p0), .int .i64 (0)] := HV9.out
        have hB8 : Below w.heap.size w w9.drew := HB9.out.drew
        have i6 : w9.drew.heap.size = w9.heap.size := rfl
        generalize hwz : w9.drew = w10 at hX8 hR8 hV8 hB8 i6 ⊢
        clear hwz x1 x2 z2 HX9 HR9 HV9 HB9
        have x2 := hV8.cell 1
        have z2 := hV8.free 1
        simp at x2
        have HX8 := Lib.hid hX8
        have HR8 := Lib.hid hR8
        have HV8 := Lib.hid hV8
        have HB8 := Lib.hid hB8
        clear hX8 hR8 hV8 hB8
        go_wp2
        go_roundw
        case rel => exact ⟨1, by omega, rfl, HX8.out.far (by first | (simp; done) | (simp; omega)) _, HR8.out.far (by first | (simp; done) | (simp; omega)) _, HV8.out.put 1 _, below_set HB8.out (by omega)⟩
        case measure => simp [intOf]
      · have hV : At w7 (w.heap.size + 1 + 1) 39 #[.int .i64 (p0), .int .i64 (q0)] := hV
        have x1 := HX.out.cell 2
        have x2 := hV.cell 0
        have z2 := hV.free 0
        simp at x1 x2
        have HV := Lib.hid hV
        clear hV
        go_wp2_with fail
        refine wp_region_still_tail 11 (by kernel_rfl) (by kernel_rfl) ?_
        simp only [List.take_succ_cons, List.take_zero, List.drop_succ_cons, List.drop_zero]
        repeat still_step
        try refine wpStill_nil ?_
        change wpList _ _ _ _ _ w7.drew
        have hX8 : At w7.drew w.heap.size 84 #[.int .i64 n, .int .i64 l0, .int .i64 l1, .int .i64 l2, .int .i64 s0, .int .i64 s1, .int .i64 s2] := HX.out
        have hR8 : At w7.drew (w.heap.size + 1) 39 #[.int .i64 0, .int .i64 0] := HR.out
        have hV8 : At w7.drew (w.heap.size + 1 + 1) 39 #[.int .i64 (p0), .int .i64 (q0)] := HV.out
        have hB8 : Below w.heap.size w w7.drew := HB.out.drew
        have i4 : w7.drew.heap.size = w7.heap.size := rfl
        generalize hwz : w7.drew = w8 at hX8 hR8 hV8 hB8 i4 ⊢
        clear hwz x1 x2 z2 HX HR HV HB
        have x2 := hV8.cell 0
        have z2 := hV8.free 0
        simp at x2
        have HX8 := Lib.hid hX8
        have HR8 := Lib.hid hR8
        have HV8 := Lib.hid hV8
        have HB8 := Lib.hid hB8
        clear hX8 hR8 hV8 hB8
        go_wp2_with fail
        have hX9 : At (w8.setCell ⟨w.heap.size + 1 + 1, 0, none⟩ (.int .i64 (p0 + p1))) w.heap.size 84 #[.int .i64 n, .int .i64 l0, .int .i64 l1, .int .i64 l2, .int .i64 s0, .int .i64 s1, .int .i64 s2] := HX8.out.far (by first | (simp; done) | (simp; omega)) _
        have hR9 : At (w8.setCell ⟨w.heap.size + 1 + 1, 0, none⟩ (.int .i64 (p0 + p1))) (w.heap.size + 1) 39 #[.int .i64 0, .int .i64 0] := HR8.out.far (by first | (simp; done) | (simp; omega)) _
        have hV9 : At (w8.setCell ⟨w.heap.size + 1 + 1, 0, none⟩ (.int .i64 (p0 + p1))) (w.heap.size + 1 + 1) 39 #[.int .i64 (p0 + p1), .int .i64 (q0)] := HV8.out.put 0 _
        have hB9 : Below w.heap.size w (w8.setCell ⟨w.heap.size + 1 + 1, 0, none⟩ (.int .i64 (p0 + p1))) := below_set HB8.out (by omega)
        have i5 : (w8.setCell ⟨w.heap.size + 1 + 1, 0, none⟩ (.int .i64 (p0 + p1))).heap.size = w8.heap.size := by simp
        generalize hwz : w8.setCell ⟨w.heap.size + 1 + 1, 0, none⟩ (.int .i64 (p0 + p1)) = w9 at hX9 hR9 hV9 hB9 i5 ⊢
        clear hwz x2 z2 HX8 HR8 HV8 HB8
        have x1 := hX9.cell 5
        have x2 := hV9.cell 1
        have z2 := hV9.free 1
        simp at x1 x2
        have HX9 := Lib.hid hX9
        have HR9 := Lib.hid hR9
        have HV9 := Lib.hid hV9
        have HB9 := Lib.hid hB9
        clear hX9 hR9 hV9 hB9
        refine wp_region_still_tail 11 (by kernel_rfl) (by kernel_rfl) ?_
        simp only [List.take_succ_cons, List.take_zero, List.drop_succ_cons, List.drop_zero]
        repeat still_step
        try refine wpStill_nil ?_
        change wpList _ _ _ _ _ w9.drew
        have hX8 : At w9.drew w.heap.size 84 #[.int .i64 n, .int .i64 l0, .int .i64 l1, .int .i64 l2, .int .i64 s0, .int .i64 s1, .int .i64 s2] := HX9.out
        have hR8 : At w9.drew (w.heap.size + 1) 39 #[.int .i64 0, .int .i64 0] := HR9.out
        have hV8 : At w9.drew (w.heap.size + 1 + 1) 39 #[.int .i64 (p0 + p1), .int .i64 (q0)] := HV9.out
        have hB8 : Below w.heap.size w w9.drew := HB9.out.drew
        have i6 : w9.drew.heap.size = w9.heap.size := rfl
        generalize hwz : w9.drew = w10 at hX8 hR8 hV8 hB8 i6 ⊢
        clear hwz x1 x2 z2 HX9 HR9 HV9 HB9
        have x2 := hV8.cell 1
        have z2 := hV8.free 1
        simp at x2
        have HX8 := Lib.hid hX8
        have HR8 := Lib.hid hR8
        have HV8 := Lib.hid hV8
        have HB8 := Lib.hid hB8
        clear hX8 hR8 hV8 hB8
        go_wp2
        go_roundw
        case rel => exact ⟨2, by omega, rfl, HX8.out.far (by first | (simp; done) | (simp; omega)) _, HR8.out.far (by first | (simp; done) | (simp; omega)) _, HV8.out.put 1 _, below_set HB8.out (by omega)⟩
        case measure => simp [intOf]
      · have hV : At w7 (w.heap.size + 1 + 1) 39 #[.int .i64 (p0 + p1), .int .i64 (q0 + q1)] := hV
        have x1 := HX.out.cell 3
        have x2 := hV.cell 0
        have z2 := hV.free 0
        simp at x1 x2
        have HV := Lib.hid hV
        clear hV
        go_wp2_with fail
        refine wp_region_still_tail 11 (by kernel_rfl) (by kernel_rfl) ?_
        simp only [List.take_succ_cons, List.take_zero, List.drop_succ_cons, List.drop_zero]
        repeat still_step
        try refine wpStill_nil ?_
        change wpList _ _ _ _ _ w7.drew
        have hX8 : At w7.drew w.heap.size 84 #[.int .i64 n, .int .i64 l0, .int .i64 l1, .int .i64 l2, .int .i64 s0, .int .i64 s1, .int .i64 s2] := HX.out
        have hR8 : At w7.drew (w.heap.size + 1) 39 #[.int .i64 0, .int .i64 0] := HR.out
        have hV8 : At w7.drew (w.heap.size + 1 + 1) 39 #[.int .i64 (p0 + p1), .int .i64 (q0 + q1)] := HV.out
        have hB8 : Below w.heap.size w w7.drew := HB.out.drew
        have i4 : w7.drew.heap.size = w7.heap.size := rfl
        generalize hwz : w7.drew = w8 at hX8 hR8 hV8 hB8 i4 ⊢
        clear hwz x1 x2 z2 HX HR HV HB
        have x2 := hV8.cell 0
        have z2 := hV8.free 0
        simp at x2
        have HX8 := Lib.hid hX8
        have HR8 := Lib.hid hR8
        have HV8 := Lib.hid hV8
        have HB8 := Lib.hid hB8
        clear hX8 hR8 hV8 hB8
        go_wp2_with fail
        have hX9 : At (w8.setCell ⟨w.heap.size + 1 + 1, 0, none⟩ (.int .i64 (p0 + p1 + p2))) w.heap.size 84 #[.int .i64 n, .int .i64 l0, .int .i64 l1, .int .i64 l2, .int .i64 s0, .int .i64 s1, .int .i64 s2] := HX8.out.far (by first | (simp; done) | (simp; omega)) _
        have hR9 : At (w8.setCell ⟨w.heap.size + 1 + 1, 0, none⟩ (.int .i64 (p0 + p1 + p2))) (w.heap.size + 1) 39 #[.int .i64 0, .int .i64 0] := HR8.out.far (by first | (simp; done) | (simp; omega)) _
        have hV9 : At (w8.setCell ⟨w.heap.size + 1 + 1, 0, none⟩ (.int .i64 (p0 + p1 + p2))) (w.heap.size + 1 + 1) 39 #[.int .i64 (p0 + p1 + p2), .int .i64 (q0 + q1)] := HV8.out.put 0 _
        have hB9 : Below w.heap.size w (w8.setCell ⟨w.heap.size + 1 + 1, 0, none⟩ (.int .i64 (p0 + p1 + p2))) := below_set HB8.out (by omega)
        have i5 : (w8.setCell ⟨w.heap.size + 1 + 1, 0, none⟩ (.int .i64 (p0 + p1 + p2))).heap.size = w8.heap.size := by simp
        generalize hwz : w8.setCell ⟨w.heap.size + 1 + 1, 0, none⟩ (.int .i64 (p0 + p1 + p2)) = w9 at hX9 hR9 hV9 hB9 i5 ⊢
        clear hwz x2 z2 HX8 HR8 HV8 HB8
        have x1 := hX9.cell 6
        have x2 := hV9.cell 1
        have z2 := hV9.free 1
        simp at x1 x2
        have HX9 := Lib.hid hX9
        have HR9 := Lib.hid hR9
        have HV9 := Lib.hid hV9
        have HB9 := Lib.hid hB9
        clear hX9 hR9 hV9 hB9
        refine wp_region_still_tail 11 (by kernel_rfl) (by kernel_rfl) ?_
        simp only [List.take_succ_cons, List.take_zero, List.drop_succ_cons, List.drop_zero]
        repeat still_step
        try refine wpStill_nil ?_
        change wpList _ _ _ _ _ w9.drew
        have hX8 : At w9.drew w.heap.size 84 #[.int .i64 n, .int .i64 l0, .int .i64 l1, .int .i64 l2, .int .i64 s0, .int .i64 s1, .int .i64 s2] := HX9.out
        have hR8 : At w9.drew (w.heap.size + 1) 39 #[.int .i64 0, .int .i64 0] := HR9.out
        have hV8 : At w9.drew (w.heap.size + 1 + 1) 39 #[.int .i64 (p0 + p1 + p2), .int .i64 (q0 + q1)] := HV9.out
        have hB8 : Below w.heap.size w w9.drew := HB9.out.drew
        have i6 : w9.drew.heap.size = w9.heap.size := rfl
        generalize hwz : w9.drew = w10 at hX8 hR8 hV8 hB8 i6 ⊢
        clear hwz x1 x2 z2 HX9 HR9 HV9 HB9
        have x2 := hV8.cell 1
        have z2 := hV8.free 1
        simp at x2
        have HX8 := Lib.hid hX8
        have HR8 := Lib.hid hR8
        have HV8 := Lib.hid hV8
        have HB8 := Lib.hid hB8
        clear hX8 hR8 hV8 hB8
        go_wp2
        go_roundw
        case rel => exact ⟨3, by omega, rfl, HX8.out.far (by first | (simp; done) | (simp; omega)) _, HR8.out.far (by first | (simp; done) | (simp; omega)) _, HV8.out.put 1 _, below_set HB8.out (by omega)⟩
        case measure => simp [intOf]
    · obtain rfl : k = 3 := by omega
      have hV : At w7 (w.heap.size + 1 + 1) 39 #[.int .i64 (p0 + p1 + p2), .int .i64 (q0 + q1 + q2)] := hV
      have x0 := hV.cell 0
      have x1 := hV.cell 1
      have y0 := hR.cell 0
      have y1 := hR.cell 1
      have z0 := hR.free 0
      have z1 := hR.free 1
      simp at x0 x1 y0 y1
      clear hV hR hX hB
      go_wp2
      obtain ⟨e1, e2⟩ := E.out
      rw [e1, e2]
      refine bodyPost_ret (v := .agg #[.int .i64 (p0 + p1 + p2), .int .i64 (q0 + q1 + q2)]) (by simp [results, Try.results62, go_sem, *]) rfl ⟨rfl, ?_⟩
      repeat (first | (with_reducible exact HB.out) | (with_reducible refine Below.drew ?_) | (with_reducible refine below_drewNs ?_) | (with_reducible refine below_set ?_ (by first | omega | (simp; omega))))
end Go.Proofs.Ytoaecfblpkgehaa
