/- Match: the sixteenths of a shift at a place. -/
import Derived.Test.YtoaecfblpkgehaaMsc
namespace Go.Proofs.Ytoaecfblpkgehaa
open Go.RowKit
set_option maxHeartbeats 1600000
set_option maxRecDepth 100000

theorem tv_small {x y z l s : Int} (h : Tm x y z) (hl : 0 ≤ l ∧ l ≤ 63) (hs : 0 ≤ s ∧ s ≤ 63) : -127000000000000000 ≤ tv x y z l s ∧ tv x y z l s ≤ 127000000000000000 := by
  obtain ⟨h1, h2, h3⟩ := h
  have m1 := mul_small h2 hl
  have m2 := mul_small h3 hs
  unfold tv
  omega
/-- the sixteenth nearest to a numerator over n -/
def sx (N n : Int) : Int := (32 * N + n) / (2 * n)

theorem sixteenths_any (n l0 l1 l2 s0 s1 s2 l s : Int) (w : World) (hn : 1 ≤ n ∧ n ≤ 1000000000000) (hL : Tm l0 l1 l2) (hS : Tm s0 s1 s2) (hl : 0 ≤ l ∧ l ≤ 63) (hs : 0 ≤ s ∧ s ≤ 63) :
    Calls Try.prog 38 #[.agg #[.int .i64 n, .int .i64 l0, .int .i64 l1, .int .i64 l2, .int .i64 s0, .int .i64 s1, .int .i64 s2], .int .i64 l, .int .i64 s] w fun e w' => e = .returned (.agg #[.int .i64 (sx (tv l0 l1 l2 l s) n), .int .i64 (sx (tv s0 s1 s2 l s) n)]) ∧ Below w.heap.size w w' := by
  have b1 := tv_small hL hl hs
  have b2 := tv_small hS hl hs
  have HN : Hid (∀ W : World, Calls Try.prog 62 #[.agg #[.int .i64 n, .int .i64 l0, .int .i64 l1, .int .i64 l2, .int .i64 s0, .int .i64 s1, .int .i64 s2], .int .i64 l, .int .i64 s] W fun e w' => e = .returned (.agg #[.int .i64 (tv l0 l1 l2 l s), .int .i64 (tv s0 s1 s2 l s)]) ∧ Below W.heap.size W w') := fun W => numerators_any _ _ _ _ _ _ _ _ _ W hL hS hl hs
  generalize tv l0 l1 l2 l s = N1 at b1 HN ⊢
  generalize tv s0 s1 s2 l s = N2 at b2 HN ⊢
  have k1 : IntKind.i64.wrap (32 * N1) = 32 * N1 := IntWalk.i64_in _ (by omega)
  have k2 : IntKind.i64.wrap (32 * N2) = 32 * N2 := IntWalk.i64_in _ (by omega)
  have k3 : IntKind.i64.wrap (32 * N1 + n) = 32 * N1 + n := IntWalk.i64_in _ (by omega)
  have k4 : IntKind.i64.wrap (32 * N2 + n) = 32 * N2 + n := IntWalk.i64_in _ (by omega)
  have k5 : IntKind.i64.wrap (2 * n) = 2 * n := IntWalk.i64_in _ (by omega)
  have HD1 : Hid (∀ W : World, Calls Try.prog 63 #[.int .i64 (32 * N1 + n), .int .i64 (2 * n)] W fun e w' => e = .returned (.int .i64 (sx N1 n)) ∧ W = w') := fun W => divideDown_any _ _ W (by omega) (by omega) (by omega)
  have HD2 : Hid (∀ W : World, Calls Try.prog 63 #[.int .i64 (32 * N2 + n), .int .i64 (2 * n)] W fun e w' => e = .returned (.int .i64 (sx N2 n)) ∧ W = w') := fun W => divideDown_any _ _ W (by omega) (by omega) (by omega)
  generalize sx N1 n = F1 at HD1 ⊢
  generalize sx N2 n = F2 at HD2 ⊢
  clear b1 b2 hn hL hS hl hs
  go_enter Try.func38, Try.ntmps38
  go_wp2_with fail
  have hX0 : At ((w.alloc (.cells #[.int .i64 n, .int .i64 l0, .int .i64 l1, .int .i64 l2, .int .i64 s0, .int .i64 s1, .int .i64 s2] 84)).alloc (.cells #[.int .i64 0, .int .i64 0] 39)) w.heap.size 84 #[.int .i64 n, .int .i64 l0, .int .i64 l1, .int .i64 l2, .int .i64 s0, .int .i64 s1, .int .i64 s2] := (At.new w _ _).alloc _
  have hR0 : At ((w.alloc (.cells #[.int .i64 n, .int .i64 l0, .int .i64 l1, .int .i64 l2, .int .i64 s0, .int .i64 s1, .int .i64 s2] 84)).alloc (.cells #[.int .i64 0, .int .i64 0] 39)) (w.heap.size + 1) 39 #[.int .i64 0, .int .i64 0] := at_new (by simp)
  have hb0 : Below w.heap.size w ((w.alloc (.cells #[.int .i64 n, .int .i64 l0, .int .i64 l1, .int .i64 l2, .int .i64 s0, .int .i64 s1, .int .i64 s2] 84)).alloc (.cells #[.int .i64 0, .int .i64 0] 39)) := by
    repeat (first | (with_reducible exact Below.refl _ _) | (with_reducible refine below_new ?_ (by first | omega | (simp; done) | (simp; omega))))
  refine (HN.out _).mono ?_
  rintro e w1 ⟨rfl, hb1⟩
  have HX1 := Lib.hid (hX0.keep hb1)
  have HR1 := Lib.hid (hR0.keep hb1)
  have HB1 := Lib.hid (below_two hb0 hb1)
  have j1 : w.heap.size < w1.heap.size := HX1.out.lt
  have j2 : w.heap.size + 1 < w1.heap.size := HR1.out.lt
  clear hX0 hR0 hb0 hb1
  go_wp2_with fail
  go_loopw [15] (fun i wx => ∃ k : Nat, k ≤ 2 ∧ i = .int .i64 (k : Int) ∧ At wx w.heap.size 84 #[.int .i64 n, .int .i64 l0, .int .i64 l1, .int .i64 l2, .int .i64 s0, .int .i64 s1, .int .i64 s2] ∧ At wx (w.heap.size + 1) 39 #[.int .i64 0, .int .i64 0] ∧ At wx w1.heap.size 39 #[.int .i64 (if k = 0 then N1 else F1), .int .i64 (if k < 2 then N2 else F2)] ∧ Below w.heap.size w wx) (fun i _ => 2 - (intOf i).toNat)
  case atStart => exact ⟨0, by omega, rfl, HX1.out.alloc _, HR1.out.alloc _, at_new rfl, below_new HB1.out (by omega)⟩
  case round =>
    clear HX1 HR1 HB1
    obtain ⟨k, hk, rfl, hX, hR, hV, hB⟩ := hrel
    obtain ⟨w7, hw7⟩ : ∃ q, q = wr := ⟨_, rfl⟩
    rw [← hw7] at hX hR hV hB ⊢
    clear hw7
    have HX := Lib.hid hX
    have HR := Lib.hid hR
    have HB := Lib.hid hB
    have i1 : w.heap.size < w7.heap.size := hX.lt
    have i2 : w.heap.size + 1 < w7.heap.size := hR.lt
    have i3 : w1.heap.size < w7.heap.size := hV.lt
    by_cases hk3 : k < 2
    · have h3 : k = 0 ∨ k = 1 := by omega
      clear hR hB
      rcases h3 with rfl | rfl
      · have hV : At w7 w1.heap.size 39 #[.int .i64 N1, .int .i64 N2] := hV
        have x1 := hX.cell 0
        have x2 := hV.cell 0
        have z2 := hV.free 0
        simp at x1 x2
        have HV := Lib.hid hV
        clear hV hX
        go_wp2_with (go_at_call 63; (with_reducible refine (HD1.out _).mono ?_); rintro e w' ⟨rfl, rfl⟩)
        go_roundw
        case rel => exact ⟨1, by omega, rfl, HX.out.far (by first | (simp; done) | (simp; omega)) _, HR.out.far (by first | (simp; done) | (simp; omega)) _, HV.out.put 0 _, below_set HB.out (by omega)⟩
        case measure => simp [intOf]
      · have hV : At w7 w1.heap.size 39 #[.int .i64 F1, .int .i64 N2] := hV
        have x1 := hX.cell 0
        have x2 := hV.cell 1
        have z2 := hV.free 1
        simp at x1 x2
        have HV := Lib.hid hV
        clear hV hX
        go_wp2_with (go_at_call 63; (with_reducible refine (HD2.out _).mono ?_); rintro e w' ⟨rfl, rfl⟩)
        go_roundw
        case rel => exact ⟨2, by omega, rfl, HX.out.far (by first | (simp; done) | (simp; omega)) _, HR.out.far (by first | (simp; done) | (simp; omega)) _, HV.out.put 1 _, below_set HB.out (by omega)⟩
        case measure => simp [intOf]
    · obtain rfl : k = 2 := by omega
      have hV : At w7 w1.heap.size 39 #[.int .i64 F1, .int .i64 F2] := hV
      have x0 := hV.cell 0
      have x1 := hV.cell 1
      have y0 := hR.cell 0
      have y1 := hR.cell 1
      have z0 := hR.free 0
      have z1 := hR.free 1
      simp at x0 x1 y0 y1
      clear hV hR hX hB
      go_wp2
      refine bodyPost_ret (v := .agg #[.int .i64 F1, .int .i64 F2]) (by simp [results, Try.results38, go_sem, *]) rfl ⟨rfl, ?_⟩
      repeat (first | (with_reducible exact HB.out) | (with_reducible refine Below.drew ?_) | (with_reducible refine below_drewNs ?_) | (with_reducible refine below_set ?_ (by first | omega | (simp; omega))))
end Go.Proofs.Ytoaecfblpkgehaa
