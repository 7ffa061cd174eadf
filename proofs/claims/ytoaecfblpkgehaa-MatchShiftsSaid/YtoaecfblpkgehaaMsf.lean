/- Match: ShiftAt of the reference. -/
import Derived.Test.YtoaecfblpkgehaaMsd
import Derived.Deep.RegionHeld3
import Derived.Deep.Cut
namespace Go.Proofs.Ytoaecfblpkgehaa
open Go.RowKit
set_option maxHeartbeats 3200000
set_option maxRecDepth 100000

theorem refShiftAt_any (n l0 l1 l2 s0 s1 s2 l s : Int) (w : World) (hn : 1 ≤ n ∧ n ≤ 1000000000000) (hL : Tm l0 l1 l2) (hS : Tm s0 s1 s2) (hl : 0 ≤ l ∧ l ≤ 63) (hs : 0 ≤ s ∧ s ≤ 63) :
    Calls Try.prog 15 #[.agg #[.int .i64 n, .int .i64 l0, .int .i64 l1, .int .i64 l2, .int .i64 s0, .int .i64 s1, .int .i64 s2], .int .i64 l, .int .i64 s] w fun e w' => e = .returned (.agg #[.int .i64 (sx (tv l0 l1 l2 l s) n), .int .i64 (sx (tv s0 s1 s2 l s) n)]) ∧ Below w.heap.size w w' := by
  have b1 := tv_small hL hl hs
  have b2 := tv_small hS hl hs
  have H1 : Hid (∀ W : World, Calls Try.prog 41 #[.agg #[.int .i64 l0, .int .i64 l1, .int .i64 l2], .int .i64 l, .int .i64 s] W fun e w' => e = .returned (.int .i64 (tv l0 l1 l2 l s)) ∧ Below W.heap.size W w') := fun W => term_any _ _ _ _ _ W hL hl hs
  have H2 : Hid (∀ W : World, Calls Try.prog 41 #[.agg #[.int .i64 s0, .int .i64 s1, .int .i64 s2], .int .i64 l, .int .i64 s] W fun e w' => e = .returned (.int .i64 (tv s0 s1 s2 l s)) ∧ Below W.heap.size W w') := fun W => term_any _ _ _ _ _ W hS hl hs
  generalize tv l0 l1 l2 l s = N1 at b1 H1 ⊢
  generalize tv s0 s1 s2 l s = N2 at b2 H2 ⊢
  have k1 : IntKind.i64.wrap (32 * N1) = 32 * N1 := IntWalk.i64_in _ (by omega)
  have k2 : IntKind.i64.wrap (32 * N2) = 32 * N2 := IntWalk.i64_in _ (by omega)
  have k3 : IntKind.i64.wrap (32 * N1 + n) = 32 * N1 + n := IntWalk.i64_in _ (by omega)
  have k4 : IntKind.i64.wrap (32 * N2 + n) = 32 * N2 + n := IntWalk.i64_in _ (by omega)
  have k5 : IntKind.i64.wrap (2 * n) = 2 * n := IntWalk.i64_in _ (by omega)
  have HD1 : Hid (∀ W : World, Calls Try.prog 40 #[.int .i64 (32 * N1 + n), .int .i64 (2 * n)] W fun e w' => e = .returned (.int .i64 (sx N1 n)) ∧ W = w') := fun W => floor_any _ _ W (by omega) (by omega) (by omega)
  have HD2 : Hid (∀ W : World, Calls Try.prog 40 #[.int .i64 (32 * N2 + n), .int .i64 (2 * n)] W fun e w' => e = .returned (.int .i64 (sx N2 n)) ∧ W = w') := fun W => floor_any _ _ W (by omega) (by omega) (by omega)
  generalize sx N1 n = F1 at HD1 ⊢
  generalize sx N2 n = F2 at HD2 ⊢
  clear b1 b2 hn hL hS hl hs
  have hX : At ((w.alloc (.cells #[.int .i64 n, .int .i64 l0, .int .i64 l1, .int .i64 l2, .int .i64 s0, .int .i64 s1, .int .i64 s2] 38)).alloc (.cells #[.int .i64 0, .int .i64 0] 39)) w.heap.size 38 #[.int .i64 n, .int .i64 l0, .int .i64 l1, .int .i64 l2, .int .i64 s0, .int .i64 s1, .int .i64 s2] := (At.new w _ _).alloc _
  have hR : At ((w.alloc (.cells #[.int .i64 n, .int .i64 l0, .int .i64 l1, .int .i64 l2, .int .i64 s0, .int .i64 s1, .int .i64 s2] 38)).alloc (.cells #[.int .i64 0, .int .i64 0] 39)) (w.heap.size + 1) 39 #[.int .i64 0, .int .i64 0] := at_new (by simp)
  have hb : Below w.heap.size w ((w.alloc (.cells #[.int .i64 n, .int .i64 l0, .int .i64 l1, .int .i64 l2, .int .i64 s0, .int .i64 s1, .int .i64 s2] 38)).alloc (.cells #[.int .i64 0, .int .i64 0] 39)) := by
    repeat (first | (with_reducible exact Below.refl _ _) | (with_reducible refine below_new ?_ (by first | omega | (simp; done) | (simp; omega))))
  go_enter Try.func15, Try.ntmps15
  go_upto_region 1 with fail
  generalize hW3 : ((w.alloc (.cells #[.int .i64 n, .int .i64 l0, .int .i64 l1, .int .i64 l2, .int .i64 s0, .int .i64 s1, .int .i64 s2] 38)).alloc (.cells #[.int .i64 0, .int .i64 0] 39)) = W3 at hX hR hb ⊢
  clear hW3
  have i1 : w.heap.size + 1 < W3.heap.size := hR.lt
  have HSS : Hid (∀ w', Below W3.heap.size W3 w' → w'.cell? ⟨w.heap.size, 0, none⟩ = some (.int .i64 n) ∧ w'.cell? ⟨w.heap.size, 1, none⟩ = some (.int .i64 l0) ∧ w'.cell? ⟨w.heap.size, 2, none⟩ = some (.int .i64 l1) ∧ w'.cell? ⟨w.heap.size, 3, none⟩ = some (.int .i64 l2) ∧ w'.cell? ⟨w.heap.size, 4, none⟩ = some (.int .i64 s0) ∧ w'.cell? ⟨w.heap.size, 5, none⟩ = some (.int .i64 s1) ∧ w'.cell? ⟨w.heap.size, 6, none⟩ = some (.int .i64 s2) ∧ w'.cell? ⟨w.heap.size + 1, 0, none⟩ = some (.int .i64 0) ∧ w'.cell? ⟨w.heap.size + 1, 1, none⟩ = some (.int .i64 0) ∧ w'.frozen? ⟨w.heap.size + 1, 0, none⟩ = false ∧ w'.frozen? ⟨w.heap.size + 1, 1, none⟩ = false) := fun w' hW => by
    have q := hX.keep hW
    have r := hR.keep hW
    exact ⟨q.cell 0, q.cell 1, q.cell 2, q.cell 3, q.cell 4, q.cell 5, q.cell 6, r.cell 0, r.cell 1, r.free 0, r.free 1⟩
  obtain ⟨t0, t1, t2, t3, t4, t5, t6, r0, r1, r2, r3⟩ := HSS.out W3 (Below.refl _ _)
  have HB := Lib.hid hb
  clear hX hR hb
  have HT1 : Hid (∀ W : World, Below W3.heap.size W3 W → Calls Try.prog 41 #[.agg #[.int .i64 l0, .int .i64 l1, .int .i64 l2], .int .i64 l, .int .i64 s] W fun e w' => e = .returned (.int .i64 N1) ∧ Below W3.heap.size W3 w' ∧ w'.cell? ⟨w.heap.size, 0, none⟩ = some (.int .i64 n) ∧ w'.cell? ⟨w.heap.size, 1, none⟩ = some (.int .i64 l0) ∧ w'.cell? ⟨w.heap.size, 2, none⟩ = some (.int .i64 l1) ∧ w'.cell? ⟨w.heap.size, 3, none⟩ = some (.int .i64 l2) ∧ w'.cell? ⟨w.heap.size, 4, none⟩ = some (.int .i64 s0) ∧ w'.cell? ⟨w.heap.size, 5, none⟩ = some (.int .i64 s1) ∧ w'.cell? ⟨w.heap.size, 6, none⟩ = some (.int .i64 s2) ∧ w'.cell? ⟨w.heap.size + 1, 0, none⟩ = some (.int .i64 0) ∧ w'.cell? ⟨w.heap.size + 1, 1, none⟩ = some (.int .i64 0) ∧ w'.frozen? ⟨w.heap.size + 1, 0, none⟩ = false ∧ w'.frozen? ⟨w.heap.size + 1, 1, none⟩ = false) := fun W hW => (H1.out W).mono fun e w' ⟨he, hb⟩ => by
    have hB := hW.trans (hb.mono hW.size)
    exact ⟨he, hB, HSS.out _ hB⟩
  have HT2 : Hid (∀ W : World, Below W3.heap.size W3 W → Calls Try.prog 41 #[.agg #[.int .i64 s0, .int .i64 s1, .int .i64 s2], .int .i64 l, .int .i64 s] W fun e w' => e = .returned (.int .i64 N2) ∧ Below W3.heap.size W3 w' ∧ w'.cell? ⟨w.heap.size, 0, none⟩ = some (.int .i64 n) ∧ w'.cell? ⟨w.heap.size, 1, none⟩ = some (.int .i64 l0) ∧ w'.cell? ⟨w.heap.size, 2, none⟩ = some (.int .i64 l1) ∧ w'.cell? ⟨w.heap.size, 3, none⟩ = some (.int .i64 l2) ∧ w'.cell? ⟨w.heap.size, 4, none⟩ = some (.int .i64 s0) ∧ w'.cell? ⟨w.heap.size, 5, none⟩ = some (.int .i64 s1) ∧ w'.cell? ⟨w.heap.size, 6, none⟩ = some (.int .i64 s2) ∧ w'.cell? ⟨w.heap.size + 1, 0, none⟩ = some (.int .i64 0) ∧ w'.cell? ⟨w.heap.size + 1, 1, none⟩ = some (.int .i64 0) ∧ w'.frozen? ⟨w.heap.size + 1, 0, none⟩ = false ∧ w'.frozen? ⟨w.heap.size + 1, 1, none⟩ = false) := fun W hW => (H2.out W).mono fun e w' ⟨he, hb⟩ => by
    have hB := hW.trans (hb.mono hW.size)
    exact ⟨he, hB, HSS.out _ hB⟩
  clear H1 H2
  go_region_held3 (fun w' => w'.cell? ⟨w.heap.size, 0, none⟩ = some (.int .i64 n) ∧ w'.cell? ⟨w.heap.size, 1, none⟩ = some (.int .i64 l0) ∧ w'.cell? ⟨w.heap.size, 2, none⟩ = some (.int .i64 l1) ∧ w'.cell? ⟨w.heap.size, 3, none⟩ = some (.int .i64 l2) ∧ w'.cell? ⟨w.heap.size, 4, none⟩ = some (.int .i64 s0) ∧ w'.cell? ⟨w.heap.size, 5, none⟩ = some (.int .i64 s1) ∧ w'.cell? ⟨w.heap.size, 6, none⟩ = some (.int .i64 s2)) (go_keep)
    (first
      | (go_at_call 41; first
          | ((with_reducible refine (HT1.out _ ?_).mono ?_); (repeat (first | assumption | (with_reducible exact Below.refl _ _) | (with_reducible refine Below.drew ?_) | (with_reducible refine below_drewNs ?_))); rintro e w4 ⟨rfl, hb4, ta0, ta1, ta2, ta3, ta4, ta5, ta6, ra0, ra1, ra2, ra3⟩)
          | ((with_reducible refine (HT2.out _ ?_).mono ?_); (repeat (first | assumption | (with_reducible exact Below.refl _ _) | (with_reducible refine Below.drew ?_) | (with_reducible refine below_drewNs ?_))); rintro e w5 ⟨rfl, hb5, tb0, tb1, tb2, tb3, tb4, tb5, tb6, rb0, rb1, rb2, rb3⟩))
      | (go_at_call 40; first
          | ((with_reducible refine (HD1.out _).mono ?_); rintro e w' ⟨rfl, rfl⟩)
          | ((with_reducible refine (HD2.out _).mono ?_); rintro e w' ⟨rfl, rfl⟩)))
  all_goals
    have hq := HB.out.trans (hb5.mono HB.out.size)
    have HQ := Lib.hid hq
    go_wp2
    refine bodyPost_ret (v := .agg #[.int .i64 F1, .int .i64 F2]) ?_ rfl ⟨rfl, ?_⟩
    · simp [results, Try.results15, go_sem, *]
    · have hq := HQ.out
      repeat (first | (with_reducible assumption) | (with_reducible refine below_set ?_ (by first | omega | (simp; omega))))
end Go.Proofs.Ytoaecfblpkgehaa
