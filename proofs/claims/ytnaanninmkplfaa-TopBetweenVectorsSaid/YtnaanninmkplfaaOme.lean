/- Contracts of package orbit: what a moment tells. -/
import Derived.Test.YtnaanninmkplfaaOmo
namespace Go.Proofs.Ytnaanninmkplfaa
open Go.RowKit
set_option maxHeartbeats 400000
set_option maxRecDepth 100000

theorem span_any (x0 x1 x2 x3 x4 y0 y1 y2 y3 y4 t : Int) (w : World) (h : 0 ≤ y0 - x0 ∧ y0 - x0 ≤ 1000000000) :
    Calls Try.prog 131 #[.agg #[.int .i64 x0, .int .i64 x1, .int .i64 x2, .int .i64 x3, .int .i64 x4, .int .i64 y0, .int .i64 y1, .int .i64 y2, .int .i64 y3, .int .i64 y4, .int .i64 t]] w fun e w' => e = .returned (.int .i64 (y0 - x0)) ∧ Below w.heap.size w w' := by
  obtain ⟨h1, h2⟩ := h
  have w1 : IntKind.i64.wrap (y0 - x0) = y0 - x0 := IntWalk.i64_in _ (by omega)
  go_enter Try.func131, Try.ntmps131
  go_wp2
  go_ret
  exact ⟨rfl, below_new (Below.refl _ w) (Nat.le_refl _)⟩

theorem isAtState_any (x0 x1 x2 x3 x4 y0 y1 y2 y3 y4 t : Int) (w : World) :
    Calls Try.prog 132 #[.agg #[.int .i64 x0, .int .i64 x1, .int .i64 x2, .int .i64 x3, .int .i64 x4, .int .i64 y0, .int .i64 y1, .int .i64 y2, .int .i64 y3, .int .i64 y4, .int .i64 t]] w fun e w' => e = .returned (.bool (t == x0 || t == y0)) ∧ Below w.heap.size w w' := by
  have key : ∀ p q : Bool, (t == x0) = p → (t == y0) = q → Calls Try.prog 132 #[.agg #[.int .i64 x0, .int .i64 x1, .int .i64 x2, .int .i64 x3, .int .i64 x4, .int .i64 y0, .int .i64 y1, .int .i64 y2, .int .i64 y3, .int .i64 y4, .int .i64 t]] w fun e w' => e = .returned (.bool (p || q)) ∧ Below w.heap.size w w' := by
    intro p q h1 h2
    cases p <;> cases q
    all_goals
      go_enter Try.func132, Try.ntmps132
      go_wp2
      go_ret
      exact ⟨rfl, below_new (Below.refl _ w) (Nat.le_refl _)⟩
  exact key _ _ rfl rfl

theorem between_any (x0 x1 x2 x3 x4 y0 y1 y2 y3 y4 t a b : Int) (w : World) (h : 0 ≤ y0 - x0 ∧ y0 - x0 ≤ 20000) (ht : 0 ≤ t - x0 ∧ t - x0 ≤ 20000) (ha : -100000000 ≤ a ∧ a ≤ 100000000) (hb : -100000000 ≤ b ∧ b ≤ 100000000) :
    Calls Try.prog 130 #[.agg #[.int .i64 x0, .int .i64 x1, .int .i64 x2, .int .i64 x3, .int .i64 x4, .int .i64 y0, .int .i64 y1, .int .i64 y2, .int .i64 y3, .int .i64 y4, .int .i64 t], .int .i64 a, .int .i64 b] w fun e w' =>
      e = .returned (.int .i64 (a * (y0 - x0) + (b - a) * (t - x0))) ∧ Below w.heap.size w w' := by
  have m1 := mul_range ha.1 ha.2 h.1 h.2 (by omega)
  have m2 := mul_range (x := b - a) (m := 200000000) (by omega) (by omega) ht.1 ht.2 (by omega)
  have w1 : IntKind.i64.wrap (a * (y0 - x0)) = a * (y0 - x0) := IntWalk.i64_in _ (by omega)
  have w2 : IntKind.i64.wrap (b - a) = b - a := IntWalk.i64_in _ (by omega)
  have w3 : IntKind.i64.wrap (t - x0) = t - x0 := IntWalk.i64_in _ (by omega)
  have w4 : IntKind.i64.wrap ((b - a) * (t - x0)) = (b - a) * (t - x0) := IntWalk.i64_in _ (by omega)
  have w5 : IntKind.i64.wrap (a * (y0 - x0) + (b - a) * (t - x0)) = a * (y0 - x0) + (b - a) * (t - x0) := IntWalk.i64_in _ (by omega)
  clear m1 m2
  go_enter Try.func130, Try.ntmps130
  go_wp2_with fail
  have hA := At.new w 162 #[.int .i64 x0, .int .i64 x1, .int .i64 x2, .int .i64 x3, .int .i64 x4, .int .i64 y0, .int .i64 y1, .int .i64 y2, .int .i64 y3, .int .i64 y4, .int .i64 t]
  have hb1 : Below w.heap.size w _ := below_new (Below.refl _ w) (Nat.le_refl _) (o := .cells #[.int .i64 x0, .int .i64 x1, .int .i64 x2, .int .i64 x3, .int .i64 x4, .int .i64 y0, .int .i64 y1, .int .i64 y2, .int .i64 y3, .int .i64 y4, .int .i64 t] 162)
  generalize hW1 : w.alloc (.cells #[.int .i64 x0, .int .i64 x1, .int .i64 x2, .int .i64 x3, .int .i64 x4, .int .i64 y0, .int .i64 y1, .int .i64 y2, .int .i64 y3, .int .i64 y4, .int .i64 t] 162) = W1 at hA hb1 ⊢
  have hSS : ∀ W, Below W1.heap.size W1 W → W.cell? ⟨w.heap.size, 0, none⟩ = some (.int .i64 x0) ∧ W.cell? ⟨w.heap.size, 1, none⟩ = some (.int .i64 x1) ∧ W.cell? ⟨w.heap.size, 2, none⟩ = some (.int .i64 x2) ∧ W.cell? ⟨w.heap.size, 3, none⟩ = some (.int .i64 x3) ∧ W.cell? ⟨w.heap.size, 4, none⟩ = some (.int .i64 x4) ∧
      W.cell? ⟨w.heap.size, 5, none⟩ = some (.int .i64 y0) ∧ W.cell? ⟨w.heap.size, 6, none⟩ = some (.int .i64 y1) ∧ W.cell? ⟨w.heap.size, 7, none⟩ = some (.int .i64 y2) ∧ W.cell? ⟨w.heap.size, 8, none⟩ = some (.int .i64 y3) ∧ W.cell? ⟨w.heap.size, 9, none⟩ = some (.int .i64 y4) ∧ W.cell? ⟨w.heap.size, 10, none⟩ = some (.int .i64 t) := fun W hW => by
    have q := hA.keep hW
    exact ⟨q.cell 0, q.cell 1, q.cell 2, q.cell 3, q.cell 4, q.cell 5, q.cell 6, q.cell 7, q.cell 8, q.cell 9, q.cell 10⟩
  have hP1 : ∀ W, Below W1.heap.size W1 W → Calls Try.prog 131 #[.agg #[.int .i64 x0, .int .i64 x1, .int .i64 x2, .int .i64 x3, .int .i64 x4, .int .i64 y0, .int .i64 y1, .int .i64 y2, .int .i64 y3, .int .i64 y4, .int .i64 t]] W fun e w' => e = .returned (.int .i64 (y0 - x0)) ∧ Below W1.heap.size W1 w' ∧
      w'.cell? ⟨w.heap.size, 0, none⟩ = some (.int .i64 x0) ∧ w'.cell? ⟨w.heap.size, 1, none⟩ = some (.int .i64 x1) ∧ w'.cell? ⟨w.heap.size, 2, none⟩ = some (.int .i64 x2) ∧ w'.cell? ⟨w.heap.size, 3, none⟩ = some (.int .i64 x3) ∧ w'.cell? ⟨w.heap.size, 4, none⟩ = some (.int .i64 x4) ∧
      w'.cell? ⟨w.heap.size, 5, none⟩ = some (.int .i64 y0) ∧ w'.cell? ⟨w.heap.size, 6, none⟩ = some (.int .i64 y1) ∧ w'.cell? ⟨w.heap.size, 7, none⟩ = some (.int .i64 y2) ∧ w'.cell? ⟨w.heap.size, 8, none⟩ = some (.int .i64 y3) ∧ w'.cell? ⟨w.heap.size, 9, none⟩ = some (.int .i64 y4) ∧ w'.cell? ⟨w.heap.size, 10, none⟩ = some (.int .i64 t) := by
    intro W hW
    refine (span_any x0 x1 x2 x3 x4 y0 y1 y2 y3 y4 t W ⟨h.1, by omega⟩).mono ?_
    rintro e w' ⟨rfl, hb⟩
    have hB := hW.trans (hb.mono hW.size)
    exact ⟨rfl, hB, hSS _ hB⟩
  obtain ⟨s0, s1, s2, s3, s4, s5, s6, s7, s8, s9, s10⟩ := hSS W1 (Below.refl _ _)
  have HP1 := Lib.hid hP1
  have HB := Lib.hid hb1
  clear hP1 hb1 hSS hA hW1
  go_region_held3 (fun w' => w'.cell? ⟨w.heap.size, 0, none⟩ = some (.int .i64 x0) ∧ w'.cell? ⟨w.heap.size, 1, none⟩ = some (.int .i64 x1) ∧ w'.cell? ⟨w.heap.size, 2, none⟩ = some (.int .i64 x2) ∧ w'.cell? ⟨w.heap.size, 3, none⟩ = some (.int .i64 x3) ∧ w'.cell? ⟨w.heap.size, 4, none⟩ = some (.int .i64 x4) ∧
      w'.cell? ⟨w.heap.size, 5, none⟩ = some (.int .i64 y0) ∧ w'.cell? ⟨w.heap.size, 6, none⟩ = some (.int .i64 y1) ∧ w'.cell? ⟨w.heap.size, 7, none⟩ = some (.int .i64 y2) ∧ w'.cell? ⟨w.heap.size, 8, none⟩ = some (.int .i64 y3) ∧ w'.cell? ⟨w.heap.size, 9, none⟩ = some (.int .i64 y4) ∧ w'.cell? ⟨w.heap.size, 10, none⟩ = some (.int .i64 t)) (go_keep)
    (first
      | (go_at_call 131; refine (HP1.out _ ?_).mono ?_; (repeat (first | assumption | (with_reducible exact Below.refl _ _) | (with_reducible refine Below.drew ?_) | (with_reducible refine below_drewNs ?_))); rintro e w4 ⟨rfl, hb4, hs0, hs1, hs2, hs3, hs4, hs5, hs6, hs7, hs8, hs9, hs10⟩))
  go_wp2
  go_ret
  exact ⟨rfl, by first | exact HB.out.trans (hb4.mono HB.out.size) | exact (HB.out.trans (hb4.mono HB.out.size)).drew⟩
end Go.Proofs.Ytnaanninmkplfaa
