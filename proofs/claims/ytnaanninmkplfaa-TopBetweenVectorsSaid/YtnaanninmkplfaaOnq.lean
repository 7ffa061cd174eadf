/- Contracts of package orbit: squares of distances between places. -/
import Derived.Test.YtnaanninmkplfaaOsa
import Derived.Test.YtnaanninmkplfaaObn
namespace Go.Proofs.Ytnaanninmkplfaa
open Go.RowKit
set_option maxHeartbeats 400000
set_option maxRecDepth 100000

def Sm (x : Int) : Prop := -100000000 ≤ x ∧ x ≤ 100000000

theorem difference_any (a1 a2 a3 b1 b2 b3 : Int) (w : World) (ha : Sm a1 ∧ Sm a2 ∧ Sm a3) (hb : Sm b1 ∧ Sm b2 ∧ Sm b3) :
    Calls Try.prog 78 #[.agg #[.int .i64 a1, .int .i64 a2, .int .i64 a3], .agg #[.int .i64 b1, .int .i64 b2, .int .i64 b3]] w fun e w' =>
      e = .returned (.agg #[.int .i64 (a1 - b1), .int .i64 (a2 - b2), .int .i64 (a3 - b3)]) ∧ Below w.heap.size w w' := by
  unfold Sm at ha hb
  have w1 : IntKind.i64.wrap (a1 - b1) = a1 - b1 := IntWalk.i64_in _ (by omega)
  have w2 : IntKind.i64.wrap (a2 - b2) = a2 - b2 := IntWalk.i64_in _ (by omega)
  have w3 : IntKind.i64.wrap (a3 - b3) = a3 - b3 := IntWalk.i64_in _ (by omega)
  go_enter Try.func78, Try.ntmps78
  go_wp2
  refine bodyPost_ret (v := .agg #[.int .i64 (a1 - b1), .int .i64 (a2 - b2), .int .i64 (a3 - b3)]) ?h1 rfl ⟨rfl, ?_⟩
  case h1 => simp [results, Try.results78, go_sem, *]
  repeat (first | (with_reducible exact Below.refl _ _) | (with_reducible refine Below.drew ?_) | (with_reducible refine below_set ?_ (by first | omega | (simp; omega))) | (with_reducible refine below_new ?_ (by first | omega | (simp; done) | (simp; omega))))

theorem sq_small {x : Int} (h : -200000000 ≤ x ∧ x ≤ 200000000) : 0 ≤ x * x ∧ x * x ≤ 40000000000000000 := by
  refine ⟨sq_nonneg x, ?_⟩
  have := sq_le (a := x) (b := 200000000) (by omega) (by omega)
  omega

theorem product_sq (d1 d2 d3 : Int) (w : World) (h1 : -200000000 ≤ d1 ∧ d1 ≤ 200000000) (h2 : -200000000 ≤ d2 ∧ d2 ≤ 200000000) (h3 : -200000000 ≤ d3 ∧ d3 ≤ 200000000) :
    Calls Try.prog 139 #[.agg #[.int .i64 d1, .int .i64 d2, .int .i64 d3], .agg #[.int .i64 d1, .int .i64 d2, .int .i64 d3]] w fun e w' =>
      e = .returned (.int .i64 (d1 * d1 + d2 * d2 + d3 * d3)) ∧ Below w.heap.size w w' := by
  have q1 := sq_small h1
  have q2 := sq_small h2
  have q3 := sq_small h3
  have w1 : IntKind.i64.wrap (d1 * d1) = d1 * d1 := IntWalk.i64_in _ (by omega)
  have w2 : IntKind.i64.wrap (d2 * d2) = d2 * d2 := IntWalk.i64_in _ (by omega)
  have w3 : IntKind.i64.wrap (d3 * d3) = d3 * d3 := IntWalk.i64_in _ (by omega)
  have w4 : IntKind.i64.wrap (d1 * d1 + d2 * d2) = d1 * d1 + d2 * d2 := IntWalk.i64_in _ (by omega)
  have w5 : IntKind.i64.wrap (d1 * d1 + d2 * d2 + d3 * d3) = d1 * d1 + d2 * d2 + d3 * d3 := IntWalk.i64_in _ (by omega)
  clear q1 q2 q3
  go_enter Try.func139, Try.ntmps139
  go_wp2
  go_ret
  refine ⟨rfl, ?_⟩
  repeat (first | (with_reducible exact Below.refl _ _) | (with_reducible refine Below.drew ?_) | (with_reducible refine below_drewNs ?_) | (with_reducible refine below_new ?_ (by first | omega | (simp; done) | (simp; omega))))

theorem squareBetween_any (a1 a2 a3 b1 b2 b3 : Int) (w : World) (ha : Sm a1 ∧ Sm a2 ∧ Sm a3) (hb : Sm b1 ∧ Sm b2 ∧ Sm b3) :
    Calls Try.prog 137 #[.agg #[.int .i64 a1, .int .i64 a2, .int .i64 a3], .agg #[.int .i64 b1, .int .i64 b2, .int .i64 b3]] w fun e w' =>
      e = .returned (.int .i64 ((a1 - b1) * (a1 - b1) + (a2 - b2) * (a2 - b2) + (a3 - b3) * (a3 - b3))) ∧ Below w.heap.size w w' := by
  have HA := Lib.hid ha
  have HB := Lib.hid hb
  have hd : (-200000000 ≤ a1 - b1 ∧ a1 - b1 ≤ 200000000) ∧ (-200000000 ≤ a2 - b2 ∧ a2 - b2 ≤ 200000000) ∧ (-200000000 ≤ a3 - b3 ∧ a3 - b3 ≤ 200000000) := by unfold Sm at ha hb; omega
  have HD := Lib.hid hd
  clear ha hb hd
  go_enter Try.func137, Try.ntmps137
  go_wp2_with fail
  refine (difference_any a1 a2 a3 b1 b2 b3 _ HA.out HB.out).mono ?_
  rintro e w1 ⟨rfl, hb1⟩
  have hB1 : Below w.heap.size w w1 := (below_new (below_new (Below.refl _ w) (Nat.le_refl _)) (by simp)).trans (hb1.mono (by simp; omega))
  clear hb1
  go_wp2_with fail
  refine (product_sq _ _ _ _ HD.out.1 HD.out.2.1 HD.out.2.2).mono ?_
  rintro e w2 ⟨rfl, hb2⟩
  have hB2 : Below w.heap.size w w2 := (below_new hB1 hB1.size).trans (hb2.mono (by have := hB1.size; simp; omega))
  clear hb2 hB1
  go_wp2
  go_ret
  exact ⟨rfl, hB2⟩

theorem nominalSquare_any (s : ByteArray) (b bb : Int) (A : Option Addr) (n c : Nat) (S : Nat → Nat → Int) (t p1 p2 p3 : Int) (w : World) (hS : St w A n S) (hR : Right S n bb) (hT : Has S n t) (hn : n ≤ c) (hc : c ≤ maxLen) (hp : Sm p1 ∧ Sm p2 ∧ Sm p3) (hbb : b = bb) :
    Calls Try.prog 103 #[.agg #[.string s, .int .i64 b, .slice A n c], .int .i64 t, .agg #[.int .i64 p1, .int .i64 p2, .int .i64 p3]] w fun e w' =>
      e = .returned (.int .i64 (sqN S n t (P3 p1 p2 p3))) ∧ Below w.heap.size w w' := by
  subst hbb
  obtain ⟨-, c1, -, -⟩ := box_facts hR hT (c := 1) (by omega)
  obtain ⟨-, c2, -, -⟩ := box_facts hR hT (c := 2) (by omega)
  obtain ⟨-, c3, -, -⟩ := box_facts hR hT (c := 3) (by omega)
  have HNO : Hid (Sm (no S n t 1) ∧ Sm (no S n t 2) ∧ Sm (no S n t 3)) := ⟨c1, c2, c3⟩
  have HS := Lib.hid hS
  have HR := Lib.hid hR
  have HT := Lib.hid hT
  have HN := Lib.hid hn
  have HC := Lib.hid hc
  have HP := Lib.hid hp
  clear hS hR hT hn hc hp c1 c2 c3
  go_enter Try.func103, Try.ntmps103
  go_wp2_with fail
  have hA : At ((w.alloc (.cells #[.string s, .int .i64 b, .slice A n c] 126)).alloc (.cells #[.int .i64 p1, .int .i64 p2, .int .i64 p3] 42)) w.heap.size 126 #[.string s, .int .i64 b, .slice A n c] := (At.new w _ _).alloc _
  have hL : At ((w.alloc (.cells #[.string s, .int .i64 b, .slice A n c] 126)).alloc (.cells #[.int .i64 p1, .int .i64 p2, .int .i64 p3] 42)) (w.heap.size + 1) 42 #[.int .i64 p1, .int .i64 p2, .int .i64 p3] := at_new (by simp)
  have hb1 : Below w.heap.size w ((w.alloc (.cells #[.string s, .int .i64 b, .slice A n c] 126)).alloc (.cells #[.int .i64 p1, .int .i64 p2, .int .i64 p3] 42)) := below_new (below_new (Below.refl _ w) (Nat.le_refl _)) (by simp)
  generalize hW1 : (w.alloc (.cells #[.string s, .int .i64 b, .slice A n c] 126)).alloc (.cells #[.int .i64 p1, .int .i64 p2, .int .i64 p3] 42) = W1 at hA hL hb1 ⊢
  clear hW1
  have hS1 := HS.out.below hb1
  have hSS : ∀ w', Below W1.heap.size W1 w' → w'.cell? ⟨w.heap.size, 0, none⟩ = some (.string s) ∧ w'.cell? ⟨w.heap.size, 1, none⟩ = some (.int .i64 b) ∧ w'.cell? ⟨w.heap.size, 2, none⟩ = some (.slice A n c) ∧ w'.cell? ⟨w.heap.size + 1, 0, none⟩ = some (.int .i64 p1) ∧ w'.cell? ⟨w.heap.size + 1, 1, none⟩ = some (.int .i64 p2) ∧ w'.cell? ⟨w.heap.size + 1, 2, none⟩ = some (.int .i64 p3) := fun w' hW => by
    have q := hA.keep hW
    have r := hL.keep hW
    exact ⟨q.cell 0, q.cell 1, q.cell 2, r.cell 0, r.cell 1, r.cell 2⟩
  have hP1 : ∀ W : World, Below W1.heap.size W1 W → Calls Try.prog 87 #[.agg #[.string s, .int .i64 b, .slice A n c], .int .i64 t] W fun e w' => e = .returned (.agg #[.int .i64 (no S n t 1), .int .i64 (no S n t 2), .int .i64 (no S n t 3)]) ∧ Below W1.heap.size W1 w' ∧
      w'.cell? ⟨w.heap.size, 0, none⟩ = some (.string s) ∧ w'.cell? ⟨w.heap.size, 1, none⟩ = some (.int .i64 b) ∧ w'.cell? ⟨w.heap.size, 2, none⟩ = some (.slice A n c) ∧ w'.cell? ⟨w.heap.size + 1, 0, none⟩ = some (.int .i64 p1) ∧ w'.cell? ⟨w.heap.size + 1, 1, none⟩ = some (.int .i64 p2) ∧ w'.cell? ⟨w.heap.size + 1, 2, none⟩ = some (.int .i64 p3) := by
    intro W hW
    refine (nominal_any s b A n c S t W (hS1.below hW) HR.out HT.out HN.out HC.out).mono ?_
    rintro e w' ⟨rfl, hb⟩
    have hB := hW.trans (hb.mono hW.size)
    exact ⟨rfl, hB, hSS _ hB⟩
  have hP2 : ∀ W : World, Below W1.heap.size W1 W → Calls Try.prog 137 #[.agg #[.int .i64 (no S n t 1), .int .i64 (no S n t 2), .int .i64 (no S n t 3)], .agg #[.int .i64 p1, .int .i64 p2, .int .i64 p3]] W fun e w' => e = .returned (.int .i64 (sqN S n t (P3 p1 p2 p3))) ∧ Below W1.heap.size W1 w' ∧
      w'.cell? ⟨w.heap.size, 0, none⟩ = some (.string s) ∧ w'.cell? ⟨w.heap.size, 1, none⟩ = some (.int .i64 b) ∧ w'.cell? ⟨w.heap.size, 2, none⟩ = some (.slice A n c) ∧ w'.cell? ⟨w.heap.size + 1, 0, none⟩ = some (.int .i64 p1) ∧ w'.cell? ⟨w.heap.size + 1, 1, none⟩ = some (.int .i64 p2) ∧ w'.cell? ⟨w.heap.size + 1, 2, none⟩ = some (.int .i64 p3) := by
    intro W hW
    refine (squareBetween_any _ _ _ p1 p2 p3 W HNO.out HP.out).mono ?_
    rintro e w' ⟨rfl, hb⟩
    have hB := hW.trans (hb.mono hW.size)
    exact ⟨rfl, hB, hSS _ hB⟩
  obtain ⟨s0, s1, s2, s3, s4, s5⟩ := hSS W1 (Below.refl _ _)
  have HP1 := Lib.hid hP1
  have HP2 := Lib.hid hP2
  have HB1 := Lib.hid hb1
  clear hP1 hP2 hb1 hA hL hS1 hSS
  go_region_held3 (fun w' => w'.cell? ⟨w.heap.size, 0, none⟩ = some (.string s) ∧ w'.cell? ⟨w.heap.size, 1, none⟩ = some (.int .i64 b) ∧ w'.cell? ⟨w.heap.size, 2, none⟩ = some (.slice A n c) ∧ w'.cell? ⟨w.heap.size + 1, 0, none⟩ = some (.int .i64 p1) ∧ w'.cell? ⟨w.heap.size + 1, 1, none⟩ = some (.int .i64 p2) ∧ w'.cell? ⟨w.heap.size + 1, 2, none⟩ = some (.int .i64 p3)) (go_keep)
    (first
      | (go_at_call 87; (with_reducible refine (HP1.out _ ?_).mono ?_); (repeat (first | assumption | (with_reducible exact Below.refl _ _) | (with_reducible refine Below.drew ?_) | (with_reducible refine below_drewNs ?_))); rintro e w4 ⟨rfl, hb4, hs0, hs1, hs2, hs3, hs4, hs5⟩)
      | (go_at_call 137; (with_reducible refine (HP2.out _ ?_).mono ?_); (repeat (first | assumption | (with_reducible exact Below.refl _ _) | (with_reducible refine Below.drew ?_) | (with_reducible refine below_drewNs ?_))); rintro e w5 ⟨rfl, hb5, ht0, ht1, ht2, ht3, ht4, ht5⟩))
  go_wp2
  go_ret
  exact ⟨rfl, by first | exact HB1.out.trans (hb5.mono HB1.out.size) | exact (HB1.out.trans (hb5.mono HB1.out.size)).drew⟩
end Go.Proofs.Ytnaanninmkplfaa
