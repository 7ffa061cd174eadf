/- Contract of the reference: the square of the distance of two places. -/
import Derived.Test.YtegmjanpeaibcaaOse
import Derived.Test.YtegmjanpeaibcaaOrn
import Derived.Test.YtegmjanpeaibcaaOin
namespace Go.Proofs.Ytegmjanpeaibcaa
open Go.RowKit
set_option maxHeartbeats 1600000
set_option maxRecDepth 100000

theorem less_eq (a1 a2 a3 b1 b2 b3 : Int) (w : World) (ha : Sm a1 ∧ Sm a2 ∧ Sm a3) (hb : Sm b1 ∧ Sm b2 ∧ Sm b3) :
    Calls Try.prog 80 #[.agg #[.int .i64 a1, .int .i64 a2, .int .i64 a3], .agg #[.int .i64 b1, .int .i64 b2, .int .i64 b3]] w fun e w' =>
      e = .returned (.agg #[.int .i64 (a1 - b1), .int .i64 (a2 - b2), .int .i64 (a3 - b3)]) ∧ ((w.alloc (.cells #[.int .i64 a1, .int .i64 a2, .int .i64 a3] 84)).alloc (.cells #[.int .i64 b1, .int .i64 b2, .int .i64 b3] 84)).alloc (.cells #[.int .i64 (a1 - b1), .int .i64 (a2 - b2), .int .i64 (a3 - b3)] 84) = w' := by
  unfold Sm at ha hb
  have w1 : IntKind.i64.wrap (a1 - b1) = a1 - b1 := IntWalk.i64_in _ (by omega)
  have w2 : IntKind.i64.wrap (a2 - b2) = a2 - b2 := IntWalk.i64_in _ (by omega)
  have w3 : IntKind.i64.wrap (a3 - b3) = a3 - b3 := IntWalk.i64_in _ (by omega)
  go_enter Try.func80, Try.ntmps80
  go_wp2
  refine bodyPost_ret (v := .agg #[.int .i64 (a1 - b1), .int .i64 (a2 - b2), .int .i64 (a3 - b3)]) ?h1 rfl ⟨rfl, ?_⟩
  case h1 => simp [results, Try.results80, go_sem, *]
  rfl

theorem refProduct_any (a1 a2 a3 b1 b2 b3 : Int) (w : World) (ha : (-200000000 ≤ a1 ∧ a1 ≤ 200000000) ∧ (-200000000 ≤ a2 ∧ a2 ≤ 200000000) ∧ (-200000000 ≤ a3 ∧ a3 ≤ 200000000)) (hb : (-200000000 ≤ b1 ∧ b1 ≤ 200000000) ∧ (-200000000 ≤ b2 ∧ b2 ≤ 200000000) ∧ (-200000000 ≤ b3 ∧ b3 ≤ 200000000)) :
    Calls Try.prog 94 #[.agg #[.int .i64 a1, .int .i64 a2, .int .i64 a3], .agg #[.int .i64 b1, .int .i64 b2, .int .i64 b3]] w fun e w' =>
      e = .returned (.agg #[.int .i64 (a1 * b1), .int .i64 (a2 * b2), .int .i64 (a3 * b3)]) ∧ Below w.heap.size w w' := by
  have q1 := prod_small ha.1 hb.1
  have q2 := prod_small ha.2.1 hb.2.1
  have q3 := prod_small ha.2.2 hb.2.2
  have w1 : IntKind.i64.wrap (a1 * b1) = a1 * b1 := IntWalk.i64_in _ (by omega)
  have w2 : IntKind.i64.wrap (a2 * b2) = a2 * b2 := IntWalk.i64_in _ (by omega)
  have w3 : IntKind.i64.wrap (a3 * b3) = a3 * b3 := IntWalk.i64_in _ (by omega)
  clear q1 q2 q3 ha hb
  go_enter Try.func94, Try.ntmps94
  go_wp2
  refine bodyPost_ret (v := .agg #[.int .i64 (a1 * b1), .int .i64 (a2 * b2), .int .i64 (a3 * b3)]) ?h1 rfl ⟨rfl, ?_⟩
  case h1 => simp [results, Try.results94, go_sem, *]
  repeat (first | (with_reducible exact Below.refl _ _) | (with_reducible refine Below.drew ?_) | (with_reducible refine below_set ?_ (by first | omega | (simp; omega))) | (with_reducible refine below_new ?_ (by first | omega | (simp; done) | (simp; omega))))

theorem refSum_any (a b c : Int) (w : World) (h1 : -40000000000000000 ≤ a ∧ a ≤ 40000000000000000) (h2 : -40000000000000000 ≤ b ∧ b ≤ 40000000000000000) (h3 : -40000000000000000 ≤ c ∧ c ≤ 40000000000000000) :
    Calls Try.prog 93 #[.agg #[.int .i64 a, .int .i64 b, .int .i64 c]] w fun e w' => e = .returned (.int .i64 (a + b + c)) ∧ Below w.heap.size w w' := by
  have w1 : IntKind.i64.wrap (a + b) = a + b := IntWalk.i64_in _ (by omega)
  have w2 : IntKind.i64.wrap (a + b + c) = a + b + c := IntWalk.i64_in _ (by omega)
  clear h1 h2 h3
  go_enter Try.func93, Try.ntmps93
  go_wp2
  go_ret
  exact ⟨rfl, below_new (Below.refl _ w) (Nat.le_refl _)⟩

/-- the square of the distance of two places -/
def sqP (p1 p2 p3 q1 q2 q3 : Int) : Int := (p1 - q1) * (p1 - q1) + (p2 - q2) * (p2 - q2) + (p3 - q3) * (p3 - q3)
theorem refSquare_any (p1 p2 p3 q1 q2 q3 : Int) (w : World) (hp : Sm p1 ∧ Sm p2 ∧ Sm p3) (hq : Sm q1 ∧ Sm q2 ∧ Sm q3) :
    Calls Try.prog 32 #[.agg #[.int .i64 p1, .int .i64 p2, .int .i64 p3], .agg #[.int .i64 q1, .int .i64 q2, .int .i64 q3]] w fun e w' => e = .returned (.int .i64 (sqP p1 p2 p3 q1 q2 q3)) ∧ Below w.heap.size w w' := by
  have hd : (-200000000 ≤ p1 - q1 ∧ p1 - q1 ≤ 200000000) ∧ (-200000000 ≤ p2 - q2 ∧ p2 - q2 ≤ 200000000) ∧ (-200000000 ≤ p3 - q3 ∧ p3 - q3 ≤ 200000000) := by
    unfold Sm at hp hq
    omega
  have HD := Lib.hid hd
  have HL : Hid (∀ W : World, _) := fun W => less_eq p1 p2 p3 q1 q2 q3 W hp hq
  clear hp hq hd
  have hP := (At.new w 42 #[.int .i64 p1, .int .i64 p2, .int .i64 p3]).alloc (.cells #[.int .i64 q1, .int .i64 q2, .int .i64 q3] 42)
  have hQ : At ((w.alloc (.cells #[.int .i64 p1, .int .i64 p2, .int .i64 p3] 42)).alloc (.cells #[.int .i64 q1, .int .i64 q2, .int .i64 q3] 42)) (w.heap.size + 1) 42 #[.int .i64 q1, .int .i64 q2, .int .i64 q3] := at_new (by simp)
  have hB : Below w.heap.size w ((w.alloc (.cells #[.int .i64 p1, .int .i64 p2, .int .i64 p3] 42)).alloc (.cells #[.int .i64 q1, .int .i64 q2, .int .i64 q3] 42)) := below_new (below_new (Below.refl _ w) (Nat.le_refl _)) (by simp)
  go_enter Try.func32, Try.ntmps32
  go_upto_region 1 with fail
  generalize hW1 : (w.alloc (.cells #[.int .i64 p1, .int .i64 p2, .int .i64 p3] 42)).alloc (.cells #[.int .i64 q1, .int .i64 q2, .int .i64 q3] 42) = W1 at hP hQ hB ⊢
  clear hW1
  have hz : w.heap.size + 1 < W1.heap.size := hQ.lt
  have HSS : Hid (∀ w', Below W1.heap.size W1 w' → w'.cell? ⟨w.heap.size, 0, none⟩ = some (.int .i64 p1) ∧ w'.cell? ⟨w.heap.size, 1, none⟩ = some (.int .i64 p2) ∧ w'.cell? ⟨w.heap.size, 2, none⟩ = some (.int .i64 p3) ∧ w'.cell? ⟨w.heap.size + 1, 0, none⟩ = some (.int .i64 q1) ∧ w'.cell? ⟨w.heap.size + 1, 1, none⟩ = some (.int .i64 q2) ∧ w'.cell? ⟨w.heap.size + 1, 2, none⟩ = some (.int .i64 q3)) := fun w' hW => by
    have qa := hP.keep hW
    have qb := hQ.keep hW
    exact ⟨qa.cell 0, qa.cell 1, qa.cell 2, qb.cell 0, qb.cell 1, qb.cell 2⟩
  obtain ⟨s0, s1, s2, s3, s4, s5⟩ := HSS.out W1 (Below.refl _ _)
  have HB := Lib.hid hB
  clear hP hQ hB
  go_cut [5] (fun s5 wx => ∃ g5 : Nat, s5 = .pointer (some ⟨g5, 0, none⟩) ∧ V3 wx g5 (p1 - q1) (p2 - q2) (p3 - q3) ∧ Below W1.heap.size W1 wx)
  case first =>
    go_region_held3 (fun w' => w'.cell? ⟨w.heap.size, 0, none⟩ = some (.int .i64 p1) ∧ w'.cell? ⟨w.heap.size, 1, none⟩ = some (.int .i64 p2) ∧ w'.cell? ⟨w.heap.size, 2, none⟩ = some (.int .i64 p3) ∧ w'.cell? ⟨w.heap.size + 1, 0, none⟩ = some (.int .i64 q1) ∧ w'.cell? ⟨w.heap.size + 1, 1, none⟩ = some (.int .i64 q2) ∧ w'.cell? ⟨w.heap.size + 1, 2, none⟩ = some (.int .i64 q3)) (first | (refine HSS.out _ ?_; (repeat (first | (with_reducible exact Below.refl _ _) | (with_reducible refine Below.drew ?_) | (with_reducible refine below_drewNs ?_) | (with_reducible refine below_set ?_ (by first | omega | (simp; omega))) | (with_reducible refine below_new ?_ (by first | omega | (simp; done) | (simp; omega))))); done) | go_keep)
      (first
        | (go_at_call 81; (with_reducible refine (refCoordinates_eq _ _ _ _).mono ?_); rintro e w' ⟨rfl, rfl⟩)
        | (go_at_call 80; (with_reducible refine (HL.out _).mono ?_); rintro e w' ⟨rfl, rfl⟩))
    all_goals
      go_wp2_with fail
      go_meet
      refine ⟨_, rfl, v3_drew ?_, ?_⟩
      · repeat (first | ((refine v3_new ?_); simp; done) | refine v3_alloc ?_)
      · repeat (first | (with_reducible exact Below.refl _ _) | (with_reducible refine Below.drew ?_) | (with_reducible refine below_new ?_ (by first | omega | (simp; done) | (simp; omega))))
  case rest =>
    obtain ⟨g5, rfl, hv, hbx⟩ := hcut
    obtain ⟨z1, z2, z3⟩ := hv
    have HBx := Lib.hid (HB.out.trans (hbx.mono HB.out.size))
    have d := HD.out
    have e1 := prod_small d.1 d.1
    have e2 := prod_small d.2.1 d.2.1
    have e3 := prod_small d.2.2 d.2.2
    have HPR : Hid (∀ W : World, _) := fun W => refProduct_any (p1 - q1) (p2 - q2) (p3 - q3) (p1 - q1) (p2 - q2) (p3 - q3) W d d
    have HSU : Hid (∀ W : World, _) := fun W => refSum_any ((p1 - q1) * (p1 - q1)) ((p2 - q2) * (p2 - q2)) ((p3 - q3) * (p3 - q3)) W e1 e2 e3
    clear hbx HSS s0 s1 s2 s3 s4 s5 d e1 e2 e3
    go_wp2_with fail
    refine (HPR.out wc).mono ?_
    rintro e w3 ⟨rfl, hb3⟩
    go_wp2_with fail
    refine (HSU.out w3).mono ?_
    rintro e w4 ⟨rfl, hb4⟩
    have HBy := Lib.hid (HBx.out.trans ((below_two hb3 hb4).mono HBx.out.size))
    clear hb3 hb4
    go_wp2
    go_ret
    exact ⟨rfl, HBy.out⟩
end Go.Proofs.Ytegmjanpeaibcaa
