/- Contract of the reference: the side on which a place lies. -/
import Derived.Test.YtegmjanpeaibcaaOsd
import Derived.Test.YtegmjanpeaibcaaOpt
namespace Go.Proofs.Ytegmjanpeaibcaa
open Go.RowKit
set_option maxHeartbeats 1600000
set_option maxRecDepth 100000

theorem refSideOf_any (s : ByteArray) (b : Int) (A : Option Addr) (n c : Nat) (S : Nat → Nat → Int) (k : Nat) (p1 p2 p3 : Int) (w : World) (hS : St w A n S) (hR : Right S n b) (hk : k + 1 < n) (hp : pe p1 p2 p3 = 0) (hn : n ≤ c) (hc : c ≤ maxLen) :
    Calls Try.prog 37 #[.agg #[.string s, .int .i64 b, .slice A n c], .int .i64 (k : Int), .agg #[.int .i64 p1, .int .i64 p2, .int .i64 p3]] w fun e w' => e = .returned (.int .i64 (sideQ (turnV S k p1 p2))) ∧ Below w.heap.size w w' := by
  have hpp := pe_zero hp
  have x1s : Sm (S k 1) := (hR.st (j := k) (by omega) (c := 1) (by omega)).1
  have x2s : Sm (S k 2) := (hR.st (j := k) (by omega) (c := 2) (by omega)).1
  have y1s : Sm (S (k + 1) 1) := (hR.st (j := k + 1) hk (c := 1) (by omega)).1
  have y2s : Sm (S (k + 1) 2) := (hR.st (j := k + 1) hk (c := 2) (by omega)).1
  obtain ⟨bk, off, rfl, hbk, hc5⟩ := hS.at (by omega)
  obtain ⟨_, r1, r2, r3, _⟩ := hc5 k (by omega)
  obtain ⟨_, q1, q2, q3, _⟩ := hc5 (k + 1) hk
  unfold turnV
  generalize S (k + 1) 1 = y1 at *
  generalize S (k + 1) 2 = y2 at *
  generalize S (k + 1) 3 = y3 at *
  generalize S k 1 = x1 at *
  generalize S k 2 = x2 at *
  generalize S k 3 = x3 at *
  obtain ⟨v1, v2, v3, v4, v5, v6, v7⟩ := side_nums x1s x2s y1s y2s hpp.1 hpp.2.1
  have hA3 := (At.new w 24 #[.string s, .int .i64 b, .slice (some ⟨bk, off, none⟩) n c]).alloc (.cells #[.int .i64 p1, .int .i64 p2, .int .i64 p3] 42)
  have hL3 : At ((w.alloc (.cells #[.string s, .int .i64 b, .slice (some ⟨bk, off, none⟩) n c] 24)).alloc (.cells #[.int .i64 p1, .int .i64 p2, .int .i64 p3] 42)) (w.heap.size + 1) 42 #[.int .i64 p1, .int .i64 p2, .int .i64 p3] := at_new (by simp)
  have hB3 : Below w.heap.size w ((w.alloc (.cells #[.string s, .int .i64 b, .slice (some ⟨bk, off, none⟩) n c] 24)).alloc (.cells #[.int .i64 p1, .int .i64 p2, .int .i64 p3] 42)) := below_new (below_new (Below.refl _ w) (Nat.le_refl _)) (by simp)
  have hcell : ∀ o v, w.cell? ⟨bk, o, none⟩ = some v → ((w.alloc (.cells #[.string s, .int .i64 b, .slice (some ⟨bk, off, none⟩) n c] 24)).alloc (.cells #[.int .i64 p1, .int .i64 p2, .int .i64 p3] 42)).cell? ⟨bk, o, none⟩ = some v := fun o v h => (hB3.cell (p := ⟨bk, o, none⟩) hbk).trans h
  have l1 := hcell _ _ r1
  have l2 := hcell _ _ r2
  have l3 := hcell _ _ r3
  have m1 := hcell _ _ q1
  have m2 := hcell _ _ q2
  have m3 := hcell _ _ q3
  have u0 : (0 : Int) ≤ (k : Int) := by omega
  have u1 : (k : Int) < (n : Int) := by omega
  have u2 : (k : Int) + 1 < (n : Int) := by omega
  have u3 : (0 : Int) ≤ (k : Int) + 1 := by omega
  have u4 : ((k : Int) + 1).toNat = k + 1 := by omega
  have hm := Nat.le_trans hn hc
  have u5 : IntKind.i64.wrap ((k : Int) + 1) = (k : Int) + 1 := IntWalk.i64_in _ (by unfold maxLen at hm; omega)
  have HV7 := Lib.hid v7
  clear hm hcell r1 r2 r3 q1 q2 q3 x1s x2s y1s y2s hp hpp hR hk v7 hS hc5 hn hc
  go_enter Try.func37, Try.ntmps37
  go_upto_region 1 with fail
  generalize hW3 : ((w.alloc (.cells #[.string s, .int .i64 b, .slice (some ⟨bk, off, none⟩) n c] 24)).alloc (.cells #[.int .i64 p1, .int .i64 p2, .int .i64 p3] 42)) = W3 at hA3 hL3 hB3 l1 l2 l3 m1 m2 m3 ⊢
  have hz : w.heap.size + 1 < W3.heap.size := hL3.lt
  have hz2 : bk < W3.heap.size := by omega
  clear hW3
  have HSS : Hid (∀ w', Below W3.heap.size W3 w' → w'.cell? ⟨w.heap.size, 2, none⟩ = some (.slice (some ⟨bk, off, none⟩) n c) ∧ w'.cell? ⟨bk, off + k * 5 + 1, none⟩ = some (.int .i64 x1) ∧ w'.cell? ⟨bk, off + k * 5 + 2, none⟩ = some (.int .i64 x2) ∧ w'.cell? ⟨bk, off + k * 5 + 3, none⟩ = some (.int .i64 x3) ∧ w'.cell? ⟨bk, off + (k + 1) * 5 + 1, none⟩ = some (.int .i64 y1) ∧ w'.cell? ⟨bk, off + (k + 1) * 5 + 2, none⟩ = some (.int .i64 y2) ∧ w'.cell? ⟨bk, off + (k + 1) * 5 + 3, none⟩ = some (.int .i64 y3)) := fun w' hW => by
    have qa := hA3.keep hW
    have q (o : Nat) (v : Value) (h : W3.cell? ⟨bk, o, none⟩ = some v) : w'.cell? ⟨bk, o, none⟩ = some v := (hW.cell (p := ⟨bk, o, none⟩) hz2).trans h
    exact ⟨qa.cell 2, q _ _ l1, q _ _ l2, q _ _ l3, q _ _ m1, q _ _ m2, q _ _ m3⟩
  obtain ⟨s0, s1, s2, s3, s4, s5, s6⟩ := HSS.out W3 (Below.refl _ _)
  have HB3 := Lib.hid hB3
  have HL3 := Lib.hid hL3
  clear hA3 hL3 hB3 l1 l2 l3 m1 m2 m3
  go_cut [7, 8] (fun s7 s8 wx => ∃ g7 g8 : Nat, s7 = .pointer (some ⟨g7, 0, none⟩) ∧ s8 = .pointer (some ⟨g8, 0, none⟩) ∧ At wx g7 42 #[.int .i64 x1, .int .i64 x2, .int .i64 x3] ∧ At wx g8 42 #[.int .i64 y1, .int .i64 y2, .int .i64 y3] ∧ Below W3.heap.size W3 wx)
  case first =>
    go_region_held3 (fun w' => w'.cell? ⟨w.heap.size, 2, none⟩ = some (.slice (some ⟨bk, off, none⟩) n c) ∧ w'.cell? ⟨bk, off + k * 5 + 1, none⟩ = some (.int .i64 x1) ∧ w'.cell? ⟨bk, off + k * 5 + 2, none⟩ = some (.int .i64 x2) ∧ w'.cell? ⟨bk, off + k * 5 + 3, none⟩ = some (.int .i64 x3) ∧ w'.cell? ⟨bk, off + (k + 1) * 5 + 1, none⟩ = some (.int .i64 y1) ∧ w'.cell? ⟨bk, off + (k + 1) * 5 + 2, none⟩ = some (.int .i64 y2) ∧ w'.cell? ⟨bk, off + (k + 1) * 5 + 3, none⟩ = some (.int .i64 y3)) (first | (refine HSS.out _ ?_; (repeat (first | (with_reducible exact Below.refl _ _) | (with_reducible refine Below.drew ?_) | (with_reducible refine below_drewNs ?_) | (with_reducible refine below_set ?_ (by first | omega | (simp; omega))) | (with_reducible refine below_new ?_ (by first | omega | (simp; done) | (simp; omega))))); done) | go_keep) (fail)
    all_goals
      go_wp2_with fail
      go_meet
      refine ⟨_, _, rfl, rfl, ?_, ?_, ?_⟩
      · repeat (first | (with_reducible assumption) | (with_reducible refine at_drew ?_) | ((with_reducible refine at_new ?_); first | omega | (simp; done)) | (with_reducible refine At.alloc ?_ _) | ((with_reducible refine at_farB ?_ ?_); rotate_left; (focus first | omega | (simp; omega))))
      · repeat (first | (with_reducible assumption) | (with_reducible refine at_drew ?_) | ((with_reducible refine at_new ?_); first | omega | (simp; done)) | (with_reducible refine At.alloc ?_ _) | ((with_reducible refine at_farB ?_ ?_); rotate_left; (focus first | omega | (simp; omega))))
      · repeat (first | (with_reducible assumption) | (with_reducible exact Below.refl _ _) | (with_reducible refine Below.drew ?_) | (with_reducible refine below_drewNs ?_) | (with_reducible refine below_set ?_ (by first | omega | (simp; omega))) | (with_reducible refine below_new ?_ (by first | omega | (simp; done) | (simp; omega))))
  case rest =>
    obtain ⟨g7, g8, rfl, rfl, hX, hY, hbx⟩ := hcut
    have hL := HL3.out.keep hbx
    have z1 := hX.cell 0
    have z2 := hX.cell 1
    have z3 := hY.cell 0
    have z4 := hY.cell 1
    have z5 := hL.cell 0
    have z6 := hL.cell 1
    simp at z1 z2 z3 z4 z5 z6
    have HBx := Lib.hid (HB3.out.trans (hbx.mono HB3.out.size))
    obtain ⟨q, hq⟩ : ∃ q, q = (y1 - x1) * (p2 - x2) - (y2 - x2) * (p1 - x1) := ⟨_, rfl⟩
    have v7 : IntKind.i64.wrap ((y1 - x1) * (p2 - x2) - (y2 - x2) * (p1 - x1)) = q := HV7.out.trans hq.symm
    have HQ := Lib.hid hq
    clear hq HV7 hbx hX hY hL HSS s0 s1 s2 s3 s4 s5 s6
    rcases Int.lt_trichotomy q 0 with g | g | g
    · have d2 : ¬ 0 < q := by omega
      have hsd : sideQ q = 2 := by unfold sideQ; rw [if_neg d2, if_pos g]
      have HSD := Lib.hid hsd
      clear hsd
      go_wp2
      go_ret
      refine ⟨?_, HBx.out⟩
      rw [← HQ.out, HSD.out]
      rfl
    · have d2 : ¬ 0 < q := by omega
      have d3 : ¬ q < 0 := by omega
      have hsd : sideQ q = 0 := by unfold sideQ; rw [if_neg d2, if_neg d3]
      have HSD := Lib.hid hsd
      clear hsd
      go_wp2
      go_ret
      refine ⟨?_, HBx.out⟩
      rw [← HQ.out, HSD.out]
      rfl
    · have hsd : sideQ q = 1 := by unfold sideQ; rw [if_pos g]
      have HSD := Lib.hid hsd
      clear hsd
      go_wp2
      go_ret
      refine ⟨?_, HBx.out⟩
      rw [← HQ.out, HSD.out]
      rfl
end Go.Proofs.Ytegmjanpeaibcaa
