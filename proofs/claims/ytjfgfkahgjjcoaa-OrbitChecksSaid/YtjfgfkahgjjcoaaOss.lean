/- Contract of the reference: the speed of an arc. -/
import Derived.Test.YtjfgfkahgjjcoaaOsp
import Derived.Test.YtjfgfkahgjjcoaaOsr
namespace Go.Proofs.Ytjfgfkahgjjcoaa
open Go.RowKit
set_option maxHeartbeats 1600000
set_option maxRecDepth 100000

theorem refSpeedOf_any (s : ByteArray) (b : Int) (A : Option Addr) (n c : Nat) (S : Nat → Nat → Int) (k : Nat) (w : World) (hS : St w A n S) (hR : Right S n b) (hk : k + 1 < n) (hn : n ≤ c) (hc : c ≤ maxLen) :
    Calls Try.prog 22 #[.agg #[.string s, .int .i64 b, .slice A n c], .int .i64 (k : Int)] w fun e w' => e = .returned (spV S k) ∧ Below w.heap.size w w' := by
  have x1s : Sm (S k 1) := (hR.st (j := k) (by omega) (c := 1) (by omega)).1
  have x2s : Sm (S k 2) := (hR.st (j := k) (by omega) (c := 2) (by omega)).1
  have x3s : Sm (S k 3) := (hR.st (j := k) (by omega) (c := 3) (by omega)).1
  have y1s : Sm (S (k + 1) 1) := (hR.st (j := k + 1) hk (c := 1) (by omega)).1
  have y2s : Sm (S (k + 1) 2) := (hR.st (j := k + 1) hk (c := 2) (by omega)).1
  have y3s : Sm (S (k + 1) 3) := (hR.st (j := k + 1) hk (c := 3) (by omega)).1
  have hspn := hR.spn hk
  unfold spn at hspn
  have x0s := (hR.2.2.2.1 k (by omega)).1
  have y0s := (hR.2.2.2.1 (k + 1) hk).1
  obtain ⟨bk, off, rfl, hbk, hc5⟩ := hS.at (by omega)
  obtain ⟨r0, r1, r2, r3, r4⟩ := hc5 k (by omega)
  obtain ⟨q0, q1, q2, q3, q4⟩ := hc5 (k + 1) hk
  unfold spV
  generalize S (k + 1) 0 = y0 at *
  generalize S (k + 1) 1 = y1 at *
  generalize S (k + 1) 2 = y2 at *
  generalize S (k + 1) 3 = y3 at *
  generalize S (k + 1) 4 = y4 at *
  generalize S k 0 = x0 at *
  generalize S k 1 = x1 at *
  generalize S k 2 = x2 at *
  generalize S k 3 = x3 at *
  generalize S k 4 = x4 at *
  have HD1 : Hid (∀ W : World, _) := fun W => less_eq y1 y2 y3 x1 x2 x3 W ⟨y1s, y2s, y3s⟩ ⟨x1s, x2s, x3s⟩
  have hdd : ∀ k, k < 3 → -4611686018427387904 ≤ nth (y1 - x1) (y2 - x2) (y3 - x3) k ∧ nth (y1 - x1) (y2 - x2) (y3 - x3) k ≤ 4611686018427387904 := fun k hk => by
    unfold Sm at *
    match k, hk with
    | 0, _ => show _ ≤ y1 - x1 ∧ y1 - x1 ≤ _; omega
    | 1, _ => show _ ≤ y2 - x2 ∧ y2 - x2 ≤ _; omega
    | 2, _ => show _ ≤ y3 - x3 ∧ y3 - x3 ≤ _; omega
  have HDD := Lib.hid hdd
  have u0 : (0 : Int) ≤ (k : Int) := by omega
  have u1 : (k : Int) < (n : Int) := by omega
  have u2 : (k : Int) + 1 < (n : Int) := by omega
  have u3 : (0 : Int) ≤ (k : Int) + 1 := by omega
  have u4 : ((k : Int) + 1).toNat = k + 1 := by omega
  have hm := Nat.le_trans hn hc
  have u5 : IntKind.i64.wrap ((k : Int) + 1) = (k : Int) + 1 := IntWalk.i64_in _ (by unfold maxLen at hm; omega)
  have v0 : IntKind.i64.wrap (y0 - x0) = y0 - x0 := IntWalk.i64_in _ (by omega)
  have hz1 : 0 < y0 - x0 ∧ y0 - x0 ≤ 4611686018427387904 := by omega
  have HZ1 := Lib.hid hz1
  have hA3 : At ((w.alloc (.cells #[.string s, .int .i64 b, .slice (some ⟨bk, off, none⟩) n c] 24)).alloc (.cells #[.int .i64 0, .int .i64 0, .int .i64 0, .int .i64 0, .int .i64 0, .int .i64 0] 33)) w.heap.size 24 #[.string s, .int .i64 b, .slice (some ⟨bk, off, none⟩) n c] := (At.new w _ _).alloc _
  have hL3 : At ((w.alloc (.cells #[.string s, .int .i64 b, .slice (some ⟨bk, off, none⟩) n c] 24)).alloc (.cells #[.int .i64 0, .int .i64 0, .int .i64 0, .int .i64 0, .int .i64 0, .int .i64 0] 33)) (w.heap.size + 1) 33 #[.int .i64 0, .int .i64 0, .int .i64 0, .int .i64 0, .int .i64 0, .int .i64 0] := at_new (by simp)
  have hB3 : Below w.heap.size w ((w.alloc (.cells #[.string s, .int .i64 b, .slice (some ⟨bk, off, none⟩) n c] 24)).alloc (.cells #[.int .i64 0, .int .i64 0, .int .i64 0, .int .i64 0, .int .i64 0, .int .i64 0] 33)) := below_new (below_new (Below.refl _ w) (Nat.le_refl _)) (by simp)
  have hcell : ∀ o v, w.cell? ⟨bk, o, none⟩ = some v → ((w.alloc (.cells #[.string s, .int .i64 b, .slice (some ⟨bk, off, none⟩) n c] 24)).alloc (.cells #[.int .i64 0, .int .i64 0, .int .i64 0, .int .i64 0, .int .i64 0, .int .i64 0] 33)).cell? ⟨bk, o, none⟩ = some v := fun o v h => (hB3.cell (p := ⟨bk, o, none⟩) hbk).trans h
  have l0 := hcell _ _ r0
  have l1 := hcell _ _ r1
  have l2' := hcell _ _ r2
  have l3' := hcell _ _ r3
  have l4 := hcell _ _ r4
  have m0 := hcell _ _ q0
  have m1 := hcell _ _ q1
  have m2 := hcell _ _ q2
  have m3 := hcell _ _ q3
  have m4 := hcell _ _ q4
  clear hz1 hm x1s x2s x3s y1s y2s y3s hR hk hc5 hdd hspn x0s y0s hS hn hc hcell r0 r1 r2 r3 r4 q0 q1 q2 q3 q4
  go_enter Try.func22, Try.ntmps22
  go_upto_region 1 with fail
  generalize hW3 : ((w.alloc (.cells #[.string s, .int .i64 b, .slice (some ⟨bk, off, none⟩) n c] 24)).alloc (.cells #[.int .i64 0, .int .i64 0, .int .i64 0, .int .i64 0, .int .i64 0, .int .i64 0] 33)) = W3 at hA3 hL3 hB3 l0 l1 l2' l3' l4 m0 m1 m2 m3 m4 ⊢
  have hz : w.heap.size + 1 < W3.heap.size := hL3.lt
  have hz2 : bk < W3.heap.size := by omega
  clear hW3
  have HSS : Hid (∀ w', Below W3.heap.size W3 w' → w'.cell? ⟨w.heap.size, 2, none⟩ = some (.slice (some ⟨bk, off, none⟩) n c) ∧ w'.cell? ⟨bk, off + k * 5, none⟩ = some (.int .i64 x0) ∧ w'.cell? ⟨bk, off + k * 5 + 1, none⟩ = some (.int .i64 x1) ∧ w'.cell? ⟨bk, off + k * 5 + 2, none⟩ = some (.int .i64 x2) ∧ w'.cell? ⟨bk, off + k * 5 + 3, none⟩ = some (.int .i64 x3) ∧ w'.cell? ⟨bk, off + k * 5 + 4, none⟩ = some (.int .i64 x4) ∧ w'.cell? ⟨bk, off + (k + 1) * 5, none⟩ = some (.int .i64 y0) ∧ w'.cell? ⟨bk, off + (k + 1) * 5 + 1, none⟩ = some (.int .i64 y1) ∧ w'.cell? ⟨bk, off + (k + 1) * 5 + 2, none⟩ = some (.int .i64 y2) ∧ w'.cell? ⟨bk, off + (k + 1) * 5 + 3, none⟩ = some (.int .i64 y3) ∧ w'.cell? ⟨bk, off + (k + 1) * 5 + 4, none⟩ = some (.int .i64 y4)) := fun w' hW => by
    have qa := hA3.keep hW
    have q (o : Nat) (v : Value) (h : W3.cell? ⟨bk, o, none⟩ = some v) : w'.cell? ⟨bk, o, none⟩ = some v := (hW.cell (p := ⟨bk, o, none⟩) hz2).trans h
    exact ⟨qa.cell 2, q _ _ l0, q _ _ l1, q _ _ l2', q _ _ l3', q _ _ l4, q _ _ m0, q _ _ m1, q _ _ m2, q _ _ m3, q _ _ m4⟩
  obtain ⟨s0, s1, s2, s3, s4, s5, s6, s7, s8, s9, s10⟩ := HSS.out W3 (Below.refl _ _)
  have HB3 := Lib.hid hB3
  have HL3 := Lib.hid hL3
  clear hA3 hL3 hB3 l0 l1 l2' l3' l4 m0 m1 m2 m3 m4
  go_cut [5, 6] (fun s5 s6 wx => ∃ g5 g6 : Nat, s5 = .pointer (some ⟨g5, 0, none⟩) ∧ s6 = .pointer (some ⟨g6, 0, none⟩) ∧ At wx g5 56 #[.int .i64 x0, .int .i64 x1, .int .i64 x2, .int .i64 x3, .int .i64 x4] ∧ At wx g6 56 #[.int .i64 y0, .int .i64 y1, .int .i64 y2, .int .i64 y3, .int .i64 y4] ∧ Below W3.heap.size W3 wx)
  case first =>
    go_region_held3 (fun w' => w'.cell? ⟨w.heap.size, 2, none⟩ = some (.slice (some ⟨bk, off, none⟩) n c) ∧ w'.cell? ⟨bk, off + k * 5, none⟩ = some (.int .i64 x0) ∧ w'.cell? ⟨bk, off + k * 5 + 1, none⟩ = some (.int .i64 x1) ∧ w'.cell? ⟨bk, off + k * 5 + 2, none⟩ = some (.int .i64 x2) ∧ w'.cell? ⟨bk, off + k * 5 + 3, none⟩ = some (.int .i64 x3) ∧ w'.cell? ⟨bk, off + k * 5 + 4, none⟩ = some (.int .i64 x4) ∧ w'.cell? ⟨bk, off + (k + 1) * 5, none⟩ = some (.int .i64 y0) ∧ w'.cell? ⟨bk, off + (k + 1) * 5 + 1, none⟩ = some (.int .i64 y1) ∧ w'.cell? ⟨bk, off + (k + 1) * 5 + 2, none⟩ = some (.int .i64 y2) ∧ w'.cell? ⟨bk, off + (k + 1) * 5 + 3, none⟩ = some (.int .i64 y3) ∧ w'.cell? ⟨bk, off + (k + 1) * 5 + 4, none⟩ = some (.int .i64 y4)) (first | (refine HSS.out _ ?_; (repeat (first | (with_reducible exact Below.refl _ _) | (with_reducible refine Below.drew ?_) | (with_reducible refine below_drewNs ?_) | (with_reducible refine below_set ?_ (by first | omega | (simp; omega))) | (with_reducible refine below_new ?_ (by first | omega | (simp; done) | (simp; omega))))); done) | go_keep) (fail)
    all_goals
      go_wp2_with fail
      go_meet
      refine ⟨_, _, rfl, rfl, ?_, ?_, ?_⟩
      · (repeat (first | (with_reducible assumption) | (with_reducible refine at_drew ?_) | ((with_reducible refine at_new ?_); first | omega | (simp; done)) | (with_reducible refine At.alloc ?_ _) | ((with_reducible refine at_farB ?_ ?_); rotate_left; (focus first | omega | (simp; omega)))))
      · (repeat (first | (with_reducible assumption) | (with_reducible refine at_drew ?_) | ((with_reducible refine at_new ?_); first | omega | (simp; done)) | (with_reducible refine At.alloc ?_ _) | ((with_reducible refine at_farB ?_ ?_); rotate_left; (focus first | omega | (simp; omega)))))
      · (repeat (first | (with_reducible assumption) | (with_reducible exact Below.refl _ _) | (with_reducible refine Below.drew ?_) | (with_reducible refine below_drewNs ?_) | (with_reducible refine below_set ?_ (by first | omega | (simp; omega))) | (with_reducible refine below_new ?_ (by first | omega | (simp; done) | (simp; omega)))))
  case rest =>
    obtain ⟨w4, hw4⟩ : ∃ x, x = wc := ⟨_, rfl⟩
    subst hw4
    obtain ⟨g5, g6, rfl, rfl, hX, hY, hbx⟩ := hcut
    have HX := Lib.hid hX
    have HY := Lib.hid hY
    have HL4 := Lib.hid (HL3.out.keep hbx)
    have HB4 := Lib.hid (HB3.out.trans (hbx.mono HB3.out.size))
    have hg5 := hX.lt
    have hg6 := hY.lt
    clear hX hY hbx HSS s0 s1 s2 s3 s4 s5 s6 s7 s8 s9 s10
    have HSS : Hid (∀ w', Below w4.heap.size w4 w' → w'.cell? ⟨g5, 1, none⟩ = some (.int .i64 x1) ∧ w'.cell? ⟨g5, 2, none⟩ = some (.int .i64 x2) ∧ w'.cell? ⟨g5, 3, none⟩ = some (.int .i64 x3) ∧ w'.cell? ⟨g6, 1, none⟩ = some (.int .i64 y1) ∧ w'.cell? ⟨g6, 2, none⟩ = some (.int .i64 y2) ∧ w'.cell? ⟨g6, 3, none⟩ = some (.int .i64 y3)) := fun w' hW => by
      have qa := HX.out.keep hW
      have qb := HY.out.keep hW
      exact ⟨qa.cell 1, qa.cell 2, qa.cell 3, qb.cell 1, qb.cell 2, qb.cell 3⟩
    obtain ⟨s0, s1, s2, s3, s4, s5⟩ := HSS.out w4 (Below.refl _ _)
    go_upto_region 2 with fail
    go_cut [7] (fun s7 wx => ∃ g7 : Nat, s7 = .pointer (some ⟨g7, 0, none⟩) ∧ V3 wx g7 (y1 - x1) (y2 - x2) (y3 - x3) ∧ Below w4.heap.size w4 wx)
    case first =>
      go_region_held3 (fun w' => w'.cell? ⟨g5, 1, none⟩ = some (.int .i64 x1) ∧ w'.cell? ⟨g5, 2, none⟩ = some (.int .i64 x2) ∧ w'.cell? ⟨g5, 3, none⟩ = some (.int .i64 x3) ∧ w'.cell? ⟨g6, 1, none⟩ = some (.int .i64 y1) ∧ w'.cell? ⟨g6, 2, none⟩ = some (.int .i64 y2) ∧ w'.cell? ⟨g6, 3, none⟩ = some (.int .i64 y3)) (first | (refine HSS.out _ ?_; (repeat (first | (with_reducible exact Below.refl _ _) | (with_reducible refine Below.drew ?_) | (with_reducible refine below_drewNs ?_) | (with_reducible refine below_set ?_ (by first | omega | (simp; omega))) | (with_reducible refine below_new ?_ (by first | omega | (simp; done) | (simp; omega))))); done) | go_keep)
        (first
          | (go_at_call 81; (with_reducible refine (refCoordinates_eq _ _ _ _).mono ?_); rintro e w' ⟨rfl, rfl⟩)
          | (go_at_call 80; (with_reducible refine (HD1.out _).mono ?_); rintro e w' ⟨rfl, rfl⟩))
      all_goals
        go_wp2_with fail
        go_meet
        refine ⟨_, rfl, v3_drew ?_, ?_⟩
        · repeat (first | ((refine v3_new ?_); simp; done) | refine v3_alloc ?_)
        · repeat (first | (with_reducible exact Below.refl _ _) | (with_reducible refine Below.drew ?_) | (with_reducible refine below_new ?_ (by first | omega | (simp; done) | (simp; omega))))
    case rest =>
      obtain ⟨g7, rfl, hv, hbx⟩ := hcut
      have hlx : g5 < wc.heap.size ∧ g6 < wc.heap.size := ⟨Nat.lt_of_lt_of_le hg5 hbx.size, Nat.lt_of_lt_of_le hg6 hbx.size⟩
      have hl7 : g7 < wc.heap.size := lt_cell hv.1
      have hlr : w.heap.size + 1 < wc.heap.size := (HL4.out.keep hbx).lt
      have hlw : w.heap.size ≤ wc.heap.size := by omega
      have hbn := below_new (Below.refl _ wc) (Nat.le_refl _) (o := .cells #[.int .i64 0, .int .i64 0, .int .i64 0, .int .i64 0, .int .i64 0, .int .i64 0] 33)
      have HX5 := Lib.hid ((HX.out.keep hbx).alloc (.cells #[.int .i64 0, .int .i64 0, .int .i64 0, .int .i64 0, .int .i64 0, .int .i64 0] 33))
      have HY5 := Lib.hid ((HY.out.keep hbx).alloc (.cells #[.int .i64 0, .int .i64 0, .int .i64 0, .int .i64 0, .int .i64 0, .int .i64 0] 33))
      have HL5 := Lib.hid ((HL4.out.keep hbx).alloc (.cells #[.int .i64 0, .int .i64 0, .int .i64 0, .int .i64 0, .int .i64 0, .int .i64 0] 33))
      have HV5 := Lib.hid (v3_below hv hbn)
      have HO5 := Lib.hid (At.new wc 33 #[.int .i64 0, .int .i64 0, .int .i64 0, .int .i64 0, .int .i64 0, .int .i64 0])
      have HB5 := Lib.hid ((HB4.out.trans (hbx.mono HB4.out.size)).trans (hbn.mono hlw))
      clear hv hbx hbn HSS s0 s1 s2 s3 s4 s5 HD1 HX HY HL4 HB4 HL3 HB3
      go_wp2_with fail
      generalize hW5 : wc.alloc (.cells #[.int .i64 0, .int .i64 0, .int .i64 0, .int .i64 0, .int .i64 0, .int .i64 0] 33) = w5 at HX5 HY5 HL5 HV5 HO5 HB5 ⊢
      clear hW5
      go_loopw [9] (fun i wr => ∃ k : Nat, k ≤ 3 ∧ i = .int .i64 (k : Int) ∧ At wr wc.heap.size 33 (bc (nuF (y0 - x0) (y1 - x1) (y2 - x2) (y3 - x3)) (deF (y0 - x0) (y1 - x1) (y2 - x2) (y3 - x3)) k) ∧ Below wc.heap.size w5 wr) (fun i _ => 3 - (intOf i).toNat)
      case atStart => exact ⟨0, by omega, rfl, HO5.out, Below.refl _ _⟩
      case round =>
        obtain ⟨kk, hkk, rfl, hAr, hwr⟩ := hrel
        have HAR := Lib.hid hAr
        have HWR := Lib.hid hwr
        have hzk : wc.heap.size < wr.heap.size := hAr.lt
        by_cases hlt : kk < 3
        · have hx : At wr g5 56 #[.int .i64 x0, .int .i64 x1, .int .i64 x2, .int .i64 x3, .int .i64 x4] := (hwr.block g5 hlx.1).trans HX5.out
          have hy : At wr g6 56 #[.int .i64 y0, .int .i64 y1, .int .i64 y2, .int .i64 y3, .int .i64 y4] := (hwr.block g6 hlx.2).trans HY5.out
          have hSL : ∀ w', Below wr.heap.size wr w' → w'.cell? ⟨g7, kk, none⟩ = some (.int .i64 (nth (y1 - x1) (y2 - x2) (y3 - x3) kk)) ∧ w'.cell? ⟨g6, 0, none⟩ = some (.int .i64 y0) ∧ w'.cell? ⟨g5, 0, none⟩ = some (.int .i64 x0) := fun w' hW => by
            have q := hx.keep hW
            have r := hy.keep hW
            have e5 := (hwr.cell (p := ⟨g7, kk, none⟩) hl7).trans (v3_nth HV5.out hlt)
            exact ⟨(hW.cell (p := ⟨g7, kk, none⟩) (by show g7 < wr.heap.size; omega)).trans e5, r.cell 0, q.cell 0⟩
          have HSL := Lib.hid hSL
          have HLW : Hid (∀ W : World, Below wr.heap.size wr W → Calls Try.prog 82 #[.int .i64 (nth (y1 - x1) (y2 - x2) (y3 - x3) kk), .int .i64 (y0 - x0)] W fun e w' => e = .returned (.agg #[.int .i64 (nuF (y0 - x0) (y1 - x1) (y2 - x2) (y3 - x3) kk), .int .i64 (deF (y0 - x0) (y1 - x1) (y2 - x2) (y3 - x3) kk)]) ∧ Below wr.heap.size wr w' ∧ (w'.cell? ⟨wc.heap.size, kk * 2, none⟩ = some (.int .i64 0) ∧ w'.cell? ⟨wc.heap.size, kk * 2 + 1, none⟩ = some (.int .i64 0) ∧ w'.frozen? ⟨wc.heap.size, kk * 2, none⟩ = false ∧ w'.frozen? ⟨wc.heap.size, kk * 2 + 1, none⟩ = false) ∧ w'.cell? ⟨g7, kk, none⟩ = some (.int .i64 (nth (y1 - x1) (y2 - x2) (y3 - x3) kk)) ∧ w'.cell? ⟨g6, 0, none⟩ = some (.int .i64 y0) ∧ w'.cell? ⟨g5, 0, none⟩ = some (.int .i64 x0)) := by
            intro W hW
            refine (baseLowest_any _ _ W (HDD.out kk hlt) HZ1.out.1 HZ1.out.2).mono ?_
            rintro e w' ⟨rfl, hb⟩
            have hB := hW.trans (hb.mono hW.size)
            have hA7 := HAR.out.keep hB
            exact ⟨rfl, hB, ⟨(hA7.cell (kk * 2)).trans (bc_get _ _ hlt).1, (hA7.cell (kk * 2 + 1)).trans (bc_get _ _ hlt).2, hA7.free _, hA7.free _⟩, HSL.out _ hB⟩
          have HFAR : Hid (∀ (W : World) (i j g : Nat) (u v : Value), g < wc.heap.size → W.cell? ⟨g, j, none⟩ = some v → (W.setCell ⟨wc.heap.size, i, none⟩ u).cell? ⟨g, j, none⟩ = some v) := fun W i j g u v hg hv =>
            (World.cell?_setCell_other _ _ _ _ (by intro e; injection e with e1; omega)).trans hv
          obtain ⟨t0, t1, t2⟩ := hSL wr (Below.refl _ _)
          have k0 : (0 : Int) ≤ (kk : Int) := by omega
          have k3 : (kk : Int) < 3 := by omega
          clear hAr hwr hx hy hSL
          go_wp2_with fail
          go_region_held3 (fun w' => w'.cell? ⟨g7, kk, none⟩ = some (.int .i64 (nth (y1 - x1) (y2 - x2) (y3 - x3) kk)) ∧ w'.cell? ⟨g6, 0, none⟩ = some (.int .i64 y0) ∧ w'.cell? ⟨g5, 0, none⟩ = some (.int .i64 x0)) (first | (exact ⟨HFAR.out _ _ _ _ _ _ hl7 (HFAR.out _ _ _ _ _ _ hl7 z0), HFAR.out _ _ _ _ _ _ hlx.2 (HFAR.out _ _ _ _ _ _ hlx.2 z1), HFAR.out _ _ _ _ _ _ hlx.1 (HFAR.out _ _ _ _ _ _ hlx.1 z2)⟩) | (refine HSL.out _ ?_; (repeat (first | (with_reducible exact Below.refl _ _) | (with_reducible refine Below.drew ?_) | (with_reducible refine below_drewNs ?_) | (with_reducible refine below_set ?_ (by first | omega | (simp; omega))) | (with_reducible refine below_new ?_ (by first | omega | (simp; done) | (simp; omega))))); done) | go_keep)
            (first
              | (go_at_call 82; (with_reducible refine (HLW.out _ ?_).mono ?_); (repeat (first | assumption | (with_reducible exact Below.refl _ _) | (with_reducible refine Below.drew ?_) | (with_reducible refine below_drewNs ?_))); rintro e w7 ⟨rfl, hb7, ⟨e3, e3', e4, e4'⟩, z0, z1, z2⟩))
          all_goals
            have HA7 := Lib.hid (HAR.out.keep hb7)
            have HB7 := Lib.hid (HWR.out.trans (hb7.mono (Nat.le_of_lt hzk)))
            clear hb7 z0 z1 z2 t0 t1 t2
            go_wp2
            go_roundw
            case rel =>
              refine ⟨kk + 1, by omega, by go_num, ?_, ?_⟩
              · rw [← bc_put _ _ hlt]
                exact (HA7.out.put (kk * 2) _).put (kk * 2 + 1) _
              · have hb77 := HB7.out
                (repeat (first | (with_reducible assumption) | (with_reducible exact Below.refl _ _) | (with_reducible refine Below.drew ?_) | (with_reducible refine below_drewNs ?_) | (with_reducible refine below_set ?_ (by first | omega | (simp; omega))) | (with_reducible refine below_new ?_ (by first | omega | (simp; done) | (simp; omega)))))
            case measure => simp [intOf]; omega
        · obtain rfl : kk = 3 := by omega
          have ho2 : At wr wc.heap.size 33 #[.int .i64 (nuF (y0 - x0) (y1 - x1) (y2 - x2) (y3 - x3) 0), .int .i64 (deF (y0 - x0) (y1 - x1) (y2 - x2) (y3 - x3) 0), .int .i64 (nuF (y0 - x0) (y1 - x1) (y2 - x2) (y3 - x3) 1), .int .i64 (deF (y0 - x0) (y1 - x1) (y2 - x2) (y3 - x3) 1), .int .i64 (nuF (y0 - x0) (y1 - x1) (y2 - x2) (y3 - x3) 2), .int .i64 (deF (y0 - x0) (y1 - x1) (y2 - x2) (y3 - x3) 2)] := hAr
          have e0 := ho2.cell 0
          have e1 := ho2.cell 1
          have e2 := ho2.cell 2
          have e3 := ho2.cell 3
          have e4 := ho2.cell 4
          have e5 := ho2.cell 5
          simp at e0 e1 e2 e3 e4 e5
          have hl : At wr (w.heap.size + 1) 33 #[.int .i64 0, .int .i64 0, .int .i64 0, .int .i64 0, .int .i64 0, .int .i64 0] := (hwr.block (w.heap.size + 1) hlr).trans HL5.out
          have t0 := hl.cell 0
          have t1 := hl.cell 1
          have t2 := hl.cell 2
          have t3 := hl.cell 3
          have t4 := hl.cell 4
          have t5 := hl.cell 5
          simp at t0 t1 t2 t3 t4 t5
          have f0 := hl.free 0
          have f1 := hl.free 1
          have f2 := hl.free 2
          have f3 := hl.free 3
          have f4 := hl.free 4
          have f5 := hl.free 5
          have HBZ := Lib.hid (HB5.out.trans (hwr.mono hlw))
          clear hAr hwr ho2 hl
          go_wp2
          refine bodyPost_ret (v := .agg #[.int .i64 (nuF (y0 - x0) (y1 - x1) (y2 - x2) (y3 - x3) 0), .int .i64 (deF (y0 - x0) (y1 - x1) (y2 - x2) (y3 - x3) 0), .int .i64 (nuF (y0 - x0) (y1 - x1) (y2 - x2) (y3 - x3) 1), .int .i64 (deF (y0 - x0) (y1 - x1) (y2 - x2) (y3 - x3) 1), .int .i64 (nuF (y0 - x0) (y1 - x1) (y2 - x2) (y3 - x3) 2), .int .i64 (deF (y0 - x0) (y1 - x1) (y2 - x2) (y3 - x3) 2)]) ?h1 rfl ⟨rfl, ?_⟩
          case h1 => simp [results, Try.results22, go_sem, *]
          have hbf := HBZ.out
          repeat (first | (with_reducible exact hbf) | (with_reducible refine Below.drew ?_) | (with_reducible refine below_set ?_ (by omega)))
end Go.Proofs.Ytjfgfkahgjjcoaa
