/- The law: Nearest and MayBeNearest are as specified, or the errors; the nearest tick lies among those that may be nearest, which are accepted. -/
import Derived.Test.YtegmjanpeaibcaaOin
import Derived.Test.YtegmjanpeaibcaaOnm
import Derived.Test.YtegmjanpeaibcaaObr
import Derived.Test.YtegmjanpeaibcaaOaw
import Derived.Test.YtegmjanpeaibcaaOcp
import Derived.Test.YtegmjanpeaibcaaOeq
import Derived.Deep.RegionHeld3
namespace Go.Proofs.Ytegmjanpeaibcaa
open Go.RowKit
set_option maxHeartbeats 3200000
set_option maxRecDepth 100000

theorem with_r {V w4 : World} {g : Nat} {t : TypeId} {G : Prop} (h : At V g t #[.int .i64 0, .int .i64 0]) (hb : Below V.heap.size V w4)
    (k : At w4 g t #[.int .i64 0, .int .i64 0] → w4.cell? ⟨g, 0, none⟩ = some (.int .i64 0) → w4.cell? ⟨g, 1, none⟩ = some (.int .i64 0) → w4.frozen? ⟨g, 0, none⟩ = false → w4.frozen? ⟨g, 1, none⟩ = false → g < w4.heap.size → g < w4.heap.size + 1 → G) : G := by
  have q := h.keep hb
  exact k q (q.cell 0) (q.cell 1) (q.free 0) (q.free 1) q.lt (Nat.lt_succ_of_lt q.lt)
theorem CN_shape {nm : Bool} {b : Int} {n : Nat} {S : Nat → Nat → Int} {p1 p2 p3 xl xh xw : Int} {e : Ending} (h : CN nm b n S p1 p2 p3 xl xh xw e) : ∃ x y : Int, e = .returned (.tuple #[.int .i64 x, .int .i64 y]) := by
  rcases h with ⟨_, h⟩ | ⟨_, _, h⟩ | ⟨_, _, h⟩ <;> exact ⟨_, _, h⟩
theorem pl_pe' (x y z : Int) : plB x y z = decide (pe x y z = 0) := by
  unfold plB pe
  by_cases h1 : -100000000 ≤ x ∧ x ≤ 100000000
  · by_cases h2 : -100000000 ≤ y ∧ y ≤ 100000000
    · by_cases h3 : -100000000 ≤ z ∧ z ≤ 100000000
      · rw [inB_t h1, inB_t h2, inB_t h3, if_pos ⟨h1, h2, h3⟩]; rfl
      · rw [inB_t h1, inB_t h2, inB_f h3, if_neg (fun h => h3 h.2.2)]; rfl
    · rw [inB_f h2, if_neg (fun h => h2 h.2.1), Bool.and_false]; rfl
  · rw [inB_f h1, if_neg (fun h => h1 h.1)]; rfl
theorem pe_two' (x y z : Int) (h : pe x y z ≠ 0) : pe x y z = 2 := by
  unfold pe at *
  split
  · rename_i g
    rw [if_pos g] at h
    exact absurd rfl h
  · rfl

theorem nearest_all {w : World} {s : ByteArray} {b : Int} {A : Option Addr} {n c : Nat} {S : Nat → Nat → Int} {p1 p2 p3 : Int} (h : OrbIn w s b A n c S) (_hp : I64 p1 ∧ I64 p2 ∧ I64 p3) :
    Calls Try.prog 8 #[.agg #[.string s, .int .i64 b, .slice A n c], .agg #[.int .i64 p1, .int .i64 p2, .int .i64 p3]] w fun e w' => e = .returned (.bool true) ∧ Below w.heap.size w w' := by
  obtain ⟨hs, hn, hc, _, hS, _, hA0⟩ := h
  have H1 := Lib.hid hs
  have HN := Lib.hid hn
  have HC := Lib.hid hc
  have HNIL := Lib.hid hA0
  have HS := Lib.hid hS
  clear hs hn hc hS hA0
  go_enter Try.func8, Try.ntmps8
  go_wp2_with fail
  have hA0 : At ((w.alloc (.cells #[.string s, .int .i64 b, .slice A n c] 24)).alloc (.cells #[.int .i64 p1, .int .i64 p2, .int .i64 p3] 42)) (w.heap.size) 24 #[.string s, .int .i64 b, .slice A n c] := ((at_new (by simp)).alloc _)
  have hL0 : At ((w.alloc (.cells #[.string s, .int .i64 b, .slice A n c] 24)).alloc (.cells #[.int .i64 p1, .int .i64 p2, .int .i64 p3] 42)) (w.heap.size + 1) 42 #[.int .i64 p1, .int .i64 p2, .int .i64 p3] := (at_new (by simp))
  have hB0 : Below w.heap.size w ((w.alloc (.cells #[.string s, .int .i64 b, .slice A n c] 24)).alloc (.cells #[.int .i64 p1, .int .i64 p2, .int .i64 p3] 42)) := by
    repeat (first | (with_reducible exact Below.refl _ _) | (with_reducible refine below_new ?_ (by first | omega | (simp; done) | (simp; omega))))
  generalize hW0 : ((w.alloc (.cells #[.string s, .int .i64 b, .slice A n c] 24)).alloc (.cells #[.int .i64 p1, .int .i64 p2, .int .i64 p3] 42)) = w0 at hA0 hL0 hB0 ⊢
  clear hW0
  have HA0 := Lib.hid hA0
  have HL0 := Lib.hid hL0
  have HB0 := Lib.hid hB0
  clear hA0 hL0 hB0
  refine (awake_ok _).mono ?_
  rintro e w1 ⟨rfl, hb1⟩
  have hA1 := HA0.out.keep hb1
  have hL1 := HL0.out.keep hb1
  have HB1 := Lib.hid (HB0.out.trans (hb1.mono HB0.out.size))
  clear hb1
  have a0 := hA1.cell 0
  have a1 := hA1.cell 1
  have a2 := hA1.cell 2
  have l0 := hL1.cell 0
  have l1 := hL1.cell 1
  have l2 := hL1.cell 2
  simp at a0 a1 a2 l0 l1 l2
  have HA1 := Lib.hid hA1
  have HL1 := Lib.hid hL1
  clear hA1 hL1
  go_wp2_with fail
  refine (brief_any s b A n c S w1 (HS.out.below HB1.out) H1.out HN.out HC.out).mono ?_
  rintro e w2 ⟨rfl, hb2⟩
  have hA2 := HA1.out.keep hb2
  have hL2 := HL1.out.keep hb2
  have HB2 := Lib.hid (HB1.out.trans (hb2.mono HB1.out.size))
  clear a0 a1 a2 l0 l1 l2 hb2
  have a0 := hA2.cell 0
  have a1 := hA2.cell 1
  have a2 := hA2.cell 2
  have l0 := hL2.cell 0
  have l1 := hL2.cell 1
  have l2 := hL2.cell 2
  simp at a0 a1 a2 l0 l1 l2
  have HA2 := Lib.hid hA2
  have HL2 := Lib.hid hL2
  clear hA2 hL2
  by_cases hf : briefB s b n S = true
  · have hfew : fewB s n = true := by
      unfold briefB at hf
      rw [Bool.and_eq_true] at hf
      exact hf.1
    have HF := Lib.hid hfew
    clear hfew
    have hSS : ∀ w', Below w2.heap.size w2 w' → w'.cell? ⟨w.heap.size, 0, none⟩ = some (.string s) ∧ w'.cell? ⟨w.heap.size, 1, none⟩ = some (.int .i64 b) ∧ w'.cell? ⟨w.heap.size, 2, none⟩ = some (.slice A n c) ∧ w'.cell? ⟨w.heap.size + 1, 0, none⟩ = some (.int .i64 p1) ∧ w'.cell? ⟨w.heap.size + 1, 1, none⟩ = some (.int .i64 p2) ∧ w'.cell? ⟨w.heap.size + 1, 2, none⟩ = some (.int .i64 p3) := fun w' hW => by
      have qA := HA2.out.keep hW
      have qL := HL2.out.keep hW
      exact ⟨qA.cell 0, qA.cell 1, qA.cell 2, qL.cell 0, qL.cell 1, qL.cell 2⟩
    have hP1 : ∀ W : World, Below w2.heap.size w2 W → Calls Try.prog 18 #[.agg #[.string s, .int .i64 b, .slice A n c]] W fun e w' => (∃ A' c', e = .returned (.agg #[.string s, .int .i64 b, .slice A' n c']) ∧ St w' A' n S ∧ n ≤ c' ∧ c' ≤ maxLen) ∧ Below w2.heap.size w2 w' ∧ Below W.heap.size W w' ∧ w'.cell? ⟨w.heap.size, 0, none⟩ = some (.string s) ∧ w'.cell? ⟨w.heap.size, 1, none⟩ = some (.int .i64 b) ∧ w'.cell? ⟨w.heap.size, 2, none⟩ = some (.slice A n c) ∧ w'.cell? ⟨w.heap.size + 1, 0, none⟩ = some (.int .i64 p1) ∧ w'.cell? ⟨w.heap.size + 1, 1, none⟩ = some (.int .i64 p2) ∧ w'.cell? ⟨w.heap.size + 1, 2, none⟩ = some (.int .i64 p3) := by
      intro W hW
      refine (copy_any s b A n c S W (HS.out.below (HB2.out.trans (hW.mono HB2.out.size))) (by have := few_size HF.out; omega) HNIL.out).mono ?_
      rintro e w' ⟨A', c', rfl, hst, h1, h2, _, _, hb⟩
      have hB := hW.trans (hb.mono hW.size)
      exact ⟨⟨A', c', rfl, hst, h1, h2⟩, hB, hb, hSS _ hB⟩
    have HP1 := Lib.hid hP1
    clear hP1
    have hP2 : ∀ (W V : World) (A' : Option Addr) (c' : Nat), St V A' n S → n ≤ c' → c' ≤ maxLen → Below w2.heap.size w2 V → Below V.heap.size V W → Calls Try.prog 39 #[.agg #[.string s, .int .i64 b, .slice A' n c'], .agg #[.int .i64 p1, .int .i64 p2, .int .i64 p3]] W fun e w' => (∃ x y z : Int, e = .returned (.tuple #[.int .i64 x, .int .i64 y, .int .i64 z]) ∧ NRx (nmB s) b n S p1 p2 p3 x y z) ∧ Below w2.heap.size w2 w' ∧ Below W.heap.size W w' ∧ w'.cell? ⟨w.heap.size, 0, none⟩ = some (.string s) ∧ w'.cell? ⟨w.heap.size, 1, none⟩ = some (.int .i64 b) ∧ w'.cell? ⟨w.heap.size, 2, none⟩ = some (.slice A n c) ∧ w'.cell? ⟨w.heap.size + 1, 0, none⟩ = some (.int .i64 p1) ∧ w'.cell? ⟨w.heap.size + 1, 1, none⟩ = some (.int .i64 p2) ∧ w'.cell? ⟨w.heap.size + 1, 2, none⟩ = some (.int .i64 p3) := by
      intro W V A' c' hst h1 h2 hV hW
      refine (nearest_any s b A' n c' S p1 p2 p3 W (hst.below hW) H1.out h1 h2).mono ?_
      rintro e w' ⟨hcn, hb⟩
      have hf := NR_form hcn
      have hB := below_two hV (hW.trans (hb.mono hW.size))
      exact ⟨hf, hB, hb, hSS _ hB⟩
    have HP2 := Lib.hid hP2
    clear hP2
    clear hSS
    go_wp2_with fail
    go_region_held3 (fun w' => w'.cell? ⟨w.heap.size, 0, none⟩ = some (.string s) ∧ w'.cell? ⟨w.heap.size, 1, none⟩ = some (.int .i64 b) ∧ w'.cell? ⟨w.heap.size, 2, none⟩ = some (.slice A n c) ∧ w'.cell? ⟨w.heap.size + 1, 0, none⟩ = some (.int .i64 p1) ∧ w'.cell? ⟨w.heap.size + 1, 1, none⟩ = some (.int .i64 p2) ∧ w'.cell? ⟨w.heap.size + 1, 2, none⟩ = some (.int .i64 p3)) (go_keep)
      (first
        | (go_at_call 18; (with_reducible refine (HP1.out _ ?_).mono ?_); (repeat (first | assumption | (with_reducible exact Below.refl _ _) | (with_reducible refine Below.drew ?_) | (with_reducible refine below_drewNs ?_))); rintro e w4 ⟨⟨A4, c4, rfl, hst4, hn4, hc4⟩, hb4, _, xa0, xa1, xa2, xl0, xl1, xl2⟩)
        | (go_at_call 39; (with_reducible refine (HP2.out _ w4 A4 c4 hst4 hn4 hc4 hb4 ?_).mono ?_); (repeat (first | assumption | (with_reducible exact Below.refl _ _) | (with_reducible refine Below.drew ?_) | (with_reducible refine below_drewNs ?_))); rintro e w5 ⟨⟨x1, x2, x3, rfl, hnr⟩, hb5, _, ya0, ya1, ya2, yl0, yl1, yl2⟩))
    have HNR := Lib.hid hnr
    clear hnr HP1 HP2 ya0 ya1 ya2 yl0 yl1 yl2
    have hA5 := HA2.out.keep hb5
    have hL5 := HL2.out.keep hb5
    have HB5 := Lib.hid (HB2.out.trans (hb5.mono HB2.out.size))
    clear a0 a1 a2 l0 l1 l2 hb5
    have a0 := hA5.cell 0
    have a1 := hA5.cell 1
    have a2 := hA5.cell 2
    have l0 := hL5.cell 0
    have l1 := hL5.cell 1
    have l2 := hL5.cell 2
    simp at a0 a1 a2 l0 l1 l2
    have HA5 := Lib.hid hA5
    have HL5 := Lib.hid hL5
    clear hA5 hL5
    have hSS : ∀ w', Below w5.heap.size w5 w' → w'.cell? ⟨w.heap.size, 0, none⟩ = some (.string s) ∧ w'.cell? ⟨w.heap.size, 1, none⟩ = some (.int .i64 b) ∧ w'.cell? ⟨w.heap.size, 2, none⟩ = some (.slice A n c) ∧ w'.cell? ⟨w.heap.size + 1, 0, none⟩ = some (.int .i64 p1) ∧ w'.cell? ⟨w.heap.size + 1, 1, none⟩ = some (.int .i64 p2) ∧ w'.cell? ⟨w.heap.size + 1, 2, none⟩ = some (.int .i64 p3) := fun w' hW => by
      have qA := HA5.out.keep hW
      have qL := HL5.out.keep hW
      exact ⟨qA.cell 0, qA.cell 1, qA.cell 2, qL.cell 0, qL.cell 1, qL.cell 2⟩
    have hP1 : ∀ W : World, Below w5.heap.size w5 W → Calls Try.prog 18 #[.agg #[.string s, .int .i64 b, .slice A n c]] W fun e w' => (∃ A' c', e = .returned (.agg #[.string s, .int .i64 b, .slice A' n c']) ∧ St w' A' n S ∧ n ≤ c' ∧ c' ≤ maxLen) ∧ Below w5.heap.size w5 w' ∧ Below W.heap.size W w' ∧ w'.cell? ⟨w.heap.size, 0, none⟩ = some (.string s) ∧ w'.cell? ⟨w.heap.size, 1, none⟩ = some (.int .i64 b) ∧ w'.cell? ⟨w.heap.size, 2, none⟩ = some (.slice A n c) ∧ w'.cell? ⟨w.heap.size + 1, 0, none⟩ = some (.int .i64 p1) ∧ w'.cell? ⟨w.heap.size + 1, 1, none⟩ = some (.int .i64 p2) ∧ w'.cell? ⟨w.heap.size + 1, 2, none⟩ = some (.int .i64 p3) := by
      intro W hW
      refine (copy_any s b A n c S W (HS.out.below (HB5.out.trans (hW.mono HB5.out.size))) (by have := few_size HF.out; omega) HNIL.out).mono ?_
      rintro e w' ⟨A', c', rfl, hst, h1, h2, _, _, hb⟩
      have hB := hW.trans (hb.mono hW.size)
      exact ⟨⟨A', c', rfl, hst, h1, h2⟩, hB, hb, hSS _ hB⟩
    have HP1 := Lib.hid hP1
    clear hP1
    have hP3 : ∀ (W V : World) (A' : Option Addr) (c' : Nat), St V A' n S → n ≤ c' → c' ≤ maxLen → Below w5.heap.size w5 V → Below V.heap.size V W → Calls Try.prog 40 #[.agg #[.string s, .int .i64 b, .slice A' n c'], .agg #[.int .i64 p1, .int .i64 p2, .int .i64 p3]] W fun e w' => (∃ l h x z : Int, e = .returned (.tuple #[.agg #[.int .i64 l, .int .i64 h], .int .i64 x, .int .i64 z]) ∧ MRx (nmB s) b n S p1 p2 p3 l h x z) ∧ Below w5.heap.size w5 w' ∧ Below W.heap.size W w' ∧ w'.cell? ⟨w.heap.size, 0, none⟩ = some (.string s) ∧ w'.cell? ⟨w.heap.size, 1, none⟩ = some (.int .i64 b) ∧ w'.cell? ⟨w.heap.size, 2, none⟩ = some (.slice A n c) ∧ w'.cell? ⟨w.heap.size + 1, 0, none⟩ = some (.int .i64 p1) ∧ w'.cell? ⟨w.heap.size + 1, 1, none⟩ = some (.int .i64 p2) ∧ w'.cell? ⟨w.heap.size + 1, 2, none⟩ = some (.int .i64 p3) := by
      intro W V A' c' hst h1 h2 hV hW
      refine (mayBe_any s b A' n c' S p1 p2 p3 W (hst.below hW) H1.out h1 h2).mono ?_
      rintro e w' ⟨hcn, hb⟩
      have hf := MR_form hcn
      have hB := below_two hV (hW.trans (hb.mono hW.size))
      exact ⟨hf, hB, hb, hSS _ hB⟩
    have HP3 := Lib.hid hP3
    clear hP3
    have HSS := Lib.hid hSS
    clear hSS
    go_upto_region 6 with fail
    go_cut [8, 9, 10] (fun s8 s9 s10 wx => ∃ (g : Nat) (l h x z : Int), s8 = .pointer (some ⟨g, 0, none⟩) ∧ s9 = .int .i64 x ∧ s10 = .int .i64 z ∧ w5.heap.size ≤ g ∧ At wx g 46 #[.int .i64 l, .int .i64 h] ∧ MRx (nmB s) b n S p1 p2 p3 l h x z ∧ Below w5.heap.size w5 wx)
    case first =>
      go_region_held3 (fun w' => w'.cell? ⟨w.heap.size, 0, none⟩ = some (.string s) ∧ w'.cell? ⟨w.heap.size, 1, none⟩ = some (.int .i64 b) ∧ w'.cell? ⟨w.heap.size, 2, none⟩ = some (.slice A n c) ∧ w'.cell? ⟨w.heap.size + 1, 0, none⟩ = some (.int .i64 p1) ∧ w'.cell? ⟨w.heap.size + 1, 1, none⟩ = some (.int .i64 p2) ∧ w'.cell? ⟨w.heap.size + 1, 2, none⟩ = some (.int .i64 p3)) (first | (refine HSS.out _ ?_; (repeat (first | (with_reducible exact Below.refl _ _) | (with_reducible refine Below.drew ?_) | (with_reducible refine below_drewNs ?_) | (with_reducible refine below_set ?_ (by first | omega | (simp; omega))) | (with_reducible refine below_new ?_ (by first | omega | (simp; done) | (simp; omega))) | assumption)); done) | go_keep)
        (first
          | (go_at_call 18; (with_reducible refine (HP1.out _ ?_).mono ?_); (repeat (first | assumption | (with_reducible exact Below.refl _ _) | (with_reducible refine Below.drew ?_) | (with_reducible refine below_drewNs ?_) | (with_reducible refine below_set ?_ (by first | omega | (simp; omega))) | (with_reducible refine below_new ?_ (by first | omega | (simp; done) | (simp; omega))))); rintro e w6 ⟨⟨A6, c6, rfl, hst6, hn6, hc6⟩, hb6, hl6, xa0, xa1, xa2, xl0, xl1, xl2⟩; have hz6 := hb6.size; (first | (((with_reducible refine with_r (g := w5.heap.size) (t := 46) ?_ hl6 ?_)); (focus ((repeat (first | assumption | (((with_reducible refine at_new ?_)); simp; done) | (with_reducible refine At.alloc ?_ _) | (with_reducible refine at_drew ?_))); done)); intro aa0 ca0 cb0 cc0 cd0 ce0 cf0) | skip))
          | (go_at_call 40; (with_reducible refine (HP3.out _ w6 A6 c6 hst6 hn6 hc6 hb6 ?_).mono ?_); (repeat (first | assumption | (with_reducible exact Below.refl _ _) | (with_reducible refine Below.drew ?_) | (with_reducible refine below_drewNs ?_) | (with_reducible refine below_set ?_ (by first | omega | (simp; omega))) | (with_reducible refine below_new ?_ (by first | omega | (simp; done) | (simp; omega))))); rintro e w7 ⟨⟨ml, mh, mx, mz, rfl, hmr⟩, hb7, hl7, ya0, ya1, ya2, yl0, yl1, yl2⟩; have hz7 := hb7.size; (first | (((with_reducible refine with_r (g := w5.heap.size) (t := 46) ?_ hl7 ?_)); (focus ((repeat (first | assumption | (((with_reducible refine at_new ?_)); simp; done) | (with_reducible refine At.alloc ?_ _) | (with_reducible refine at_drew ?_))); done)); intro aa1 ca1 cb1 cc1 cd1 ce1 cf1) | skip); (first | (((with_reducible refine with_r (g := w6.heap.size) (t := 46) ?_ hl7 ?_)); (focus ((repeat (first | assumption | (((with_reducible refine at_new ?_)); simp; done) | (with_reducible refine At.alloc ?_ _) | (with_reducible refine at_drew ?_))); done)); intro aa2 ca2 cb2 cc2 cd2 ce2 cf2) | skip)))
      all_goals
        go_wp2_with fail
        go_meet
        refine ⟨_, _, _, _, _, rfl, rfl, rfl, ?_, ?_, hmr, ?_⟩
        · first | omega | (simp; omega) | (simp; done)
        · repeat (first | (with_reducible assumption) | (with_reducible refine at_drew ?_) | ((with_reducible refine at_new ?_); first | omega | (simp; done)) | (with_reducible refine At.alloc ?_ _) | (with_reducible refine at_two (u := .int .i64 0) (v := .int .i64 0) ?_))
        · repeat (first | (with_reducible assumption) | (with_reducible exact Below.refl _ _) | (with_reducible refine Below.drew ?_) | (with_reducible refine below_drewNs ?_) | (with_reducible refine below_set ?_ (by first | omega | (simp; omega))) | (with_reducible refine below_new ?_ (by first | omega | (simp; done) | (simp; omega))))
    case rest =>
      obtain ⟨g, l, h, x, z, rfl, rfl, rfl, hg, hR, hmr, hbc⟩ := hcut
      have HMR := Lib.hid hmr
      have HG := Lib.hid hg
      clear hmr hg HP1 HP3 HSS
      obtain ⟨w8, hw8⟩ : ∃ q, q = wc := ⟨_, rfl⟩
      rw [← hw8] at hR hbc ⊢
      clear hw8
      have hA8 := HA5.out.keep hbc
      have hL8 := HL5.out.keep hbc
      have hR8 := hR
      have HB8 := Lib.hid (HB5.out.trans (hbc.mono HB5.out.size))
      clear hbc hR a0 a1 a2 l0 l1 l2
      have a0 := hA8.cell 0
      have a1 := hA8.cell 1
      have a2 := hA8.cell 2
      have l0 := hL8.cell 0
      have l1 := hL8.cell 1
      have l2 := hL8.cell 2
      have r0 := hR8.cell 0
      have r1 := hR8.cell 1
      simp at a0 a1 a2 l0 l1 l2 r0 r1
      have HA8 := Lib.hid hA8
      have HL8 := Lib.hid hL8
      have HR8 := Lib.hid hR8
      clear hA8 hL8 hR8
      go_wp2_with fail
      refine (refErr_any s b A n c S w8 (HS.out.below HB8.out) H1.out HN.out HC.out).mono ?_
      rintro e w9 ⟨rfl, hb9⟩
      have hA9 := HA8.out.keep hb9
      have hL9 := HL8.out.keep hb9
      have hR9 := HR8.out.keep hb9
      have HB9 := Lib.hid (HB8.out.trans (hb9.mono HB8.out.size))
      clear a0 a1 a2 l0 l1 l2 r0 r1 hb9
      have a0 := hA9.cell 0
      have a1 := hA9.cell 1
      have a2 := hA9.cell 2
      have l0 := hL9.cell 0
      have l1 := hL9.cell 1
      have l2 := hL9.cell 2
      have r0 := hR9.cell 0
      have r1 := hR9.cell 1
      simp at a0 a1 a2 l0 l1 l2 r0 r1
      have HA9 := Lib.hid hA9
      have HL9 := Lib.hid hL9
      have HR9 := Lib.hid hR9
      clear hA9 hL9 hR9
      by_cases h0 : (oce (nmB s) b n S).2 = 0
      · have hRi := (oce_zero h0).2
        have hnm := (oce_zero h0).1
        have HR := Lib.hid hRi
        have HNM := Lib.hid hnm
        have HO := Lib.hid h0
        clear hRi hnm
        rw [h0]
        clear h0
        go_wp2_with fail
        refine (refIsPlace_any p1 p2 p3 _).mono ?_
        rintro e w10 ⟨rfl, hw10⟩
        have hb10 : Below w9.heap.size w9 w10 := by rw [← hw10]; exact below_new (Below.refl _ w9) (Nat.le_refl _)
        clear hw10
        have hA10 := HA9.out.keep hb10
        have hL10 := HL9.out.keep hb10
        have hR10 := HR9.out.keep hb10
        have HB10 := Lib.hid (HB9.out.trans (hb10.mono HB9.out.size))
        clear a0 a1 a2 l0 l1 l2 r0 r1 hb10
        have a0 := hA10.cell 0
        have a1 := hA10.cell 1
        have a2 := hA10.cell 2
        have l0 := hL10.cell 0
        have l1 := hL10.cell 1
        have l2 := hL10.cell 2
        have r0 := hR10.cell 0
        have r1 := hR10.cell 1
        simp at a0 a1 a2 l0 l1 l2 r0 r1
        have HA10 := Lib.hid hA10
        have HL10 := Lib.hid hL10
        have HR10 := Lib.hid hR10
        clear hA10 hL10 hR10
        rw [pl_pe']
        by_cases hp : pe p1 p2 p3 = 0
        · rw [decide_eq_true hp]
          have HP := Lib.hid hp
          have hep : eP (nmB s) b n S p1 p2 p3 = 0 := (eP_plc HO.out).trans hp
          obtain ⟨hl1, rfl, rfl⟩ := NR_good HNR.out hep
          obtain ⟨hm1, rfl⟩ := MR_good HMR.out hep
          have HL1 := Lib.hid hl1
          have HM1 := Lib.hid hm1
          clear hp hep hl1 hm1 HNR HMR
          go_wp2_with fail
          refine (refNearest_any s b A n c S p1 p2 p3 w10 (HS.out.below HB10.out) HR.out HP.out HN.out HC.out).mono ?_
          rintro e w11 ⟨⟨t', ht', rfl⟩, hb11⟩
          obtain rfl := least_unique HL1.out ht'
          clear ht'
          have hA11 := HA10.out.keep hb11
          have hL11 := HL10.out.keep hb11
          have hR11 := HR10.out.keep hb11
          have HB11 := Lib.hid (HB10.out.trans (hb11.mono HB10.out.size))
          clear a0 a1 a2 l0 l1 l2 r0 r1 hb11
          have a0 := hA11.cell 0
          have a1 := hA11.cell 1
          have a2 := hA11.cell 2
          have l0 := hL11.cell 0
          have l1 := hL11.cell 1
          have l2 := hL11.cell 2
          have r0 := hR11.cell 0
          have r1 := hR11.cell 1
          simp at a0 a1 a2 l0 l1 l2 r0 r1
          have HA11 := Lib.hid hA11
          have HL11 := Lib.hid hL11
          have HR11 := Lib.hid hR11
          clear hA11 hL11 hR11
          dsimp only
          obtain ⟨y, hy⟩ : ∃ y, y = sqN S n x1 (P3 p1 p2 p3) := ⟨_, rfl⟩
          rw [← hy]
          have HY := Lib.hid hy
          clear hy
          go_wp2_with fail
          refine (refMayBe_any s b A n c S p1 p2 p3 w11 (HS.out.below HB11.out) HR.out HP.out HN.out HC.out).mono ?_
          rintro e w12 ⟨⟨x', l', h', hm', rfl⟩, hb12⟩
          obtain ⟨rfl, rfl, rfl⟩ := mb_unique HM1.out hm'
          clear hm'
          have hA12 := HA11.out.keep hb12
          have hL12 := HL11.out.keep hb12
          have hR12 := HR11.out.keep hb12
          have HB12 := Lib.hid (HB11.out.trans (hb12.mono HB11.out.size))
          clear a0 a1 a2 l0 l1 l2 r0 r1 hb12
          have a0 := hA12.cell 0
          have a1 := hA12.cell 1
          have a2 := hA12.cell 2
          have l0 := hL12.cell 0
          have l1 := hL12.cell 1
          have l2 := hL12.cell 2
          have r0 := hR12.cell 0
          have r1 := hR12.cell 1
          simp at a0 a1 a2 l0 l1 l2 r0 r1
          have HA12 := Lib.hid hA12
          have HL12 := Lib.hid hL12
          have HR12 := Lib.hid hR12
          clear hA12 hL12 hR12
          go_wp2_with fail
          have hA13 := HA12.out.alloc (.cells #[.int .i64 l, .int .i64 h] 46)
          have hL13 := HL12.out.alloc (.cells #[.int .i64 l, .int .i64 h] 46)
          have hR13 := HR12.out.alloc (.cells #[.int .i64 l, .int .i64 h] 46)
          have hQ13 := At.new w12 46 #[.int .i64 l, .int .i64 h]
          have hB13 := below_new HB12.out HB12.out.size (o := .cells #[.int .i64 l, .int .i64 h] 46)
          have hz13 : g < w12.heap.size := HR12.out.lt
          generalize hW13 : w12.alloc (.cells #[.int .i64 l, .int .i64 h] 46) = w13 at hA13 hL13 hR13 hQ13 hB13 ⊢
          clear hW13 a0 a1 a2 l0 l1 l2 r0 r1
          have HA13 := Lib.hid hA13
          have HL13 := Lib.hid hL13
          have HR13 := Lib.hid hR13
          have HQ13 := Lib.hid hQ13
          have HB13 := Lib.hid hB13
          clear hA13 hL13 hR13 hQ13 hB13
          have hSS : ∀ w', Below w13.heap.size w13 w' → w'.cell? ⟨w.heap.size, 0, none⟩ = some (.string s) ∧ w'.cell? ⟨w.heap.size, 1, none⟩ = some (.int .i64 b) ∧ w'.cell? ⟨w.heap.size, 2, none⟩ = some (.slice A n c) ∧ w'.cell? ⟨w.heap.size + 1, 0, none⟩ = some (.int .i64 p1) ∧ w'.cell? ⟨w.heap.size + 1, 1, none⟩ = some (.int .i64 p2) ∧ w'.cell? ⟨w.heap.size + 1, 2, none⟩ = some (.int .i64 p3) ∧ w'.cell? ⟨g, 0, none⟩ = some (.int .i64 l) ∧ w'.cell? ⟨g, 1, none⟩ = some (.int .i64 h) ∧ w'.cell? ⟨w12.heap.size, 0, none⟩ = some (.int .i64 l) ∧ w'.cell? ⟨w12.heap.size, 1, none⟩ = some (.int .i64 h) := fun w' hW => by
            have qA := HA13.out.keep hW
            have qL := HL13.out.keep hW
            have qR := HR13.out.keep hW
            have qQ := HQ13.out.keep hW
            exact ⟨qA.cell 0, qA.cell 1, qA.cell 2, qL.cell 0, qL.cell 1, qL.cell 2, qR.cell 0, qR.cell 1, qQ.cell 0, qQ.cell 1⟩
          have hP1 : ∀ W : World, Below w13.heap.size w13 W → Calls Try.prog 18 #[.agg #[.string s, .int .i64 b, .slice A n c]] W fun e w' => (∃ A' c', e = .returned (.agg #[.string s, .int .i64 b, .slice A' n c']) ∧ St w' A' n S ∧ n ≤ c' ∧ c' ≤ maxLen) ∧ Below w13.heap.size w13 w' ∧ Below W.heap.size W w' ∧ w'.cell? ⟨w.heap.size, 0, none⟩ = some (.string s) ∧ w'.cell? ⟨w.heap.size, 1, none⟩ = some (.int .i64 b) ∧ w'.cell? ⟨w.heap.size, 2, none⟩ = some (.slice A n c) ∧ w'.cell? ⟨w.heap.size + 1, 0, none⟩ = some (.int .i64 p1) ∧ w'.cell? ⟨w.heap.size + 1, 1, none⟩ = some (.int .i64 p2) ∧ w'.cell? ⟨w.heap.size + 1, 2, none⟩ = some (.int .i64 p3) ∧ w'.cell? ⟨g, 0, none⟩ = some (.int .i64 l) ∧ w'.cell? ⟨g, 1, none⟩ = some (.int .i64 h) ∧ w'.cell? ⟨w12.heap.size, 0, none⟩ = some (.int .i64 l) ∧ w'.cell? ⟨w12.heap.size, 1, none⟩ = some (.int .i64 h) := by
            intro W hW
            refine (copy_any s b A n c S W (HS.out.below (HB13.out.trans (hW.mono HB13.out.size))) (by have := few_size HF.out; omega) HNIL.out).mono ?_
            rintro e w' ⟨A', c', rfl, hst, h1, h2, _, _, hb⟩
            have hB := hW.trans (hb.mono hW.size)
            exact ⟨⟨A', c', rfl, hst, h1, h2⟩, hB, hb, hSS _ hB⟩
          have HP1 := Lib.hid hP1
          clear hP1
          have hP4 : ∀ (W V : World) (A' : Option Addr) (c' : Nat), St V A' n S → n ≤ c' → c' ≤ maxLen → Below w13.heap.size w13 V → Below V.heap.size V W → Calls Try.prog 43 #[.agg #[.string s, .int .i64 b, .slice A' n c'], .agg #[.int .i64 p1, .int .i64 p2, .int .i64 p3], .agg #[.int .i64 l, .int .i64 h, .int .i64 x]] W fun e w' => (∃ u v : Int, e = .returned (.tuple #[.int .i64 u, .int .i64 v]) ∧ CN (nmB s) b n S p1 p2 p3 l h x (.returned (.tuple #[.int .i64 u, .int .i64 v]))) ∧ Below w13.heap.size w13 w' ∧ Below W.heap.size W w' ∧ w'.cell? ⟨w.heap.size, 0, none⟩ = some (.string s) ∧ w'.cell? ⟨w.heap.size, 1, none⟩ = some (.int .i64 b) ∧ w'.cell? ⟨w.heap.size, 2, none⟩ = some (.slice A n c) ∧ w'.cell? ⟨w.heap.size + 1, 0, none⟩ = some (.int .i64 p1) ∧ w'.cell? ⟨w.heap.size + 1, 1, none⟩ = some (.int .i64 p2) ∧ w'.cell? ⟨w.heap.size + 1, 2, none⟩ = some (.int .i64 p3) ∧ w'.cell? ⟨g, 0, none⟩ = some (.int .i64 l) ∧ w'.cell? ⟨g, 1, none⟩ = some (.int .i64 h) ∧ w'.cell? ⟨w12.heap.size, 0, none⟩ = some (.int .i64 l) ∧ w'.cell? ⟨w12.heap.size, 1, none⟩ = some (.int .i64 h) := by
            intro W V A' c' hst h1 h2 hV hW
            refine (checkNearest_any s b A' n c' S p1 p2 p3 l h x W (hst.below hW) H1.out h1 h2).mono ?_
            rintro e w' ⟨hcn, hb⟩
            obtain ⟨u, v, rfl⟩ := CN_shape hcn
            have hB := below_two hV (hW.trans (hb.mono hW.size))
            exact ⟨⟨u, v, rfl, hcn⟩, hB, hb, hSS _ hB⟩
          have HP4 := Lib.hid hP4
          clear hP4
          have hSW := hSS w13 (Below.refl _ _)
          obtain ⟨sa0, sa1, sa2, sl0, sl1, sl2, sr0, sr1, sq0, sq1⟩ := hSW
          clear hSS
          go_region_held3 (fun w' => w'.cell? ⟨w.heap.size, 0, none⟩ = some (.string s) ∧ w'.cell? ⟨w.heap.size, 1, none⟩ = some (.int .i64 b) ∧ w'.cell? ⟨w.heap.size, 2, none⟩ = some (.slice A n c) ∧ w'.cell? ⟨w.heap.size + 1, 0, none⟩ = some (.int .i64 p1) ∧ w'.cell? ⟨w.heap.size + 1, 1, none⟩ = some (.int .i64 p2) ∧ w'.cell? ⟨w.heap.size + 1, 2, none⟩ = some (.int .i64 p3) ∧ w'.cell? ⟨g, 0, none⟩ = some (.int .i64 l) ∧ w'.cell? ⟨g, 1, none⟩ = some (.int .i64 h) ∧ w'.cell? ⟨w12.heap.size, 0, none⟩ = some (.int .i64 l) ∧ w'.cell? ⟨w12.heap.size, 1, none⟩ = some (.int .i64 h)) (go_keep)
            (first
              | (go_at_call 18; (with_reducible refine (HP1.out _ ?_).mono ?_); (repeat (first | assumption | (with_reducible exact Below.refl _ _) | (with_reducible refine Below.drew ?_) | (with_reducible refine below_drewNs ?_))); rintro e w14 ⟨⟨A14, c14, rfl, hst14, hn14, hc14⟩, hb14, _, xa0, xa1, xa2, xl0, xl1, xl2, xr0, xr1, xq0, xq1⟩)
              | (go_at_call 43; (with_reducible refine (HP4.out _ w14 A14 c14 hst14 hn14 hc14 hb14 ?_).mono ?_); (repeat (first | assumption | (with_reducible exact Below.refl _ _) | (with_reducible refine Below.drew ?_) | (with_reducible refine below_drewNs ?_))); rintro e w15 ⟨⟨u, v, rfl, hcn⟩, hb15, _, ya0, ya1, ya2, yl0, yl1, yl2, yr0, yr1, yq0, yq1⟩))
          rw [HNM.out] at hcn
          obtain ⟨rfl, rfl⟩ := cn_accepts HR.out HP.out HM1.out hcn
          clear hcn HP1 HP4 ya0 ya1 ya2 yl0 yl1 yl2 yr0 yr1 yq0 yq1 sa0 sa1 sa2 sl0 sl1 sl2 sr0 sr1 sq0 sq1
          have hA15 := HA13.out.keep hb15
          have hL15 := HL13.out.keep hb15
          have hR15 := HR13.out.keep hb15
          have hQ15 := HQ13.out.keep hb15
          have HB15 := Lib.hid (HB13.out.trans (hb15.mono HB13.out.size))
          clear hb15
          have a0 := hA15.cell 0
          have a1 := hA15.cell 1
          have a2 := hA15.cell 2
          have l0 := hL15.cell 0
          have l1 := hL15.cell 1
          have l2 := hL15.cell 2
          have r0 := hR15.cell 0
          have r1 := hR15.cell 1
          have q0 := hQ15.cell 0
          have q1 := hQ15.cell 1
          simp at a0 a1 a2 l0 l1 l2 r0 r1 q0 q1
          have HA15 := Lib.hid hA15
          have HL15 := Lib.hid hL15
          have HR15 := Lib.hid hR15
          have HQ15 := Lib.hid hQ15
          clear hA15 hL15 hR15 hQ15
          obtain ⟨t1, t2, t3⟩ := mb_ticks HR.out HM1.out
          obtain ⟨u1, u2⟩ := near_among HR.out HM1.out HL1.out
          have i1 := inB_t ⟨u1, u2⟩
          have HW : Hid (∀ W : World, Calls Try.prog 21 #[.int .i64 x1, .int .i64 l, .int .i64 h] W fun e w' => e = .returned (.bool true) ∧ W = w') := fun W => by rw [← i1]; exact baseWithin_any _ _ _ W
          clear u1 u2 i1
          go_wp2_with (go_at_call 21; (with_reducible refine (HW.out _).mono ?_); rintro e w' ⟨rfl, rfl⟩)
          go_ret
          exact ⟨rfl, HB15.out⟩
        · rw [decide_eq_false hp]
          have hep : eP (nmB s) b n S p1 p2 p3 = 2 := (eP_plc HO.out).trans (pe_two' _ _ _ hp)
          have hne : eP (nmB s) b n S p1 p2 p3 ≠ 0 := by rw [hep]; decide
          obtain ⟨rfl, rfl, rfl⟩ := NR_bad HNR.out hne
          obtain ⟨rfl, rfl, rfl, rfl⟩ := MR_bad HMR.out hne
          rw [hep]
          clear hp hep hne HNR HMR
          go_wp2
          go_ret
          exact ⟨rfl, HB10.out⟩
      · have hne : eP (nmB s) b n S p1 p2 p3 ≠ 0 := by rw [eP_orb h0]; exact h0
        obtain ⟨rfl, rfl, rfl⟩ := NR_bad HNR.out hne
        obtain ⟨rfl, rfl, rfl, rfl⟩ := MR_bad HMR.out hne
        rw [eP_orb h0]
        clear HNR HMR hne
        generalize (oce (nmB s) b n S).2 = q at h0 ⊢
        go_wp2
        go_ret
        exact ⟨rfl, HB9.out⟩
  · have hf : briefB s b n S = false := by simpa using hf
    rw [hf]
    go_wp2
    go_ret
    exact ⟨rfl, HB2.out⟩
end Go.Proofs.Ytegmjanpeaibcaa
