/- The law: SquareAt and DistanceAt are as specified, or the errors; the distance to the nominal place lies between. -/
import Derived.Test.YtegmjanpeaibcaaOin
import Derived.Test.YtegmjanpeaibcaaOds
import Derived.Test.YtegmjanpeaibcaaOsr
import Derived.Test.YtegmjanpeaibcaaOlf
namespace Go.Proofs.Ytegmjanpeaibcaa
open Go.RowKit
set_option maxHeartbeats 3200000
set_option maxRecDepth 100000

theorem with_r2 {V w4 : World} {g : Nat} {t : TypeId} {G : Prop} (h : At V g t #[.int .i64 0, .int .i64 0]) (hb : Below V.heap.size V w4)
    (k : At w4 g t #[.int .i64 0, .int .i64 0] → w4.cell? ⟨g, 0, none⟩ = some (.int .i64 0) → w4.cell? ⟨g, 1, none⟩ = some (.int .i64 0) → w4.frozen? ⟨g, 0, none⟩ = false → w4.frozen? ⟨g, 1, none⟩ = false → g < w4.heap.size → g < w4.heap.size + 1 → G) : G := by
  have q := h.keep hb
  exact k q (q.cell 0) (q.cell 1) (q.free 0) (q.free 1) q.lt (Nat.lt_succ_of_lt q.lt)
theorem sqN_mid {S : Nat → Nat → Int} {n : Nat} {b t : Int} {P : Nat → Int} (hR : Right S n b) (hT : Has S n t) : sqL S n b t P ≤ sqN S n t P ∧ sqN S n t P ≤ sqH S n b t P := by
  obtain ⟨_, _, b1, b2⟩ := box_facts hR hT (c := 1) (by omega)
  obtain ⟨_, _, b3, b4⟩ := box_facts hR hT (c := 2) (by omega)
  obtain ⟨_, _, b5, b6⟩ := box_facts hR hT (c := 3) (by omega)
  have l1 := near_le (p := P 1) b1 b2
  have l2 := near_le (p := P 2) b3 b4
  have l3 := near_le (p := P 3) b5 b6
  have f1 := le_far (p := P 1) b1 b2
  have f2 := le_far (p := P 2) b3 b4
  have f3 := le_far (p := P 3) b5 b6
  unfold sqL sqN sqH
  exact ⟨by omega, by omega⟩

theorem dist_facts {l h q : Int} (m0 : 0 ≤ l) (m1 : l < 144115188075855872) (k0 : 0 ≤ h) (k1 : h < 144115188075855872) (i0 : l ≤ q) (i1 : q ≤ h) :
    IntKind.i64.wrap (rt l * rt l) = rt l * rt l ∧ IntKind.i64.wrap (ru h * ru h) = ru h * ru h ∧ rt l * rt l ≤ q ∧ q ≤ ru h * ru h := by
  obtain ⟨r0, r1, r2⟩ := rt_spec m0 (by omega)
  obtain ⟨u0, u1, u2⟩ := ru_spec k0 (by omega)
  obtain ⟨v0, v1, v2⟩ := rt_spec k0 (by omega)
  have v3 := rt_small k0 k1
  generalize ru h = y at *
  generalize rt h = z at *
  generalize rt l = x at *
  have u3 : y * y ≤ 288230376151711744 := by
    have := Int.mul_le_mul (show y ≤ 536870912 by omega) (show y ≤ 536870912 by omega) (by omega) (by omega)
    omega
  have r5 := Int.mul_nonneg r0 r0
  have u5 := Int.mul_nonneg (show 0 ≤ y by omega) (show 0 ≤ y by omega)
  generalize y * y = yy at *
  generalize x * x = xx at *
  exact ⟨IntWalk.i64_in _ (by omega), IntWalk.i64_in _ (by omega), by omega, by omega⟩

theorem distances_all {w : World} {s : ByteArray} {b : Int} {A : Option Addr} {n c : Nat} {S : Nat → Nat → Int} {t p1 p2 p3 : Int} (h : OrbIn w s b A n c S) (_ht : I64 t) (_hp : I64 p1 ∧ I64 p2 ∧ I64 p3) :
    Calls Try.prog 6 #[.agg #[.string s, .int .i64 b, .slice A n c], .int .i64 t, .agg #[.int .i64 p1, .int .i64 p2, .int .i64 p3]] w fun e w' => e = .returned (.bool true) ∧ Below w.heap.size w w' := by
  obtain ⟨hs, hn, hc, _, hS, _, hA0⟩ := h
  have H1 := Lib.hid hs
  have HN := Lib.hid hn
  have HC := Lib.hid hc
  have HNIL := Lib.hid hA0
  have HS := Lib.hid hS
  clear hs hn hc hS hA0
  go_enter Try.func6, Try.ntmps6
  go_wp2_with fail
  have hA0 : At ((w.alloc (.cells #[.string s, .int .i64 b, .slice A n c] 24)).alloc (.cells #[.int .i64 p1, .int .i64 p2, .int .i64 p3] 42)) (w.heap.size) 24 #[.string s, .int .i64 b, .slice A n c] := ((at_new (by simp)).alloc _)
  have hL0 : At ((w.alloc (.cells #[.string s, .int .i64 b, .slice A n c] 24)).alloc (.cells #[.int .i64 p1, .int .i64 p2, .int .i64 p3] 42)) (w.heap.size + 1) 42 #[.int .i64 p1, .int .i64 p2, .int .i64 p3] := (at_new (by simp))
  have hB0 : Below w.heap.size w ((w.alloc (.cells #[.string s, .int .i64 b, .slice A n c] 24)).alloc (.cells #[.int .i64 p1, .int .i64 p2, .int .i64 p3] 42)) := by
    repeat (first | (with_reducible exact Below.refl _ _) | (with_reducible refine below_new ?_ (by first | omega | (simp; done) | (simp; omega))))
  generalize hW0 : ((w.alloc (.cells #[.string s, .int .i64 b, .slice A n c] 24)).alloc (.cells #[.int .i64 p1, .int .i64 p2, .int .i64 p3] 42)) = w0 at hA0 hL0 hB0 ⊢
  clear hW0
  have HA0 := Lib.hid hA0
  have HL0 := Lib.hid hL0
  have HB0 := Lib.hid hB0
  clear hA0 hL0 hB0
  refine (awake_ok _).mono ?_
  rintro e w1 ⟨rfl, hb1⟩
  have hA1 := HA0.out.keep hb1
  have hL1 := HL0.out.keep hb1
  have HB1 := Lib.hid (HB0.out.trans (hb1.mono HB0.out.size))
  clear hb1
  have a0 := hA1.cell 0
  have a1 := hA1.cell 1
  have a2 := hA1.cell 2
  have l0 := hL1.cell 0
  have l1 := hL1.cell 1
  have l2 := hL1.cell 2
  simp at a0 a1 a2 l0 l1 l2
  have HA1 := Lib.hid hA1
  have HL1 := Lib.hid hL1
  clear hA1 hL1
  go_wp2_with fail
  refine (few_any s b A n c w1).mono ?_
  rintro e w2 ⟨rfl, hb2⟩
  have hA2 := HA1.out.keep hb2
  have hL2 := HL1.out.keep hb2
  have HB2 := Lib.hid (HB1.out.trans (hb2.mono HB1.out.size))
  clear a0 a1 a2 l0 l1 l2 hb2
  have a0 := hA2.cell 0
  have a1 := hA2.cell 1
  have a2 := hA2.cell 2
  have l0 := hL2.cell 0
  have l1 := hL2.cell 1
  have l2 := hL2.cell 2
  simp at a0 a1 a2 l0 l1 l2
  have HA2 := Lib.hid hA2
  have HL2 := Lib.hid hL2
  clear hA2 hL2
  by_cases hf : fewB s n = true
  · have HF := Lib.hid hf
    have key : ∃ l h x y er : Int, sqR (nmB s) b n S t p1 p2 p3 = .tuple #[.agg #[.int .i64 l, .int .i64 h], .int .i64 er] ∧ dR (nmB s) b n S t p1 p2 p3 = .tuple #[.agg #[.int .i64 x, .int .i64 y], .int .i64 er] ∧ e3 (nmB s) b n S t p1 p2 p3 = er ∧
        (er = 0 → l = sqL S n b t (P3 p1 p2 p3) ∧ h = sqH S n b t (P3 p1 p2 p3) ∧ x = rt l ∧ y = ru h) ∧ (er ≠ 0 → l = 0 ∧ h = 0 ∧ x = 0 ∧ y = 0) := by
      by_cases he : e3 (nmB s) b n S t p1 p2 p3 = 0
      · exact ⟨_, _, _, _, 0, if_pos he, if_pos he, he, fun _ => ⟨rfl, rfl, rfl, rfl⟩, fun h => absurd rfl h⟩
      · exact ⟨0, 0, 0, 0, _, if_neg he, if_neg he, rfl, fun h => absurd h he, fun _ => ⟨rfl, rfl, rfl, rfl⟩⟩
    obtain ⟨l, h, x, y, er, hsq, hdr, her, hgood, hbad⟩ := key
    have HSQ := Lib.hid hsq
    have HDR := Lib.hid hdr
    have HER := Lib.hid her
    have HGOOD := Lib.hid hgood
    have HBAD := Lib.hid hbad
    clear hsq hdr her hgood hbad
    have hSS : ∀ w', Below w2.heap.size w2 w' → w'.cell? ⟨w.heap.size, 0, none⟩ = some (.string s) ∧ w'.cell? ⟨w.heap.size, 1, none⟩ = some (.int .i64 b) ∧ w'.cell? ⟨w.heap.size, 2, none⟩ = some (.slice A n c) ∧ w'.cell? ⟨w.heap.size + 1, 0, none⟩ = some (.int .i64 p1) ∧ w'.cell? ⟨w.heap.size + 1, 1, none⟩ = some (.int .i64 p2) ∧ w'.cell? ⟨w.heap.size + 1, 2, none⟩ = some (.int .i64 p3) := fun w' hW => by
      have qA := HA2.out.keep hW
      have qL := HL2.out.keep hW
      exact ⟨qA.cell 0, qA.cell 1, qA.cell 2, qL.cell 0, qL.cell 1, qL.cell 2⟩
    have hP1 : ∀ W : World, Below w2.heap.size w2 W → Calls Try.prog 18 #[.agg #[.string s, .int .i64 b, .slice A n c]] W fun e w' => (∃ A' c', e = .returned (.agg #[.string s, .int .i64 b, .slice A' n c']) ∧ St w' A' n S ∧ n ≤ c' ∧ c' ≤ maxLen) ∧ Below w2.heap.size w2 w' ∧ Below W.heap.size W w' ∧ w'.cell? ⟨w.heap.size, 0, none⟩ = some (.string s) ∧ w'.cell? ⟨w.heap.size, 1, none⟩ = some (.int .i64 b) ∧ w'.cell? ⟨w.heap.size, 2, none⟩ = some (.slice A n c) ∧ w'.cell? ⟨w.heap.size + 1, 0, none⟩ = some (.int .i64 p1) ∧ w'.cell? ⟨w.heap.size + 1, 1, none⟩ = some (.int .i64 p2) ∧ w'.cell? ⟨w.heap.size + 1, 2, none⟩ = some (.int .i64 p3) := by
      intro W hW
      refine (copy_any s b A n c S W (HS.out.below (HB2.out.trans (hW.mono HB2.out.size))) (by have := few_size HF.out; omega) HNIL.out).mono ?_
      rintro e w' ⟨A', c', rfl, hst, h1, h2, _, _, hb⟩
      have hB := hW.trans (hb.mono hW.size)
      exact ⟨⟨A', c', rfl, hst, h1, h2⟩, hB, hb, hSS _ hB⟩
    have HP1 := Lib.hid hP1
    clear hP1
    have hP2 : ∀ (W V : World) (A' : Option Addr) (c' : Nat), St V A' n S → n ≤ c' → c' ≤ maxLen → Below w2.heap.size w2 V → Below V.heap.size V W → Calls Try.prog 29 #[.agg #[.string s, .int .i64 b, .slice A' n c'], .int .i64 t, .agg #[.int .i64 p1, .int .i64 p2, .int .i64 p3]] W fun e w' => e = .returned (.tuple #[.agg #[.int .i64 l, .int .i64 h], .int .i64 er]) ∧ Below w2.heap.size w2 w' ∧ Below W.heap.size W w' ∧ w'.cell? ⟨w.heap.size, 0, none⟩ = some (.string s) ∧ w'.cell? ⟨w.heap.size, 1, none⟩ = some (.int .i64 b) ∧ w'.cell? ⟨w.heap.size, 2, none⟩ = some (.slice A n c) ∧ w'.cell? ⟨w.heap.size + 1, 0, none⟩ = some (.int .i64 p1) ∧ w'.cell? ⟨w.heap.size + 1, 1, none⟩ = some (.int .i64 p2) ∧ w'.cell? ⟨w.heap.size + 1, 2, none⟩ = some (.int .i64 p3) := by
      intro W V A' c' hst h1 h2 hV hW
      refine (squareAt_any s b A' n c' S t p1 p2 p3 W (hst.below hW) H1.out h1 h2).mono ?_
      rw [HSQ.out]
      rintro e w' ⟨rfl, hb⟩
      have hB := below_two hV (hW.trans (hb.mono hW.size))
      exact ⟨rfl, hB, hb, hSS _ hB⟩
    have HP2 := Lib.hid hP2
    clear hP2
    have HSS := Lib.hid hSS
    clear hSS
    go_upto_region 5 with fail
    go_cut [7, 8] (fun s7 s8 wx => ∃ g : Nat, s7 = .pointer (some ⟨g, 0, none⟩) ∧ s8 = .int .i64 er ∧ w2.heap.size ≤ g ∧ At wx g 46 #[.int .i64 l, .int .i64 h] ∧ Below w2.heap.size w2 wx)
    case first =>
      as_aux_lemma =>
      go_region_held3 (fun w' => w'.cell? ⟨w.heap.size, 0, none⟩ = some (.string s) ∧ w'.cell? ⟨w.heap.size, 1, none⟩ = some (.int .i64 b) ∧ w'.cell? ⟨w.heap.size, 2, none⟩ = some (.slice A n c) ∧ w'.cell? ⟨w.heap.size + 1, 0, none⟩ = some (.int .i64 p1) ∧ w'.cell? ⟨w.heap.size + 1, 1, none⟩ = some (.int .i64 p2) ∧ w'.cell? ⟨w.heap.size + 1, 2, none⟩ = some (.int .i64 p3)) (first | (refine HSS.out _ ?_; (repeat (first | (with_reducible exact Below.refl _ _) | (with_reducible refine Below.drew ?_) | (with_reducible refine below_drewNs ?_) | (with_reducible refine below_set ?_ (by first | omega | (simp; omega))) | (with_reducible refine below_new ?_ (by first | omega | (simp; done) | (simp; omega))) | assumption)); done) | go_keep)
        (first
          | (go_at_call 18; (with_reducible refine (HP1.out _ ?_).mono ?_); (repeat (first | assumption | (with_reducible exact Below.refl _ _) | (with_reducible refine Below.drew ?_) | (with_reducible refine below_drewNs ?_) | (with_reducible refine below_set ?_ (by first | omega | (simp; omega))) | (with_reducible refine below_new ?_ (by first | omega | (simp; done) | (simp; omega))))); rintro e w6 ⟨⟨A6, c6, rfl, hst6, hn6, hc6⟩, hb6, hl6, xa0, xa1, xa2, xl0, xl1, xl2⟩; have hz6 := hb6.size; (first | (((with_reducible refine with_r2 (g := w2.heap.size) (t := 46) ?_ hl6 ?_)); (focus ((repeat (first | assumption | (((with_reducible refine at_new ?_)); simp; done) | (with_reducible refine At.alloc ?_ _) | (with_reducible refine at_drew ?_))); done)); intro aa0 ca0 cb0 cc0 cd0 ce0 cf0) | skip))
          | (go_at_call 29; (with_reducible refine (HP2.out _ w6 A6 c6 hst6 hn6 hc6 hb6 ?_).mono ?_); (repeat (first | assumption | (with_reducible exact Below.refl _ _) | (with_reducible refine Below.drew ?_) | (with_reducible refine below_drewNs ?_) | (with_reducible refine below_set ?_ (by first | omega | (simp; omega))) | (with_reducible refine below_new ?_ (by first | omega | (simp; done) | (simp; omega))))); rintro e w7 ⟨rfl, hb7, hl7, ya0, ya1, ya2, yl0, yl1, yl2⟩; have hz7 := hb7.size; (first | (((with_reducible refine with_r2 (g := w2.heap.size) (t := 46) ?_ hl7 ?_)); (focus ((repeat (first | assumption | (((with_reducible refine at_new ?_)); simp; done) | (with_reducible refine At.alloc ?_ _) | (with_reducible refine at_drew ?_))); done)); intro aa1 ca1 cb1 cc1 cd1 ce1 cf1) | skip); (first | (((with_reducible refine with_r2 (g := w6.heap.size) (t := 46) ?_ hl7 ?_)); (focus ((repeat (first | assumption | (((with_reducible refine at_new ?_)); simp; done) | (with_reducible refine At.alloc ?_ _) | (with_reducible refine at_drew ?_))); done)); intro aa2 ca2 cb2 cc2 cd2 ce2 cf2) | skip)))
      all_goals
        go_wp2_with fail
        go_meet
        refine ⟨_, rfl, rfl, ?_, ?_, ?_⟩
        · first | omega | (simp; omega) | (simp; done)
        · repeat (first | (with_reducible assumption) | (with_reducible refine at_drew ?_) | ((with_reducible refine at_new ?_); first | omega | (simp; done)) | (with_reducible refine At.alloc ?_ _) | (with_reducible refine at_two2 (u := .int .i64 0) (v := .int .i64 0) ?_))
        · repeat (first | (with_reducible assumption) | (with_reducible exact Below.refl _ _) | (with_reducible refine Below.drew ?_) | (with_reducible refine below_drewNs ?_) | (with_reducible refine below_set ?_ (by first | omega | (simp; omega))) | (with_reducible refine below_new ?_ (by first | omega | (simp; done) | (simp; omega))))
    case rest =>
      obtain ⟨g8, rfl, rfl, hg, hN, hbc⟩ := hcut
      have HG8 := Lib.hid hg
      clear hg HP1 HP2 HSS
      obtain ⟨w8, hw8⟩ : ∃ q, q = wc := ⟨_, rfl⟩
      rw [← hw8] at hN hbc ⊢
      clear hw8
      have hA8 := HA2.out.keep hbc
      have hL8 := HL2.out.keep hbc
      have hQ8 := hN
      have HB8 := Lib.hid (HB2.out.trans (hbc.mono HB2.out.size))
      clear hbc hN a0 a1 a2 l0 l1 l2
      have a0 := hA8.cell 0
      have a1 := hA8.cell 1
      have a2 := hA8.cell 2
      have l0 := hL8.cell 0
      have l1 := hL8.cell 1
      have l2 := hL8.cell 2
      have q0 := hQ8.cell 0
      have q1 := hQ8.cell 1
      simp at a0 a1 a2 l0 l1 l2 q0 q1
      have HA8 := Lib.hid hA8
      have HL8 := Lib.hid hL8
      have HQ8 := Lib.hid hQ8
      clear hA8 hL8 hQ8
      have hSS : ∀ w', Below w8.heap.size w8 w' → w'.cell? ⟨w.heap.size, 0, none⟩ = some (.string s) ∧ w'.cell? ⟨w.heap.size, 1, none⟩ = some (.int .i64 b) ∧ w'.cell? ⟨w.heap.size, 2, none⟩ = some (.slice A n c) ∧ w'.cell? ⟨w.heap.size + 1, 0, none⟩ = some (.int .i64 p1) ∧ w'.cell? ⟨w.heap.size + 1, 1, none⟩ = some (.int .i64 p2) ∧ w'.cell? ⟨w.heap.size + 1, 2, none⟩ = some (.int .i64 p3) ∧ w'.cell? ⟨g8, 0, none⟩ = some (.int .i64 l) ∧ w'.cell? ⟨g8, 1, none⟩ = some (.int .i64 h) := fun w' hW => by
        have qA := HA8.out.keep hW
        have qL := HL8.out.keep hW
        have qQ := HQ8.out.keep hW
        exact ⟨qA.cell 0, qA.cell 1, qA.cell 2, qL.cell 0, qL.cell 1, qL.cell 2, qQ.cell 0, qQ.cell 1⟩
      have hP1 : ∀ W : World, Below w8.heap.size w8 W → Calls Try.prog 18 #[.agg #[.string s, .int .i64 b, .slice A n c]] W fun e w' => (∃ A' c', e = .returned (.agg #[.string s, .int .i64 b, .slice A' n c']) ∧ St w' A' n S ∧ n ≤ c' ∧ c' ≤ maxLen) ∧ Below w8.heap.size w8 w' ∧ Below W.heap.size W w' ∧ w'.cell? ⟨w.heap.size, 0, none⟩ = some (.string s) ∧ w'.cell? ⟨w.heap.size, 1, none⟩ = some (.int .i64 b) ∧ w'.cell? ⟨w.heap.size, 2, none⟩ = some (.slice A n c) ∧ w'.cell? ⟨w.heap.size + 1, 0, none⟩ = some (.int .i64 p1) ∧ w'.cell? ⟨w.heap.size + 1, 1, none⟩ = some (.int .i64 p2) ∧ w'.cell? ⟨w.heap.size + 1, 2, none⟩ = some (.int .i64 p3) ∧ w'.cell? ⟨g8, 0, none⟩ = some (.int .i64 l) ∧ w'.cell? ⟨g8, 1, none⟩ = some (.int .i64 h) := by
        intro W hW
        refine (copy_any s b A n c S W (HS.out.below (HB8.out.trans (hW.mono HB8.out.size))) (by have := few_size HF.out; omega) HNIL.out).mono ?_
        rintro e w' ⟨A', c', rfl, hst, h1, h2, _, _, hb⟩
        have hB := hW.trans (hb.mono hW.size)
        exact ⟨⟨A', c', rfl, hst, h1, h2⟩, hB, hb, hSS _ hB⟩
      have HP1 := Lib.hid hP1
      clear hP1
      have hP2 : ∀ (W V : World) (A' : Option Addr) (c' : Nat), St V A' n S → n ≤ c' → c' ≤ maxLen → Below w8.heap.size w8 V → Below V.heap.size V W → Calls Try.prog 30 #[.agg #[.string s, .int .i64 b, .slice A' n c'], .int .i64 t, .agg #[.int .i64 p1, .int .i64 p2, .int .i64 p3]] W fun e w' => e = .returned (.tuple #[.agg #[.int .i64 x, .int .i64 y], .int .i64 er]) ∧ Below w8.heap.size w8 w' ∧ Below W.heap.size W w' ∧ w'.cell? ⟨w.heap.size, 0, none⟩ = some (.string s) ∧ w'.cell? ⟨w.heap.size, 1, none⟩ = some (.int .i64 b) ∧ w'.cell? ⟨w.heap.size, 2, none⟩ = some (.slice A n c) ∧ w'.cell? ⟨w.heap.size + 1, 0, none⟩ = some (.int .i64 p1) ∧ w'.cell? ⟨w.heap.size + 1, 1, none⟩ = some (.int .i64 p2) ∧ w'.cell? ⟨w.heap.size + 1, 2, none⟩ = some (.int .i64 p3) ∧ w'.cell? ⟨g8, 0, none⟩ = some (.int .i64 l) ∧ w'.cell? ⟨g8, 1, none⟩ = some (.int .i64 h) := by
        intro W V A' c' hst h1 h2 hV hW
        refine (distanceAt_any s b A' n c' S t p1 p2 p3 W (hst.below hW) H1.out h1 h2).mono ?_
        rw [HDR.out]
        rintro e w' ⟨rfl, hb⟩
        have hB := below_two hV (hW.trans (hb.mono hW.size))
        exact ⟨rfl, hB, hb, hSS _ hB⟩
      have HP2 := Lib.hid hP2
      clear hP2
      have HSS := Lib.hid hSS
      clear hSS
      go_upto_region 6 with fail
      go_cut [9, 10] (fun s9 s10 wx => ∃ g : Nat, s9 = .pointer (some ⟨g, 0, none⟩) ∧ s10 = .int .i64 er ∧ w8.heap.size ≤ g ∧ At wx g 46 #[.int .i64 x, .int .i64 y] ∧ Below w8.heap.size w8 wx)
      case first =>
        as_aux_lemma =>
        go_region_held3 (fun w' => w'.cell? ⟨w.heap.size, 0, none⟩ = some (.string s) ∧ w'.cell? ⟨w.heap.size, 1, none⟩ = some (.int .i64 b) ∧ w'.cell? ⟨w.heap.size, 2, none⟩ = some (.slice A n c) ∧ w'.cell? ⟨w.heap.size + 1, 0, none⟩ = some (.int .i64 p1) ∧ w'.cell? ⟨w.heap.size + 1, 1, none⟩ = some (.int .i64 p2) ∧ w'.cell? ⟨w.heap.size + 1, 2, none⟩ = some (.int .i64 p3) ∧ w'.cell? ⟨g8, 0, none⟩ = some (.int .i64 l) ∧ w'.cell? ⟨g8, 1, none⟩ = some (.int .i64 h)) (first | (refine HSS.out _ ?_; (repeat (first | (with_reducible exact Below.refl _ _) | (with_reducible refine Below.drew ?_) | (with_reducible refine below_drewNs ?_) | (with_reducible refine below_set ?_ (by first | omega | (simp; omega))) | (with_reducible refine below_new ?_ (by first | omega | (simp; done) | (simp; omega))) | assumption)); done) | go_keep)
          (first
            | (go_at_call 18; (with_reducible refine (HP1.out _ ?_).mono ?_); (repeat (first | assumption | (with_reducible exact Below.refl _ _) | (with_reducible refine Below.drew ?_) | (with_reducible refine below_drewNs ?_) | (with_reducible refine below_set ?_ (by first | omega | (simp; omega))) | (with_reducible refine below_new ?_ (by first | omega | (simp; done) | (simp; omega))))); rintro e w6 ⟨⟨A6, c6, rfl, hst6, hn6, hc6⟩, hb6, hl6, xa0, xa1, xa2, xl0, xl1, xl2, xq0, xq1⟩; have hz6 := hb6.size; (first | (((with_reducible refine with_r2 (g := w8.heap.size) (t := 46) ?_ hl6 ?_)); (focus ((repeat (first | assumption | (((with_reducible refine at_new ?_)); simp; done) | (with_reducible refine At.alloc ?_ _) | (with_reducible refine at_drew ?_))); done)); intro aa0 ca0 cb0 cc0 cd0 ce0 cf0) | skip))
            | (go_at_call 30; (with_reducible refine (HP2.out _ w6 A6 c6 hst6 hn6 hc6 hb6 ?_).mono ?_); (repeat (first | assumption | (with_reducible exact Below.refl _ _) | (with_reducible refine Below.drew ?_) | (with_reducible refine below_drewNs ?_) | (with_reducible refine below_set ?_ (by first | omega | (simp; omega))) | (with_reducible refine below_new ?_ (by first | omega | (simp; done) | (simp; omega))))); rintro e w7 ⟨rfl, hb7, hl7, ya0, ya1, ya2, yl0, yl1, yl2, yq0, yq1⟩; have hz7 := hb7.size; (first | (((with_reducible refine with_r2 (g := w8.heap.size) (t := 46) ?_ hl7 ?_)); (focus ((repeat (first | assumption | (((with_reducible refine at_new ?_)); simp; done) | (with_reducible refine At.alloc ?_ _) | (with_reducible refine at_drew ?_))); done)); intro aa1 ca1 cb1 cc1 cd1 ce1 cf1) | skip); (first | (((with_reducible refine with_r2 (g := w6.heap.size) (t := 46) ?_ hl7 ?_)); (focus ((repeat (first | assumption | (((with_reducible refine at_new ?_)); simp; done) | (with_reducible refine At.alloc ?_ _) | (with_reducible refine at_drew ?_))); done)); intro aa2 ca2 cb2 cc2 cd2 ce2 cf2) | skip)))
        all_goals
          go_wp2_with fail
          go_meet
          refine ⟨_, rfl, rfl, ?_, ?_, ?_⟩
          · first | omega | (simp; omega) | (simp; done)
          · repeat (first | (with_reducible assumption) | (with_reducible refine at_drew ?_) | ((with_reducible refine at_new ?_); first | omega | (simp; done)) | (with_reducible refine At.alloc ?_ _) | (with_reducible refine at_two2 (u := .int .i64 0) (v := .int .i64 0) ?_))
          · repeat (first | (with_reducible assumption) | (with_reducible exact Below.refl _ _) | (with_reducible refine Below.drew ?_) | (with_reducible refine below_drewNs ?_) | (with_reducible refine below_set ?_ (by first | omega | (simp; omega))) | (with_reducible refine below_new ?_ (by first | omega | (simp; done) | (simp; omega))))
      case rest =>
        obtain ⟨g9, rfl, rfl, hg, hN, hbc⟩ := hcut
        have HG9 := Lib.hid hg
        clear hg HP1 HP2 HSS
        obtain ⟨w9, hw9⟩ : ∃ q, q = wc := ⟨_, rfl⟩
        rw [← hw9] at hN hbc ⊢
        clear hw9
        have hA9 := HA8.out.keep hbc
        have hL9 := HL8.out.keep hbc
        have hQ9 := HQ8.out.keep hbc
        have hD9 := hN
        have HB9 := Lib.hid (HB8.out.trans (hbc.mono HB8.out.size))
        clear hbc hN a0 a1 a2 l0 l1 l2 q0 q1
        have a0 := hA9.cell 0
        have a1 := hA9.cell 1
        have a2 := hA9.cell 2
        have l0 := hL9.cell 0
        have l1 := hL9.cell 1
        have l2 := hL9.cell 2
        have q0 := hQ9.cell 0
        have q1 := hQ9.cell 1
        have d0 := hD9.cell 0
        have d1 := hD9.cell 1
        simp at a0 a1 a2 l0 l1 l2 q0 q1 d0 d1
        have HA9 := Lib.hid hA9
        have HL9 := Lib.hid hL9
        have HQ9 := Lib.hid hQ9
        have HD9 := Lib.hid hD9
        clear hA9 hL9 hQ9 hD9
        go_wp2_with fail
        refine (placeErr_any s b A n c S t p1 p2 p3 w9 (HS.out.below HB9.out) H1.out HN.out HC.out).mono ?_
        rw [HER.out]
        rintro e w10 ⟨rfl, hb10⟩
        have hA10 := HA9.out.keep hb10
        have hL10 := HL9.out.keep hb10
        have hQ10 := HQ9.out.keep hb10
        have hD10 := HD9.out.keep hb10
        have HB10 := Lib.hid (HB9.out.trans (hb10.mono HB9.out.size))
        clear a0 a1 a2 l0 l1 l2 q0 q1 d0 d1 hb10
        have a0 := hA10.cell 0
        have a1 := hA10.cell 1
        have a2 := hA10.cell 2
        have l0 := hL10.cell 0
        have l1 := hL10.cell 1
        have l2 := hL10.cell 2
        have q0 := hQ10.cell 0
        have q1 := hQ10.cell 1
        have d0 := hD10.cell 0
        have d1 := hD10.cell 1
        simp at a0 a1 a2 l0 l1 l2 q0 q1 d0 d1
        have HA10 := Lib.hid hA10
        have HL10 := Lib.hid hL10
        have HQ10 := Lib.hid hQ10
        have HD10 := Lib.hid hD10
        clear hA10 hL10 hQ10 hD10
        by_cases h0 : er = 0
        · as_aux_lemma =>
          have hgood := HGOOD.out h0
          obtain ⟨_, hRi, hTi, hpi⟩ := e3_zero (HER.out.trans h0)
          subst h0
          obtain ⟨hl, hh, rfl, rfl⟩ := hgood
          obtain ⟨⟨m0, m1⟩, k0, k1⟩ := sq_range hRi hTi hpi
          obtain ⟨i0, i1⟩ := sqN_mid (P := P3 p1 p2 p3) hRi hTi
          rw [← hl] at m0 m1 i0
          rw [← hh] at k0 k1 i1
          have FN1 : Hid (∀ X : World, St X A n S → Calls Try.prog 26 #[.agg #[.string s, .int .i64 b, .slice A n c], .int .i64 t] X fun e w' => e = .returned (noV S n t) ∧ Below X.heap.size X w') := fun X hX => refNominal_any s b A n c S t X hX hRi hTi HN.out HC.out
          have FN2 : Hid (∀ X : World, Calls Try.prog 32 #[noV S n t, .agg #[.int .i64 p1, .int .i64 p2, .int .i64 p3]] X fun e w' => e = .returned (.int .i64 (sqN S n t (P3 p1 p2 p3))) ∧ Below X.heap.size X w') := fun X =>
            refSquare_any (no S n t 1) (no S n t 2) (no S n t 3) p1 p2 p3 X ⟨(box_facts hRi hTi (c := 1) (by omega)).2.1, (box_facts hRi hTi (c := 2) (by omega)).2.1, (box_facts hRi hTi (c := 3) (by omega)).2.1⟩ hpi
          have FN3 : Hid (∀ X : World, St X A n S → Calls Try.prog 27 #[.agg #[.string s, .int .i64 b, .slice A n c], .int .i64 t] X fun e w' => e = .returned (boxV S n b t) ∧ Below X.heap.size X w') := fun X hX => refBoxAt_any s b A n c S t X hX hRi hTi HN.out HC.out
          have FN4 : Hid (∀ X : World, Calls Try.prog 33 #[boxV S n b t, .agg #[.int .i64 p1, .int .i64 p2, .int .i64 p3]] X fun e w' => e = .returned (.agg #[.int .i64 l, .int .i64 h]) ∧ Below X.heap.size X w') := fun X => by rw [hl, hh]; exact refSqAt_any hRi hTi hpi X
          have FN5 : Hid (∀ X : World, Calls Try.prog 34 #[.agg #[.int .i64 l, .int .i64 h]] X fun e w' => e = .returned (.agg #[.int .i64 (rt l), .int .i64 (ru h)]) ∧ Below X.heap.size X w') := fun X => refDistances_any l h X ⟨m0, Int.le_trans (Int.le_of_lt m1) (by decide)⟩ ⟨k0, Int.le_trans (Int.le_of_lt k1) (by decide)⟩
          generalize sqN S n t (P3 p1 p2 p3) = q at i0 i1 FN2
          generalize noV S n t = NV at FN1 FN2
          generalize boxV S n b t = BV at FN3 FN4
          have FN6 : Hid (∀ W : World, Calls Try.prog 21 #[.int .i64 q, .int .i64 l, .int .i64 h] W fun e w' => e = .returned (.bool true) ∧ W = w') := fun W => by rw [← inB_t ⟨i0, i1⟩]; exact baseWithin_any _ _ _ W
          obtain ⟨x1, x2, y3, y4⟩ := dist_facts m0 m1 k0 k1 i0 i1
          have x3 : decide (rt l * rt l ≤ q) = true := decide_eq_true y3
          have x4 : decide (q ≤ ru h * ru h) = true := decide_eq_true y4
          generalize rt l = x at *
          generalize ru h = y at *
          have X1 := Lib.hid x1
          have X2 := Lib.hid x2
          have X3 := Lib.hid x3
          have X4 := Lib.hid x4
          clear hRi hTi hpi hl hh m0 m1 k0 k1 i0 i1 y3 y4 x1 x2 x3 x4 HGOOD HBAD HSQ HDR
          go_wp2_with fail
          have C1 := Lib.hid (met (w := w10) (fun X hX => FN1.out X (HS.out.below (HB10.out.trans (hX.mono HB10.out.size)))))
          have C2 := Lib.hid (met (w := w10) (fun X _ => FN2.out X))
          have k0 := cell_regrown a0
          have k1 := cell_regrown a1
          have k2 := cell_regrown a2
          have k3 := cell_regrown l0
          have k4 := cell_regrown l1
          have k5 := cell_regrown l2
          have k6 := cell_regrown q0
          have k7 := cell_regrown q1
          have k8 := cell_regrown d0
          have k9 := cell_regrown d1
          clear a0 a1 a2 l0 l1 l2 q0 q1 d0 d1
          refine wp_region_quiet_below (by kernel_rfl) (by kernel_rfl) ?_
          repeat (go_big_quiet_step (first | (with_reducible exact C1.out _ _) | (with_reducible exact C2.out _ _)))
          refine wpQuiet_nil ?_
          intro _ hw'
          obtain ⟨⟨dq, osq⟩, hw''⟩ := hw'
          subst hw''
          have hb11 := below_regrown w10 dq osq
          generalize hX : Go.Sort.grow (redrawn w10 dq) osq = w11 at hb11 ⊢
          clear hX k0 k1 k2 k3 k4 k5 k6 k7 k8 k9
          clear C1 C2
          have hA11 := HA10.out.keep hb11
          have hL11 := HL10.out.keep hb11
          have hQ11 := HQ10.out.keep hb11
          have hD11 := HD10.out.keep hb11
          have HB11 := Lib.hid (HB10.out.trans (hb11.mono HB10.out.size))
          clear hb11
          have a0 := hA11.cell 0
          have a1 := hA11.cell 1
          have a2 := hA11.cell 2
          have l0 := hL11.cell 0
          have l1 := hL11.cell 1
          have l2 := hL11.cell 2
          have q0 := hQ11.cell 0
          have q1 := hQ11.cell 1
          have d0 := hD11.cell 0
          have d1 := hD11.cell 1
          simp at a0 a1 a2 l0 l1 l2 q0 q1 d0 d1
          have HA11 := Lib.hid hA11
          have HL11 := Lib.hid hL11
          have HQ11 := Lib.hid hQ11
          have HD11 := Lib.hid hD11
          clear hA11 hL11 hQ11 hD11
          as_aux_lemma =>
          go_wp2_with fail
          have C1 := Lib.hid (met (w := w11) (fun X hX => FN3.out X (HS.out.below (HB11.out.trans (hX.mono HB11.out.size)))))
          have C2 := Lib.hid (met (w := w11) (fun X _ => FN4.out X))
          have C3 := Lib.hid (met (w := w11) (fun X _ => FN5.out X))
          have x1 := X1.out
          have x2 := X2.out
          have x3 := X3.out
          have x4 := X4.out
          have k0 := cell_regrown a0
          have k1 := cell_regrown a1
          have k2 := cell_regrown a2
          have k3 := cell_regrown l0
          have k4 := cell_regrown l1
          have k5 := cell_regrown l2
          have k6 := cell_regrown q0
          have k7 := cell_regrown q1
          have k8 := cell_regrown d0
          have k9 := cell_regrown d1
          clear a0 a1 a2 l0 l1 l2 q0 q1 d0 d1
          refine wp_region_quiet_below (by kernel_rfl) (by kernel_rfl) ?_
          repeat (quiet_step (first | (with_reducible exact C1.out _ _) | (with_reducible exact C2.out _ _) | (with_reducible exact C3.out _ _) | (with_reducible exact met_same FN6.out _ _)))
          refine wpQuiet_nil ?_
          intro _ hw'
          obtain ⟨⟨dq, osq⟩, hw''⟩ := hw'
          subst hw''
          have hb12 := below_regrown w11 dq osq
          generalize hX : Go.Sort.grow (redrawn w11 dq) osq = w12 at hb12 ⊢
          clear hX k0 k1 k2 k3 k4 k5 k6 k7 k8 k9
          go_wp2
          go_ret
          exact ⟨rfl, HB11.out.trans (hb12.mono HB11.out.size)⟩
        · obtain ⟨rfl, rfl, rfl, rfl⟩ := HBAD.out h0
          have d1 : (er != 0) = true := by simpa using h0
          go_wp2
          go_ret
          exact ⟨rfl, HB10.out⟩
  · have hf : fewB s n = false := by simpa using hf
    rw [hf]
    go_wp2
    go_ret
    exact ⟨rfl, HB2.out⟩
end Go.Proofs.Ytegmjanpeaibcaa
