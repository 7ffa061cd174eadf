/- The law: Passes returns the ranges of ticks near a place, or the errors; farther away there are no fewer ticks. -/
import Derived.Test.YtegmjanpeaibcaaOin
import Derived.Test.YtegmjanpeaibcaaOti
import Derived.Test.YtegmjanpeaibcaaObr
import Derived.Test.YtegmjanpeaibcaaOaw
import Derived.Test.YtegmjanpeaibcaaOcp
import Derived.Deep.RegionHeld3
namespace Go.Proofs.Ytegmjanpeaibcaa
open Go.RowKit
set_option maxHeartbeats 3200000
set_option maxRecDepth 100000

/-- what Passes told -/
def PX (nm : Bool) (b : Int) (n : Nat) (S : Nat → Nat → Int) (p1 p2 p3 most : Int) (L : List (Int × Int)) (er : Int) : Prop :=
  (eS nm b n S p1 p2 p3 most ≠ 0 ∧ L = [] ∧ er = eS nm b n S p1 p2 p3 most) ∨ (eS nm b n S p1 p2 p3 most = 0 ∧ L = passK (nearB S n (P3 p1 p2 p3) most) (S 0 0) (nT S n) ∧ er = 0)
theorem pa_form {base : Nat} {nm : Bool} {b : Int} {n : Nat} {S : Nat → Nat → Int} {p1 p2 p3 most : Int} {e : Ending} {w' : World} (h : PA base nm b n S p1 p2 p3 most e w') :
    ∃ (A2 : Option Addr) (c2 : Nat) (L : List (Int × Int)) (er : Int), e = .returned (.tuple #[.slice A2 L.length c2, .int .i64 er]) ∧ Rn w' A2 L ∧ PX nm b n S p1 p2 p3 most L er := by
  rcases h with ⟨h0, rfl⟩ | ⟨h0, v, rfl, ho⟩
  · exact ⟨none, 0, [], _, rfl, fun h => absurd h (by simp), .inl ⟨h0, rfl, rfl⟩⟩
  · obtain ⟨A2, c2, rfl, hr⟩ := ho.rn
    exact ⟨A2, c2, _, _, rfl, hr, .inr ⟨h0, rfl, rfl⟩⟩
theorem px_good {nm : Bool} {b : Int} {n : Nat} {S : Nat → Nat → Int} {p1 p2 p3 most er : Int} {L : List (Int × Int)} (h : PX nm b n S p1 p2 p3 most L er) (h0 : eS nm b n S p1 p2 p3 most = 0) : L = passK (nearB S n (P3 p1 p2 p3) most) (S 0 0) (nT S n) ∧ er = 0 := by
  rcases h with ⟨g, _⟩ | ⟨_, g⟩
  · exact absurd h0 g
  · exact g
theorem px_bad {nm : Bool} {b : Int} {n : Nat} {S : Nat → Nat → Int} {p1 p2 p3 most er : Int} {L : List (Int × Int)} (h : PX nm b n S p1 p2 p3 most L er) (h0 : eS nm b n S p1 p2 p3 most ≠ 0) : L = [] ∧ er = eS nm b n S p1 p2 p3 most := by
  rcases h with ⟨_, g⟩ | ⟨g, _⟩
  · exact g
  · exact absurd g h0
theorem eS_orb {nm : Bool} {b : Int} {n : Nat} {S : Nat → Nat → Int} {p1 p2 p3 most : Int} (h : (oce nm b n S).2 ≠ 0) : eS nm b n S p1 p2 p3 most = (oce nm b n S).2 := by
  unfold eS
  rw [fe_three, if_neg h]
theorem eS_two {nm : Bool} {b : Int} {n : Nat} {S : Nat → Nat → Int} {p1 p2 p3 most : Int} (h : (oce nm b n S).2 = 0) (hp : pe p1 p2 p3 ≠ 0 ∨ inB most 0 100000000 = false) : eS nm b n S p1 p2 p3 most = 2 := by
  unfold eS
  rw [fe_three, if_pos h]
  by_cases g : pe p1 p2 p3 = 0
  · rw [if_pos g]
    rcases hp with q | q
    · exact absurd g q
    · rw [q]; rfl
  · rw [if_neg g]
    unfold pe at *
    split
    · rename_i q
      rw [if_pos q] at g
      exact absurd rfl g
    · rfl
theorem eS_none {nm : Bool} {b : Int} {n : Nat} {S : Nat → Nat → Int} {p1 p2 p3 most : Int} (h : (oce nm b n S).2 = 0) (hp : pe p1 p2 p3 = 0) (hm : inB most 0 100000000 = true) : eS nm b n S p1 p2 p3 most = 0 := by
  unfold eS
  rw [fe_three, if_pos h, if_pos hp, hm]
  rfl
theorem plB_pe (x y z : Int) : plB x y z = decide (pe x y z = 0) := by
  unfold plB pe
  by_cases h1 : -100000000 ≤ x ∧ x ≤ 100000000
  · by_cases h2 : -100000000 ≤ y ∧ y ≤ 100000000
    · by_cases h3 : -100000000 ≤ z ∧ z ≤ 100000000
      · rw [inB_t h1, inB_t h2, inB_t h3, if_pos ⟨h1, h2, h3⟩]; rfl
      · rw [inB_t h1, inB_t h2, inB_f h3, if_neg (fun h => h3 h.2.2)]; rfl
    · rw [inB_f h2, if_neg (fun h => h2 h.2.1), Bool.and_false]; rfl
  · rw [inB_f h1, if_neg (fun h => h1 h.1)]; rfl
theorem near_more {S : Nat → Nat → Int} {n : Nat} {P : Nat → Int} {m m' t : Int} (h0 : 0 ≤ m) (hm : m ≤ m') (h : nearB S n P m t = true) : nearB S n P m' t = true := by
  unfold nearB at *
  have h1 := of_decide_eq_true h
  have h2 := Int.mul_le_mul hm hm h0 (by omega)
  exact decide_eq_true (by omega)
theorem ranges_same (A B : Option Addr) (c d : Nat) (L : List (Int × Int)) (w : World) (ha : Rn w A L) (hb : Rn w B L) (hn : L.length ≤ 1000000) :
    Calls Try.prog 53 #[.slice A L.length c, .slice B L.length d] w fun e w' => e = .returned (.bool true) ∧ Below w.heap.size w w' :=
  (ranges_any A B c d L L w ha hb hn hn).mono fun _ _ ⟨he, hw⟩ => ⟨by rw [he, decide_eq_true rfl], hw⟩
theorem brief_ticks {s : ByteArray} {b : Int} {n : Nat} {S : Nat → Nat → Int} (h : briefB s b n S = true) (h0 : (oce (nmB s) b n S).2 = 0) : nT S n ≤ 201 := by
  unfold briefB at h
  rw [h0, Bool.and_eq_true] at h
  have h2 := h.2
  simp at h2
  unfold nT
  omega
theorem tick_top {b : Int} {n : Nat} {S : Nat → Nat → Int} (hR : Right S n b) : 0 ≤ S 0 0 ∧ S 0 0 + (nT S n : Int) ≤ 1000000001 := by
  have h0 := hR.1
  have h1 := (hR.2.2.2.1 0 (by omega)).1
  have h2 := (hR.2.2.2.1 (n - 1) (by omega)).1
  have h3 := hR.2.2.2.2.1.le (Nat.zero_le (n - 1)) (by omega)
  unfold nT
  omega

theorem passes_all {w : World} {s : ByteArray} {b : Int} {A : Option Addr} {n c : Nat} {S : Nat → Nat → Int} {p1 p2 p3 most : Int} (h : OrbIn w s b A n c S) (_hp : I64 p1 ∧ I64 p2 ∧ I64 p3) (_hm : I64 most) :
    Calls Try.prog 12 #[.agg #[.string s, .int .i64 b, .slice A n c], .agg #[.int .i64 p1, .int .i64 p2, .int .i64 p3], .int .i64 most] w fun e w' => e = .returned (.bool true) ∧ Below w.heap.size w w' := by
  obtain ⟨hs, hn, hc, _, hS, _, hA0⟩ := h
  have H1 := Lib.hid hs
  have HN := Lib.hid hn
  have HC := Lib.hid hc
  have HNIL := Lib.hid hA0
  have HS := Lib.hid hS
  clear hs hn hc hS hA0
  go_enter Try.func12, Try.ntmps12
  go_wp2_with fail
  have hA0 : At ((w.alloc (.cells #[.string s, .int .i64 b, .slice A n c] 24)).alloc (.cells #[.int .i64 p1, .int .i64 p2, .int .i64 p3] 42)) (w.heap.size) 24 #[.string s, .int .i64 b, .slice A n c] := ((at_new (by simp)).alloc _)
  have hL0 : At ((w.alloc (.cells #[.string s, .int .i64 b, .slice A n c] 24)).alloc (.cells #[.int .i64 p1, .int .i64 p2, .int .i64 p3] 42)) (w.heap.size + 1) 42 #[.int .i64 p1, .int .i64 p2, .int .i64 p3] := (at_new (by simp))
  have hB0 : Below w.heap.size w ((w.alloc (.cells #[.string s, .int .i64 b, .slice A n c] 24)).alloc (.cells #[.int .i64 p1, .int .i64 p2, .int .i64 p3] 42)) := by
    repeat (first | (with_reducible exact Below.refl _ _) | (with_reducible refine below_new ?_ (by first | omega | (simp; done) | (simp; omega))))
  generalize hW0 : ((w.alloc (.cells #[.string s, .int .i64 b, .slice A n c] 24)).alloc (.cells #[.int .i64 p1, .int .i64 p2, .int .i64 p3] 42)) = w0 at hA0 hL0 hB0 ⊢
  clear hW0
  have HA0 := Lib.hid hA0
  have HL0 := Lib.hid hL0
  have HB0 := Lib.hid hB0
  clear hA0 hL0 hB0
  refine (awake_ok _).mono ?_
  rintro e w1 ⟨rfl, hb1⟩
  have hA1 := HA0.out.keep hb1
  have hL1 := HL0.out.keep hb1
  have HB1 := Lib.hid (HB0.out.trans (hb1.mono HB0.out.size))
  clear hb1
  have a0 := hA1.cell 0
  have a1 := hA1.cell 1
  have a2 := hA1.cell 2
  have l0 := hL1.cell 0
  have l1 := hL1.cell 1
  have l2 := hL1.cell 2
  simp at a0 a1 a2 l0 l1 l2
  have HA1 := Lib.hid hA1
  have HL1 := Lib.hid hL1
  clear hA1 hL1
  go_wp2_with fail
  refine (brief_any s b A n c S w1 (HS.out.below HB1.out) H1.out HN.out HC.out).mono ?_
  rintro e w2 ⟨rfl, hb2⟩
  have hA2 := HA1.out.keep hb2
  have hL2 := HL1.out.keep hb2
  have HB2 := Lib.hid (HB1.out.trans (hb2.mono HB1.out.size))
  clear a0 a1 a2 l0 l1 l2 hb2
  have a0 := hA2.cell 0
  have a1 := hA2.cell 1
  have a2 := hA2.cell 2
  have l0 := hL2.cell 0
  have l1 := hL2.cell 1
  have l2 := hL2.cell 2
  simp at a0 a1 a2 l0 l1 l2
  have HA2 := Lib.hid hA2
  have HL2 := Lib.hid hL2
  clear hA2 hL2
  by_cases hf : briefB s b n S = true
  · have hfew : fewB s n = true := by
      unfold briefB at hf
      rw [Bool.and_eq_true] at hf
      exact hf.1
    have HF := Lib.hid hfew
    have HBF := Lib.hid hf
    clear hfew
    have hSS : ∀ w', Below w2.heap.size w2 w' → w'.cell? ⟨w.heap.size, 0, none⟩ = some (.string s) ∧ w'.cell? ⟨w.heap.size, 1, none⟩ = some (.int .i64 b) ∧ w'.cell? ⟨w.heap.size, 2, none⟩ = some (.slice A n c) ∧ w'.cell? ⟨w.heap.size + 1, 0, none⟩ = some (.int .i64 p1) ∧ w'.cell? ⟨w.heap.size + 1, 1, none⟩ = some (.int .i64 p2) ∧ w'.cell? ⟨w.heap.size + 1, 2, none⟩ = some (.int .i64 p3) := fun w' hW => by
      have qA := HA2.out.keep hW
      have qL := HL2.out.keep hW
      exact ⟨qA.cell 0, qA.cell 1, qA.cell 2, qL.cell 0, qL.cell 1, qL.cell 2⟩
    have hP1 : ∀ W : World, Below w2.heap.size w2 W → Calls Try.prog 18 #[.agg #[.string s, .int .i64 b, .slice A n c]] W fun e w' => (∃ A' c', e = .returned (.agg #[.string s, .int .i64 b, .slice A' n c']) ∧ St w' A' n S ∧ n ≤ c' ∧ c' ≤ maxLen) ∧ Below w2.heap.size w2 w' ∧ w'.cell? ⟨w.heap.size, 0, none⟩ = some (.string s) ∧ w'.cell? ⟨w.heap.size, 1, none⟩ = some (.int .i64 b) ∧ w'.cell? ⟨w.heap.size, 2, none⟩ = some (.slice A n c) ∧ w'.cell? ⟨w.heap.size + 1, 0, none⟩ = some (.int .i64 p1) ∧ w'.cell? ⟨w.heap.size + 1, 1, none⟩ = some (.int .i64 p2) ∧ w'.cell? ⟨w.heap.size + 1, 2, none⟩ = some (.int .i64 p3) := by
      intro W hW
      refine (copy_any s b A n c S W (HS.out.below (HB2.out.trans (hW.mono HB2.out.size))) (by have := few_size HF.out; omega) HNIL.out).mono ?_
      rintro e w' ⟨A', c', rfl, hst, h1, h2, _, _, hb⟩
      have hB := hW.trans (hb.mono hW.size)
      exact ⟨⟨A', c', rfl, hst, h1, h2⟩, hB, hSS _ hB⟩
    have HP1 := Lib.hid hP1
    clear hP1
    have hP2 : ∀ (W V : World) (A' : Option Addr) (c' : Nat), St V A' n S → n ≤ c' → c' ≤ maxLen → Below w2.heap.size w2 V → Below V.heap.size V W → Calls Try.prog 52 #[.agg #[.string s, .int .i64 b, .slice A' n c'], .agg #[.int .i64 p1, .int .i64 p2, .int .i64 p3], .int .i64 most] W fun e w' => (∃ (A2 : Option Addr) (c2 : Nat) (L : List (Int × Int)) (er : Int), e = .returned (.tuple #[.slice A2 L.length c2, .int .i64 er]) ∧ Rn w' A2 L ∧ PX (nmB s) b n S p1 p2 p3 most L er) ∧ Below w2.heap.size w2 w' ∧ w'.cell? ⟨w.heap.size, 0, none⟩ = some (.string s) ∧ w'.cell? ⟨w.heap.size, 1, none⟩ = some (.int .i64 b) ∧ w'.cell? ⟨w.heap.size, 2, none⟩ = some (.slice A n c) ∧ w'.cell? ⟨w.heap.size + 1, 0, none⟩ = some (.int .i64 p1) ∧ w'.cell? ⟨w.heap.size + 1, 1, none⟩ = some (.int .i64 p2) ∧ w'.cell? ⟨w.heap.size + 1, 2, none⟩ = some (.int .i64 p3) := by
      intro W V A' c' hst h1 h2 hV hW
      refine (passes_any s b A' n c' S p1 p2 p3 most W (hst.below hW) H1.out h1 h2).mono ?_
      rintro e w' ⟨hcn, hb⟩
      have hB := below_two hV (hW.trans (hb.mono hW.size))
      exact ⟨pa_form hcn, hB, hSS _ hB⟩
    have HP2 := Lib.hid hP2
    clear hP2
    clear hSS
    go_wp2_with fail
    go_region_held3 (fun w' => w'.cell? ⟨w.heap.size, 0, none⟩ = some (.string s) ∧ w'.cell? ⟨w.heap.size, 1, none⟩ = some (.int .i64 b) ∧ w'.cell? ⟨w.heap.size, 2, none⟩ = some (.slice A n c) ∧ w'.cell? ⟨w.heap.size + 1, 0, none⟩ = some (.int .i64 p1) ∧ w'.cell? ⟨w.heap.size + 1, 1, none⟩ = some (.int .i64 p2) ∧ w'.cell? ⟨w.heap.size + 1, 2, none⟩ = some (.int .i64 p3)) (go_keep)
      (first
        | (go_at_call 18; (with_reducible refine (HP1.out _ ?_).mono ?_); (repeat (first | assumption | (with_reducible exact Below.refl _ _) | (with_reducible refine Below.drew ?_) | (with_reducible refine below_drewNs ?_))); rintro e w4 ⟨⟨A4, c4, rfl, hst4, hn4, hc4⟩, hb4, xa0, xa1, xa2, xl0, xl1, xl2⟩)
        | (go_at_call 52; (with_reducible refine (HP2.out _ w4 A4 c4 hst4 hn4 hc4 hb4 ?_).mono ?_); (repeat (first | assumption | (with_reducible exact Below.refl _ _) | (with_reducible refine Below.drew ?_) | (with_reducible refine below_drewNs ?_))); rintro e w5 ⟨⟨AL, cl, L, er, rfl, hrn, hpx⟩, hb5, ya0, ya1, ya2, yl0, yl1, yl2⟩))
    have HRN := Lib.hid hrn
    have HPX := Lib.hid hpx
    clear hrn hpx HP1 HP2 ya0 ya1 ya2 yl0 yl1 yl2
    have hA5 := HA2.out.keep hb5
    have hL5 := HL2.out.keep hb5
    have HB5 := Lib.hid (HB2.out.trans (hb5.mono HB2.out.size))
    clear a0 a1 a2 l0 l1 l2 hb5
    have a0 := hA5.cell 0
    have a1 := hA5.cell 1
    have a2 := hA5.cell 2
    have l0 := hL5.cell 0
    have l1 := hL5.cell 1
    have l2 := hL5.cell 2
    simp at a0 a1 a2 l0 l1 l2
    have HA5 := Lib.hid hA5
    have HL5 := Lib.hid hL5
    clear hA5 hL5
    go_wp2_with fail
    refine (refErr_any s b A n c S w5 (HS.out.below HB5.out) H1.out HN.out HC.out).mono ?_
    rintro e w6 ⟨rfl, hb6⟩
    have HRN6 := Lib.hid (HRN.out.below hb6)
    clear HRN
    have hA6 := HA5.out.keep hb6
    have hL6 := HL5.out.keep hb6
    have HB6 := Lib.hid (HB5.out.trans (hb6.mono HB5.out.size))
    clear a0 a1 a2 l0 l1 l2 hb6
    have a0 := hA6.cell 0
    have a1 := hA6.cell 1
    have a2 := hA6.cell 2
    have l0 := hL6.cell 0
    have l1 := hL6.cell 1
    have l2 := hL6.cell 2
    simp at a0 a1 a2 l0 l1 l2
    have HA6 := Lib.hid hA6
    have HL6 := Lib.hid hL6
    clear hA6 hL6
    by_cases h0 : (oce (nmB s) b n S).2 = 0
    · have hRi := (oce_zero h0).2
      have hnm := (oce_zero h0).1
      have HR := Lib.hid hRi
      have HO := Lib.hid h0
      clear hRi hnm
      rw [h0]
      clear h0
      go_wp2_with fail
      refine (refIsPlace_any p1 p2 p3 _).mono ?_
      rintro e w7 ⟨rfl, hw7⟩
      have hb7 : Below w6.heap.size w6 w7 := by rw [← hw7]; exact below_new (Below.refl _ w6) (Nat.le_refl _)
      have HRN7 := Lib.hid (HRN6.out.below hb7)
      clear hw7 HRN6
      have hA7 := HA6.out.keep hb7
      have hL7 := HL6.out.keep hb7
      have HB7 := Lib.hid (HB6.out.trans (hb7.mono HB6.out.size))
      clear a0 a1 a2 l0 l1 l2 hb7
      have a0 := hA7.cell 0
      have a1 := hA7.cell 1
      have a2 := hA7.cell 2
      have l0 := hL7.cell 0
      have l1 := hL7.cell 1
      have l2 := hL7.cell 2
      simp at a0 a1 a2 l0 l1 l2
      have HA7 := Lib.hid hA7
      have HL7 := Lib.hid hL7
      clear hA7 hL7
      rw [plB_pe]
      by_cases hp : pe p1 p2 p3 = 0
      · rw [decide_eq_true hp]
        have HP := Lib.hid hp
        clear hp
        by_cases hmo : inB most 0 100000000 = true
        · have hes := eS_none HO.out HP.out hmo
          obtain ⟨rfl, rfl⟩ := px_good HPX.out hes
          obtain ⟨m0, m1⟩ := inB_iff.1 hmo
          have HW : Hid (∀ W : World, Calls Try.prog 21 #[.int .i64 most, .int .i64 0, .int .i64 100000000] W fun e w' => e = .returned (.bool true) ∧ W = w') := fun W => by rw [← hmo]; exact baseWithin_any _ _ _ W
          have HES := Lib.hid hes
          have HNT := Lib.hid (brief_ticks HBF.out HO.out)
          clear hmo hes HPX
          obtain ⟨L, hL⟩ : ∃ L, L = passK (nearB S n (P3 p1 p2 p3) most) (S 0 0) (nT S n) := ⟨_, rfl⟩
          rw [← hL] at HRN7 ⊢
          have HL := Lib.hid hL
          clear hL
          have hm2 : IntKind.i64.wrap (2 * most) = 2 * most := IntWalk.i64_in _ (by omega)
          obtain ⟨m2, g1, g2, g3⟩ : ∃ m2 : Int, (most ≤ m2 ∧ m2 ≤ 100000000) ∧ (if (100000000 : Int) < 2 * most then (100000000 : Int) else 2 * most) = m2 ∧ (if 2 * most ≤ (100000000 : Int) then 2 * most else (100000000 : Int)) = m2 := by
            by_cases q : (100000000 : Int) < 2 * most
            · exact ⟨100000000, by omega, if_pos q, if_neg (by omega)⟩
            · exact ⟨2 * most, by omega, if_neg q, if_pos (by omega)⟩
          have G1 := Lib.hid g1
          have G2 := Lib.hid g2
          have G3 := Lib.hid g3
          have HM2 := Lib.hid hm2
          clear g1 g2 g3 hm2
          have hSS : ∀ w', Below w7.heap.size w7 w' → w'.cell? ⟨w.heap.size, 0, none⟩ = some (.string s) ∧ w'.cell? ⟨w.heap.size, 1, none⟩ = some (.int .i64 b) ∧ w'.cell? ⟨w.heap.size, 2, none⟩ = some (.slice A n c) ∧ w'.cell? ⟨w.heap.size + 1, 0, none⟩ = some (.int .i64 p1) ∧ w'.cell? ⟨w.heap.size + 1, 1, none⟩ = some (.int .i64 p2) ∧ w'.cell? ⟨w.heap.size + 1, 2, none⟩ = some (.int .i64 p3) := fun w' hW => by
            have qA := HA7.out.keep hW
            have qL := HL7.out.keep hW
            exact ⟨qA.cell 0, qA.cell 1, qA.cell 2, qL.cell 0, qL.cell 1, qL.cell 2⟩
          have hP1 : ∀ W : World, Below w7.heap.size w7 W → Calls Try.prog 18 #[.agg #[.string s, .int .i64 b, .slice A n c]] W fun e w' => (∃ A' c', e = .returned (.agg #[.string s, .int .i64 b, .slice A' n c']) ∧ St w' A' n S ∧ n ≤ c' ∧ c' ≤ maxLen) ∧ Below w7.heap.size w7 w' ∧ w'.cell? ⟨w.heap.size, 0, none⟩ = some (.string s) ∧ w'.cell? ⟨w.heap.size, 1, none⟩ = some (.int .i64 b) ∧ w'.cell? ⟨w.heap.size, 2, none⟩ = some (.slice A n c) ∧ w'.cell? ⟨w.heap.size + 1, 0, none⟩ = some (.int .i64 p1) ∧ w'.cell? ⟨w.heap.size + 1, 1, none⟩ = some (.int .i64 p2) ∧ w'.cell? ⟨w.heap.size + 1, 2, none⟩ = some (.int .i64 p3) := by
            intro W hW
            refine (copy_any s b A n c S W (HS.out.below (HB7.out.trans (hW.mono HB7.out.size))) (by have := few_size HF.out; omega) HNIL.out).mono ?_
            rintro e w' ⟨A', c', rfl, hst, h1, h2, _, _, hb⟩
            have hB := hW.trans (hb.mono hW.size)
            exact ⟨⟨A', c', rfl, hst, h1, h2⟩, hB, hSS _ hB⟩
          have HP1 := Lib.hid hP1
          clear hP1
          have hP2 : ∀ (W V : World) (A' : Option Addr) (c' : Nat), St V A' n S → n ≤ c' → c' ≤ maxLen → Below w7.heap.size w7 V → Below V.heap.size V W → Calls Try.prog 52 #[.agg #[.string s, .int .i64 b, .slice A' n c'], .agg #[.int .i64 p1, .int .i64 p2, .int .i64 p3], .int .i64 m2] W fun e w' => (∃ (A2 : Option Addr) (c2 : Nat) (L : List (Int × Int)) (er : Int), e = .returned (.tuple #[.slice A2 L.length c2, .int .i64 er]) ∧ Rn w' A2 L ∧ PX (nmB s) b n S p1 p2 p3 m2 L er) ∧ Below w7.heap.size w7 w' ∧ w'.cell? ⟨w.heap.size, 0, none⟩ = some (.string s) ∧ w'.cell? ⟨w.heap.size, 1, none⟩ = some (.int .i64 b) ∧ w'.cell? ⟨w.heap.size, 2, none⟩ = some (.slice A n c) ∧ w'.cell? ⟨w.heap.size + 1, 0, none⟩ = some (.int .i64 p1) ∧ w'.cell? ⟨w.heap.size + 1, 1, none⟩ = some (.int .i64 p2) ∧ w'.cell? ⟨w.heap.size + 1, 2, none⟩ = some (.int .i64 p3) := by
            intro W V A' c' hst h1 h2 hV hW
            refine (passes_any s b A' n c' S p1 p2 p3 m2 W (hst.below hW) H1.out h1 h2).mono ?_
            rintro e w' ⟨hcn, hb⟩
            have hB := below_two hV (hW.trans (hb.mono hW.size))
            exact ⟨pa_form hcn, hB, hSS _ hB⟩
          have HP2 := Lib.hid hP2
          clear hP2
          have hSW := hSS w7 (Below.refl _ _)
          obtain ⟨sa0, sa1, sa2, sl0, sl1, sl2⟩ := hSW
          clear hSS
          go_wp2_with (go_at_call 21; (with_reducible refine (HW.out _).mono ?_); rintro e w' ⟨rfl, rfl⟩)
          have g2 := G2.out
          have g3 := G3.out
          have hm2 := HM2.out
          go_region_held3 (fun w' => w'.cell? ⟨w.heap.size, 0, none⟩ = some (.string s) ∧ w'.cell? ⟨w.heap.size, 1, none⟩ = some (.int .i64 b) ∧ w'.cell? ⟨w.heap.size, 2, none⟩ = some (.slice A n c) ∧ w'.cell? ⟨w.heap.size + 1, 0, none⟩ = some (.int .i64 p1) ∧ w'.cell? ⟨w.heap.size + 1, 1, none⟩ = some (.int .i64 p2) ∧ w'.cell? ⟨w.heap.size + 1, 2, none⟩ = some (.int .i64 p3)) (go_keep)
            (first
              | (go_at_call 18; (with_reducible refine (HP1.out _ ?_).mono ?_); (repeat (first | assumption | (with_reducible exact Below.refl _ _) | (with_reducible refine Below.drew ?_) | (with_reducible refine below_drewNs ?_))); rintro e w8 ⟨⟨A4, c4, rfl, hst4, hn4, hc4⟩, hb4, xa0, xa1, xa2, xl0, xl1, xl2⟩)
              | (go_at_call 52; (with_reducible refine (HP2.out _ w8 A4 c4 hst4 hn4 hc4 hb4 ?_).mono ?_); (repeat (first | assumption | (with_reducible exact Below.refl _ _) | (with_reducible refine Below.drew ?_) | (with_reducible refine below_drewNs ?_))); rintro e w9 ⟨⟨AM, cm, M, em, rfl, hrm, hpm⟩, hb5, ya0, ya1, ya2, yl0, yl1, yl2⟩))
          all_goals
            clear g2 g3 hm2
            have hes2 := eS_none (nm := nmB s) HO.out HP.out (inB_t (n := m2) (lo := 0) (hi := 100000000) ⟨by have := G1.out; omega, G1.out.2⟩)
            obtain ⟨rfl, rfl⟩ := px_good hpm hes2
            obtain ⟨M, hM⟩ : ∃ M, M = passK (nearB S n (P3 p1 p2 p3) m2) (S 0 0) (nT S n) := ⟨_, rfl⟩
            rw [← hM] at hrm ⊢
            have HM := Lib.hid hM
            have HRM9 := Lib.hid hrm
            have HRN9 := Lib.hid (HRN7.out.below hb5)
            clear hrm hpm hes2 hM HP1 HP2 HRN7 ya0 ya1 ya2 yl0 yl1 yl2 sa0 sa1 sa2 sl0 sl1 sl2
            have hA9 := HA7.out.keep hb5
            have hL9 := HL7.out.keep hb5
            have HB9 := Lib.hid (HB7.out.trans (hb5.mono HB7.out.size))
            clear a0 a1 a2 l0 l1 l2 hb5
            have a0 := hA9.cell 0
            have a1 := hA9.cell 1
            have a2 := hA9.cell 2
            have l0 := hL9.cell 0
            have l1 := hL9.cell 1
            have l2 := hL9.cell 2
            simp at a0 a1 a2 l0 l1 l2
            have HA9 := Lib.hid hA9
            have HL9 := Lib.hid hL9
            clear hA9 hL9
            have hll : L.length ≤ 201 := by
              rw [HL.out]
              exact Nat.le_trans (passK_len _ _ _) HNT.out
            have hml : M.length ≤ 201 := by
              rw [HM.out]
              exact Nat.le_trans (passK_len _ _ _) HNT.out
            have hll2 : L.length ≤ 1000000 := by omega
            have hll3 : L.length ≤ 250 := by omega
            have hml3 : M.length ≤ 250 := by omega
            have hol : OkR L (S 0 0) (S 0 0 + (nT S n : Int)) := by rw [HL.out]; exact passK_ok _ _ _
            have hom : OkR M (S 0 0) (S 0 0 + (nT S n : Int)) := by rw [HM.out]; exact passK_ok _ _ _
            have hle : totR L ≤ totR M := by
              rw [HL.out, HM.out, passK_tot, passK_tot]
              exact cnt_le (fun t ht => near_more m0 G1.out.1 ht) _
            have HLL2 := Lib.hid hll2
            have HLL3 := Lib.hid hll3
            have HML3 := Lib.hid hml3
            have HOL := Lib.hid hol
            have HOM := Lib.hid hom
            have HMO := Lib.hid (And.intro m0 m1)
            obtain ⟨t0, t1⟩ := tick_top HR.out
            have T0 := Lib.hid t0
            have T1 := Lib.hid t1
            have d1 : decide (totR L ≤ totR M) = true := decide_eq_true hle
            clear hll hml hll2 hll3 hml3 hol hom t0 t1 m0 m1
            go_wp2_with (first
              | (go_at_call 54; (with_reducible refine (refPasses_any s b A n c S p1 p2 p3 most w9 (HS.out.below HB9.out) HR.out HP.out HMO.out HN.out HC.out).mono ?_); rintro e w10 ⟨⟨v, rfl, hov⟩, hb10⟩; rw [← HL.out] at hov; obtain ⟨AV, cv, rfl, hrv⟩ := hov.rn; have HRM10 := Lib.hid (HRM9.out.below hb10); have HRN10 := Lib.hid (HRN9.out.below hb10); have HRV := Lib.hid hrv; have HB10 := Lib.hid (HB9.out.trans (hb10.mono HB9.out.size)); clear hov hrv hb10)
              | (go_at_call 53; (with_reducible refine (ranges_same AL AV cl cv L w10 HRN10.out HRV.out HLL2.out).mono ?_); rintro e w11 ⟨rfl, hb11⟩; have HRM11 := Lib.hid (HRM10.out.below hb11); have HRN11 := Lib.hid (HRN10.out.below hb11); have HB11 := Lib.hid (HB10.out.trans (hb11.mono HB10.out.size)); clear hb11)
              | (go_at_call 55; (with_reducible refine (ticks_any AM cm M (S 0 0) (S 0 0 + (nT S n : Int)) w11 HRM11.out HML3.out HOM.out T0.out T1.out).mono ?_); rintro e w12 ⟨rfl, hb12⟩; have HRN12 := Lib.hid (HRN11.out.below hb12); have HB12 := Lib.hid (HB11.out.trans (hb12.mono HB11.out.size)); clear hb12)
              | (go_at_call 55; (with_reducible refine (ticks_any AL cl L (S 0 0) (S 0 0 + (nT S n : Int)) w12 HRN12.out HLL3.out HOL.out T0.out T1.out).mono ?_); rintro e w13 ⟨rfl, hb13⟩; have HB13 := Lib.hid (HB12.out.trans (hb13.mono HB12.out.size)); clear hb13))
            go_ret
            exact ⟨rfl, HB13.out⟩
        · have hmo : inB most 0 100000000 = false := by simpa using hmo
          have hes := eS_two (p1 := p1) (p2 := p2) (p3 := p3) HO.out (.inr hmo)
          obtain ⟨rfl, rfl⟩ := px_bad HPX.out (by rw [hes]; decide)
          rw [hes]
          have HW : Hid (∀ W : World, Calls Try.prog 21 #[.int .i64 most, .int .i64 0, .int .i64 100000000] W fun e w' => e = .returned (.bool false) ∧ W = w') := fun W => by rw [← hmo]; exact baseWithin_any _ _ _ W
          clear hmo hes HPX
          go_wp2_with (go_at_call 21; (with_reducible refine (HW.out _).mono ?_); rintro e w' ⟨rfl, rfl⟩)
          go_ret
          exact ⟨rfl, HB7.out⟩
      · rw [decide_eq_false hp]
        have hes := eS_two (most := most) HO.out (.inl hp)
        obtain ⟨rfl, rfl⟩ := px_bad HPX.out (by rw [hes]; decide)
        rw [hes]
        clear hp hes HPX
        go_wp2
        go_ret
        exact ⟨rfl, HB7.out⟩
    · have hes := eS_orb (p1 := p1) (p2 := p2) (p3 := p3) (most := most) h0
      obtain ⟨rfl, rfl⟩ := px_bad HPX.out (by rw [hes]; exact h0)
      rw [hes]
      clear hes HPX
      generalize (oce (nmB s) b n S).2 = q at h0 ⊢
      go_wp2
      go_ret
      exact ⟨rfl, HB6.out⟩
  · have hf : briefB s b n S = false := by simpa using hf
    rw [hf]
    go_wp2
    go_ret
    exact ⟨rfl, HB2.out⟩
end Go.Proofs.Ytegmjanpeaibcaa
