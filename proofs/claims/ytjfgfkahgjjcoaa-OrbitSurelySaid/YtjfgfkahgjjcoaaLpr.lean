/- The law: CheckNearest accepts just the ticks that are specified, or returns the errors. -/
import Derived.Test.YtjfgfkahgjjcoaaOin
import Derived.Test.YtjfgfkahgjjcoaaOrp
import Derived.Test.YtjfgfkahgjjcoaaObr
import Derived.Test.YtjfgfkahgjjcoaaOaw
import Derived.Test.YtjfgfkahgjjcoaaOcp
import Derived.Test.YtjfgfkahgjjcoaaOnr
import Derived.Deep.RegionHeld3
namespace Go.Proofs.Ytjfgfkahgjjcoaa
open Go.RowKit
set_option maxHeartbeats 1600000
set_option maxRecDepth 100000

theorem CN_form {nm : Bool} {b : Int} {n : Nat} {S : Nat → Nat → Int} {p1 p2 p3 xl xh xw : Int} {e : Ending} (h : CN nm b n S p1 p2 p3 xl xh xw e) : ∃ x y : Int, e = .returned (.tuple #[.int .i64 x, .int .i64 y]) := by
  rcases h with ⟨_, h⟩ | ⟨_, _, h⟩ | ⟨_, _, h⟩ <;> exact ⟨_, _, h⟩
theorem CN_bad {nm : Bool} {b : Int} {n : Nat} {S : Nat → Nat → Int} {p1 p2 p3 xl xh xw x y c : Int} (h : CN nm b n S p1 p2 p3 xl xh xw (.returned (.tuple #[.int .i64 x, .int .i64 y]))) (hc : eC nm b n S p1 p2 p3 xl xh xw = c) (h0 : c ≠ 0) : x = 0 ∧ y = c := by
  subst hc
  rcases h with ⟨_, h⟩ | ⟨g, _, _⟩ | ⟨g, _, _⟩
  · simpa using h
  · exact absurd g h0
  · exact absurd g h0
theorem CN_two {nm : Bool} {b : Int} {n : Nat} {S : Nat → Nat → Int} {p1 p2 p3 xl xh xw x y x' y' : Int} (h : CN nm b n S p1 p2 p3 xl xh xw (.returned (.tuple #[.int .i64 x, .int .i64 y])))
    (g : CN nm b n S p1 p2 p3 xl xh xw (.returned (.tuple #[.int .i64 x', .int .i64 y']))) : x' = x ∧ y' = y := by
  rcases h with ⟨h1, h⟩ | ⟨h1, ⟨t, h2, h3⟩, h⟩ | ⟨h1, h2, h⟩ <;> rcases g with ⟨g1, g⟩ | ⟨g1, ⟨t', g2, g3⟩, g⟩ | ⟨g1, g2, g⟩
  · simp at h g; omega
  · exact absurd g1 h1
  · exact absurd g1 h1
  · exact absurd h1 g1
  · simp at h g; omega
  · exact absurd (g2 t h2) h3
  · exact absurd h1 g1
  · exact absurd (h2 t' g2) g3
  · simp at h g; omega
theorem eC_orb {nm : Bool} {b : Int} {n : Nat} {S : Nat → Nat → Int} {p1 p2 p3 xl xh xw : Int} (h : (oce nm b n S).2 ≠ 0) : eC nm b n S p1 p2 p3 xl xh xw = (oce nm b n S).2 := by
  unfold eC
  generalize (oce nm b n S).2 = q at *
  simp [fe, l6, h]
theorem eC_plc {nm : Bool} {b : Int} {n : Nat} {S : Nat → Nat → Int} {p1 p2 p3 xl xh xw : Int} (h : (oce nm b n S).2 = 0) (hp : pe p1 p2 p3 ≠ 0) : eC nm b n S p1 p2 p3 xl xh xw = pe p1 p2 p3 := by
  unfold eC
  rw [h]
  generalize pe p1 p2 p3 = q at *
  simp [fe, l6, hp]
theorem pl_pe (x y z : Int) : plB x y z = decide (pe x y z = 0) := by
  unfold plB pe
  by_cases h1 : -100000000 ≤ x ∧ x ≤ 100000000
  · by_cases h2 : -100000000 ≤ y ∧ y ≤ 100000000
    · by_cases h3 : -100000000 ≤ z ∧ z ≤ 100000000
      · rw [inB_t h1, inB_t h2, inB_t h3, if_pos ⟨h1, h2, h3⟩]; rfl
      · rw [inB_f h3, if_neg (fun h => h3 h.2.2), Bool.and_false]; rfl
    · rw [inB_f h2, if_neg (fun h => h2 h.2.1), Bool.and_false]; rfl
  · rw [inB_f h1, if_neg (fun h => h1 h.1)]; rfl
theorem pe_two (x y z : Int) (h : pe x y z ≠ 0) : pe x y z = 2 := by
  unfold pe at *
  split
  · rename_i g
    rw [if_pos g] at h
    exact absurd rfl h
  · rfl

theorem proofs_all {w : World} {s : ByteArray} {b : Int} {A : Option Addr} {n c : Nat} {S : Nat → Nat → Int} {p1 p2 p3 xl xh xw : Int} (h : OrbIn w s b A n c S) (_hp : I64 p1 ∧ I64 p2 ∧ I64 p3) (_hx : I64 xl ∧ I64 xh ∧ I64 xw) :
    Calls Try.prog 9 #[.agg #[.string s, .int .i64 b, .slice A n c], .agg #[.int .i64 p1, .int .i64 p2, .int .i64 p3], .agg #[.int .i64 xl, .int .i64 xh, .int .i64 xw]] w fun e w' => e = .returned (.bool true) ∧ Below w.heap.size w w' := by
  obtain ⟨hs, hn, hc, _, hS, _, hA0⟩ := h
  have H1 := Lib.hid hs
  have HN := Lib.hid hn
  have HC := Lib.hid hc
  have HA0 := Lib.hid hA0
  have HS := Lib.hid hS
  clear hs hn hc hS hA0
  go_enter Try.func9, Try.ntmps9
  go_wp2_with fail
  have hA0 : At (((w.alloc (.cells #[.string s, .int .i64 b, .slice A n c] 24)).alloc (.cells #[.int .i64 p1, .int .i64 p2, .int .i64 p3] 42)).alloc (.cells #[.int .i64 xl, .int .i64 xh, .int .i64 xw] 77)) w.heap.size 24 #[.string s, .int .i64 b, .slice A n c] := ((At.new w _ _).alloc _).alloc _
  have hL0 : At (((w.alloc (.cells #[.string s, .int .i64 b, .slice A n c] 24)).alloc (.cells #[.int .i64 p1, .int .i64 p2, .int .i64 p3] 42)).alloc (.cells #[.int .i64 xl, .int .i64 xh, .int .i64 xw] 77)) (w.heap.size + 1) 42 #[.int .i64 p1, .int .i64 p2, .int .i64 p3] := (at_new (by simp)).alloc _
  have hX0 : At (((w.alloc (.cells #[.string s, .int .i64 b, .slice A n c] 24)).alloc (.cells #[.int .i64 p1, .int .i64 p2, .int .i64 p3] 42)).alloc (.cells #[.int .i64 xl, .int .i64 xh, .int .i64 xw] 77)) (w.heap.size + 1 + 1) 77 #[.int .i64 xl, .int .i64 xh, .int .i64 xw] := at_new (by simp)
  have hb0 : Below w.heap.size w (((w.alloc (.cells #[.string s, .int .i64 b, .slice A n c] 24)).alloc (.cells #[.int .i64 p1, .int .i64 p2, .int .i64 p3] 42)).alloc (.cells #[.int .i64 xl, .int .i64 xh, .int .i64 xw] 77)) := by
    repeat (first | (with_reducible exact Below.refl _ _) | (with_reducible refine below_new ?_ (by first | omega | (simp; done) | (simp; omega))))
  refine (awake_ok _).mono ?_
  rintro e w1 ⟨rfl, hb1⟩
  have hA1 := hA0.keep hb1
  have hL1 := hL0.keep hb1
  have hX1 := hX0.keep hb1
  have hB1 := below_two hb0 hb1
  have a0 := hA1.cell 0
  have a1 := hA1.cell 1
  have a2 := hA1.cell 2
  simp at a0 a1 a2
  have HA1 := Lib.hid hA1
  have HL1 := Lib.hid hL1
  have HX1 := Lib.hid hX1
  have HB1 := Lib.hid hB1
  clear hA0 hL0 hX0 hb0 hb1 hA1 hL1 hX1 hB1
  go_wp2_with fail
  refine (brief_any s b A n c S w1 (HS.out.below HB1.out) H1.out HN.out HC.out).mono ?_
  rintro e w2 ⟨rfl, hb2⟩
  have hA2 := HA1.out.keep hb2
  have hL2 := HL1.out.keep hb2
  have hX2 := HX1.out.keep hb2
  have HB2 := Lib.hid (HB1.out.trans (hb2.mono HB1.out.size))
  clear a0 a1 a2 hb2
  by_cases hf : briefB s b n S = true
  · have hfew : fewB s n = true := by
      unfold briefB at hf
      rw [Bool.and_eq_true] at hf
      exact hf.1
    have HF := Lib.hid hfew
    have hSS : ∀ w', Below w2.heap.size w2 w' → w'.cell? ⟨w.heap.size, 0, none⟩ = some (.string s) ∧ w'.cell? ⟨w.heap.size, 1, none⟩ = some (.int .i64 b) ∧ w'.cell? ⟨w.heap.size, 2, none⟩ = some (.slice A n c) ∧ w'.cell? ⟨w.heap.size + 1, 0, none⟩ = some (.int .i64 p1) ∧ w'.cell? ⟨w.heap.size + 1, 1, none⟩ = some (.int .i64 p2) ∧ w'.cell? ⟨w.heap.size + 1, 2, none⟩ = some (.int .i64 p3) ∧ w'.cell? ⟨w.heap.size + 1 + 1, 0, none⟩ = some (.int .i64 xl) ∧ w'.cell? ⟨w.heap.size + 1 + 1, 1, none⟩ = some (.int .i64 xh) ∧ w'.cell? ⟨w.heap.size + 1 + 1, 2, none⟩ = some (.int .i64 xw) := fun w' hW => by
      have q := hA2.keep hW
      have r := hL2.keep hW
      have u := hX2.keep hW
      exact ⟨q.cell 0, q.cell 1, q.cell 2, r.cell 0, r.cell 1, r.cell 2, u.cell 0, u.cell 1, u.cell 2⟩
    have hP1 : ∀ W : World, Below w2.heap.size w2 W → Calls Try.prog 18 #[.agg #[.string s, .int .i64 b, .slice A n c]] W fun e w' => (∃ A' c', e = .returned (.agg #[.string s, .int .i64 b, .slice A' n c']) ∧ St w' A' n S ∧ n ≤ c' ∧ c' ≤ maxLen) ∧ Below w2.heap.size w2 w' ∧ w'.cell? ⟨w.heap.size, 0, none⟩ = some (.string s) ∧ w'.cell? ⟨w.heap.size, 1, none⟩ = some (.int .i64 b) ∧ w'.cell? ⟨w.heap.size, 2, none⟩ = some (.slice A n c) ∧ w'.cell? ⟨w.heap.size + 1, 0, none⟩ = some (.int .i64 p1) ∧ w'.cell? ⟨w.heap.size + 1, 1, none⟩ = some (.int .i64 p2) ∧ w'.cell? ⟨w.heap.size + 1, 2, none⟩ = some (.int .i64 p3) ∧ w'.cell? ⟨w.heap.size + 1 + 1, 0, none⟩ = some (.int .i64 xl) ∧ w'.cell? ⟨w.heap.size + 1 + 1, 1, none⟩ = some (.int .i64 xh) ∧ w'.cell? ⟨w.heap.size + 1 + 1, 2, none⟩ = some (.int .i64 xw) := by
      intro W hW
      refine (copy_any s b A n c S W (HS.out.below (HB2.out.trans (hW.mono HB2.out.size))) (by have := few_size HF.out; omega) HA0.out).mono ?_
      rintro e w' ⟨A', c', rfl, hst, h1, h2, _, _, hb⟩
      have hB := hW.trans (hb.mono hW.size)
      exact ⟨⟨A', c', rfl, hst, h1, h2⟩, hB, hSS _ hB⟩
    have hP2 : ∀ (W V : World) (A' : Option Addr) (c' : Nat), St V A' n S → n ≤ c' → c' ≤ maxLen → Below w2.heap.size w2 V → Below V.heap.size V W → Calls Try.prog 43 #[.agg #[.string s, .int .i64 b, .slice A' n c'], .agg #[.int .i64 p1, .int .i64 p2, .int .i64 p3], .agg #[.int .i64 xl, .int .i64 xh, .int .i64 xw]] W fun e w' => (∃ x y : Int, e = .returned (.tuple #[.int .i64 x, .int .i64 y]) ∧ CN (nmB s) b n S p1 p2 p3 xl xh xw (.returned (.tuple #[.int .i64 x, .int .i64 y]))) ∧ Below w2.heap.size w2 w' ∧ w'.cell? ⟨w.heap.size, 0, none⟩ = some (.string s) ∧ w'.cell? ⟨w.heap.size, 1, none⟩ = some (.int .i64 b) ∧ w'.cell? ⟨w.heap.size, 2, none⟩ = some (.slice A n c) ∧ w'.cell? ⟨w.heap.size + 1, 0, none⟩ = some (.int .i64 p1) ∧ w'.cell? ⟨w.heap.size + 1, 1, none⟩ = some (.int .i64 p2) ∧ w'.cell? ⟨w.heap.size + 1, 2, none⟩ = some (.int .i64 p3) ∧ w'.cell? ⟨w.heap.size + 1 + 1, 0, none⟩ = some (.int .i64 xl) ∧ w'.cell? ⟨w.heap.size + 1 + 1, 1, none⟩ = some (.int .i64 xh) ∧ w'.cell? ⟨w.heap.size + 1 + 1, 2, none⟩ = some (.int .i64 xw) := by
      intro W V A' c' hst h1 h2 hV hW
      refine (checkNearest_any s b A' n c' S p1 p2 p3 xl xh xw W (hst.below hW) H1.out h1 h2).mono ?_
      rintro e w' ⟨hcn, hb⟩
      obtain ⟨x, y, rfl⟩ := CN_form hcn
      have hB := below_two hV (hW.trans (hb.mono hW.size))
      exact ⟨⟨x, y, rfl, hcn⟩, hB, hSS _ hB⟩
    obtain ⟨s0, s1, s2, s3, s4, s5, s6, s7, s8⟩ := hSS w2 (Below.refl _ _)
    have HP1 := Lib.hid hP1
    have HP2 := Lib.hid hP2
    have HA2 := Lib.hid hA2
    have HL2 := Lib.hid hL2
    have HX2 := Lib.hid hX2
    clear hP1 hP2 hA2 hL2 hX2 hSS hfew
    go_wp2_with fail
    go_region_held3 (fun w' => w'.cell? ⟨w.heap.size, 0, none⟩ = some (.string s) ∧ w'.cell? ⟨w.heap.size, 1, none⟩ = some (.int .i64 b) ∧ w'.cell? ⟨w.heap.size, 2, none⟩ = some (.slice A n c) ∧ w'.cell? ⟨w.heap.size + 1, 0, none⟩ = some (.int .i64 p1) ∧ w'.cell? ⟨w.heap.size + 1, 1, none⟩ = some (.int .i64 p2) ∧ w'.cell? ⟨w.heap.size + 1, 2, none⟩ = some (.int .i64 p3) ∧ w'.cell? ⟨w.heap.size + 1 + 1, 0, none⟩ = some (.int .i64 xl) ∧ w'.cell? ⟨w.heap.size + 1 + 1, 1, none⟩ = some (.int .i64 xh) ∧ w'.cell? ⟨w.heap.size + 1 + 1, 2, none⟩ = some (.int .i64 xw)) (go_keep)
      (first
        | (go_at_call 18; (with_reducible refine (HP1.out _ ?_).mono ?_); (repeat (first | assumption | (with_reducible exact Below.refl _ _) | (with_reducible refine Below.drew ?_) | (with_reducible refine below_drewNs ?_))); rintro e w4 ⟨⟨A4, c4, rfl, hst4, hn4, hc4⟩, hb4, ha0, ha1, ha2, ha3, ha4, ha5, ha6, ha7, ha8⟩)
        | (go_at_call 43; (with_reducible refine (HP2.out _ w4 A4 c4 hst4 hn4 hc4 hb4 ?_).mono ?_); (repeat (first | assumption | (with_reducible exact Below.refl _ _) | (with_reducible refine Below.drew ?_) | (with_reducible refine below_drewNs ?_))); rintro e w5 ⟨⟨x, y, rfl, hcn⟩, hb5, hd0, hd1, hd2, hd3, hd4, hd5, hd6, hd7, hd8⟩))
    go_wp2_with fail
    refine (refErr_any s b A n c S _ (HS.out.below (HB2.out.trans (hb5.mono HB2.out.size))) H1.out HN.out HC.out).mono ?_
    rintro e w6 ⟨rfl, hb6⟩
    have hb26 := below_two hb5 hb6
    have hL6 := HL2.out.keep hb26
    have hA6 := HA2.out.keep hb26
    have hX6 := HX2.out.keep hb26
    have HB6 := Lib.hid (HB2.out.trans (hb26.mono HB2.out.size))
    have HCN := Lib.hid hcn
    clear hb5 hb6 hb26 hd0 hd1 hd2 hd3 hd4 hd5 hd6 hd7 hd8 s0 s1 s2 s3 s4 s5 s6 s7 s8 hcn
    have a0 := hA6.cell 0
    have a1 := hA6.cell 1
    have a2 := hA6.cell 2
    have b0 := hL6.cell 0
    have b1 := hL6.cell 1
    have b2 := hL6.cell 2
    have c0 := hX6.cell 0
    have c1 := hX6.cell 1
    have c2 := hX6.cell 2
    simp at a0 a1 a2 b0 b1 b2 c0 c1 c2
    have HA6 := Lib.hid hA6
    have HL6 := Lib.hid hL6
    have HX6 := Lib.hid hX6
    clear hA6 hL6 hX6
    by_cases h0 : (oce (nmB s) b n S).2 = 0
    · have hR := (oce_zero h0).2
      have hnm := (oce_zero h0).1
      have HR := Lib.hid hR
      have HNM := Lib.hid hnm
      have HO := Lib.hid h0
      clear hR hnm
      rw [h0]
      clear h0
      go_wp2_with fail
      refine (refIsPlace_any p1 p2 p3 _).mono ?_
      rintro e w7 ⟨rfl, hw7⟩
      have hb7 : Below w6.heap.size w6 w7 := by rw [← hw7]; exact below_new (Below.refl _ w6) (Nat.le_refl _)
      have hA7 := HA6.out.keep hb7
      have hL7 := HL6.out.keep hb7
      have hX7 := HX6.out.keep hb7
      have HB7 := Lib.hid (HB6.out.trans (hb7.mono HB6.out.size))
      clear hw7 hb7 a0 a1 a2 b0 b1 b2 c0 c1 c2
      have a0 := hA7.cell 0
      have a1 := hA7.cell 1
      have a2 := hA7.cell 2
      have b0 := hL7.cell 0
      have b1 := hL7.cell 1
      have b2 := hL7.cell 2
      have c0 := hX7.cell 0
      have c1 := hX7.cell 1
      have c2 := hX7.cell 2
      simp at a0 a1 a2 b0 b1 b2 c0 c1 c2
      rw [pl_pe]
      by_cases hp : pe p1 p2 p3 = 0
      · rw [decide_eq_true hp]
        have HP := Lib.hid hp
        clear hA7 hL7 hX7 hp
        go_wp2_with fail
        refine (refCheckNearest_any s b A n c S p1 p2 p3 xl xh xw _ (HS.out.below HB7.out) HR.out HP.out HN.out HC.out).mono ?_
        rintro e w8 ⟨hcn8, hb8⟩
        obtain ⟨x', y', rfl⟩ := CN_form hcn8
        have hcn := HCN.out
        rw [HNM.out] at hcn
        obtain ⟨rfl, rfl⟩ := CN_two hcn hcn8
        have HB8 := Lib.hid (HB7.out.trans (hb8.mono HB7.out.size))
        clear hb8 hcn hcn8 HCN
        go_wp2
        go_ret
        exact ⟨rfl, HB8.out⟩
      · rw [decide_eq_false hp]
        obtain ⟨rfl, rfl⟩ := CN_bad HCN.out ((eC_plc HO.out hp).trans (pe_two _ _ _ hp)) (by decide)
        clear hA7 hL7 hX7 hp HCN
        go_wp2
        go_ret
        exact ⟨rfl, HB7.out⟩
    · obtain ⟨rfl, hy⟩ := CN_bad HCN.out (eC_orb h0) h0
      generalize (oce (nmB s) b n S).2 = q at h0 hy ⊢
      subst hy
      clear HCN
      go_wp2
      go_ret
      exact ⟨rfl, HB6.out⟩
  · have hf : briefB s b n S = false := by simpa using hf
    rw [hf]
    go_wp2
    go_ret
    exact ⟨rfl, HB2.out⟩
end Go.Proofs.Ytjfgfkahgjjcoaa
