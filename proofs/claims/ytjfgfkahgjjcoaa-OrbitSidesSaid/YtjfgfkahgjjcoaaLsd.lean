/- The law: SideOf returns the side of a place, or the errors. -/
import Derived.Test.YtjfgfkahgjjcoaaOin
import Derived.Test.YtjfgfkahgjjcoaaOse
import Derived.Test.YtjfgfkahgjjcoaaOaw
import Derived.Test.YtjfgfkahgjjcoaaOcp
import Derived.Test.YtjfgfkahgjjcoaaLpr
import Derived.Deep.RegionHeld3
namespace Go.Proofs.Ytjfgfkahgjjcoaa
open Go.RowKit
set_option maxHeartbeats 1600000
set_option maxRecDepth 100000

theorem eA_orb {nm : Bool} {b : Int} {n : Nat} {S : Nat → Nat → Int} {a p1 p2 p3 : Int} (h : (oce nm b n S).2 ≠ 0) : eA nm b n S a p1 p2 p3 = (oce nm b n S).2 := by
  unfold eA
  rw [fe_three, if_neg h]
theorem eA_arc {nm : Bool} {b : Int} {n : Nat} {S : Nat → Nat → Int} {a p1 p2 p3 : Int} (h : (oce nm b n S).2 = 0) (hi : inB a 0 ((n : Int) - 2) = false) : eA nm b n S a p1 p2 p3 = 6 := by
  unfold eA
  rw [fe_three, if_pos h, hi, if_neg (by decide)]
  rfl
theorem eA_plc {nm : Bool} {b : Int} {n : Nat} {S : Nat → Nat → Int} {a p1 p2 p3 : Int} (h : (oce nm b n S).2 = 0) (hi : inB a 0 ((n : Int) - 2) = true) : eA nm b n S a p1 p2 p3 = pe p1 p2 p3 := by
  unfold eA
  rw [fe_three, if_pos h, hi, if_pos (by rfl)]

theorem sides_all {w : World} {s : ByteArray} {b : Int} {A : Option Addr} {n c : Nat} {S : Nat → Nat → Int} {a p1 p2 p3 : Int} (h : OrbIn w s b A n c S) (_ha : I64 a) (_hp : I64 p1 ∧ I64 p2 ∧ I64 p3) :
    Calls Try.prog 7 #[.agg #[.string s, .int .i64 b, .slice A n c], .int .i64 a, .agg #[.int .i64 p1, .int .i64 p2, .int .i64 p3]] w fun e w' => e = .returned (.bool true) ∧ Below w.heap.size w w' := by
  obtain ⟨hs, hn, hc, _, hS, _, hA0⟩ := h
  have H1 := Lib.hid hs
  have HN := Lib.hid hn
  have HC := Lib.hid hc
  have HA0 := Lib.hid hA0
  have HS := Lib.hid hS
  have hm := Nat.le_trans hn hc
  have u5 : IntKind.i64.wrap ((n : Int) - 2) = (n : Int) - 2 := IntWalk.i64_in _ (by unfold maxLen at hm; omega)
  clear hs hn hc hS hA0 hm
  go_enter Try.func7, Try.ntmps7
  go_wp2_with fail
  have hA0 : At ((w.alloc (.cells #[.string s, .int .i64 b, .slice A n c] 24)).alloc (.cells #[.int .i64 p1, .int .i64 p2, .int .i64 p3] 42)) w.heap.size 24 #[.string s, .int .i64 b, .slice A n c] := (At.new w _ _).alloc _
  have hL0 : At ((w.alloc (.cells #[.string s, .int .i64 b, .slice A n c] 24)).alloc (.cells #[.int .i64 p1, .int .i64 p2, .int .i64 p3] 42)) (w.heap.size + 1) 42 #[.int .i64 p1, .int .i64 p2, .int .i64 p3] := at_new (by simp)
  have hb0 : Below w.heap.size w ((w.alloc (.cells #[.string s, .int .i64 b, .slice A n c] 24)).alloc (.cells #[.int .i64 p1, .int .i64 p2, .int .i64 p3] 42)) := by
    repeat (first | (with_reducible exact Below.refl _ _) | (with_reducible refine below_new ?_ (by first | omega | (simp; done) | (simp; omega))))
  refine (awake_ok _).mono ?_
  rintro e w1 ⟨rfl, hb1⟩
  have hA1 := hA0.keep hb1
  have hL1 := hL0.keep hb1
  have hB1 := below_two hb0 hb1
  have a0 := hA1.cell 0
  have a1 := hA1.cell 1
  have a2 := hA1.cell 2
  simp at a0 a1 a2
  have HA1 := Lib.hid hA1
  have HL1 := Lib.hid hL1
  have HB1 := Lib.hid hB1
  clear hA0 hL0 hb0 hb1 hA1 hL1 hB1
  go_wp2_with fail
  refine (few_any s b A n c w1).mono ?_
  rintro e w2 ⟨rfl, hb2⟩
  have hA2 := HA1.out.keep hb2
  have hL2 := HL1.out.keep hb2
  have HB2 := Lib.hid (HB1.out.trans (hb2.mono HB1.out.size))
  clear a0 a1 a2 hb2
  by_cases hf : fewB s n = true
  · have HF := Lib.hid hf
    have hSS : ∀ w', Below w2.heap.size w2 w' → w'.cell? ⟨w.heap.size, 0, none⟩ = some (.string s) ∧ w'.cell? ⟨w.heap.size, 1, none⟩ = some (.int .i64 b) ∧ w'.cell? ⟨w.heap.size, 2, none⟩ = some (.slice A n c) ∧ w'.cell? ⟨w.heap.size + 1, 0, none⟩ = some (.int .i64 p1) ∧ w'.cell? ⟨w.heap.size + 1, 1, none⟩ = some (.int .i64 p2) ∧ w'.cell? ⟨w.heap.size + 1, 2, none⟩ = some (.int .i64 p3) := fun w' hW => by
      have q := hA2.keep hW
      have r := hL2.keep hW
      exact ⟨q.cell 0, q.cell 1, q.cell 2, r.cell 0, r.cell 1, r.cell 2⟩
    have hP1 : ∀ W : World, Below w2.heap.size w2 W → Calls Try.prog 18 #[.agg #[.string s, .int .i64 b, .slice A n c]] W fun e w' => (∃ A' c', e = .returned (.agg #[.string s, .int .i64 b, .slice A' n c']) ∧ St w' A' n S ∧ n ≤ c' ∧ c' ≤ maxLen) ∧ Below w2.heap.size w2 w' ∧ w'.cell? ⟨w.heap.size, 0, none⟩ = some (.string s) ∧ w'.cell? ⟨w.heap.size, 1, none⟩ = some (.int .i64 b) ∧ w'.cell? ⟨w.heap.size, 2, none⟩ = some (.slice A n c) ∧ w'.cell? ⟨w.heap.size + 1, 0, none⟩ = some (.int .i64 p1) ∧ w'.cell? ⟨w.heap.size + 1, 1, none⟩ = some (.int .i64 p2) ∧ w'.cell? ⟨w.heap.size + 1, 2, none⟩ = some (.int .i64 p3) := by
      intro W hW
      refine (copy_any s b A n c S W (HS.out.below (HB2.out.trans (hW.mono HB2.out.size))) (by have := few_size HF.out; omega) HA0.out).mono ?_
      rintro e w' ⟨A', c', rfl, hst, h1, h2, _, _, hb⟩
      have hB := hW.trans (hb.mono hW.size)
      exact ⟨⟨A', c', rfl, hst, h1, h2⟩, hB, hSS _ hB⟩
    have hP2 : ∀ (W V : World) (A' : Option Addr) (c' : Nat), St V A' n S → n ≤ c' → c' ≤ maxLen → Below w2.heap.size w2 V → Below V.heap.size V W → Calls Try.prog 35 #[.agg #[.string s, .int .i64 b, .slice A' n c'], .int .i64 a, .agg #[.int .i64 p1, .int .i64 p2, .int .i64 p3]] W fun e w' => (∃ x y : Int, e = .returned (.tuple #[.int .i64 x, .int .i64 y]) ∧ sdR (nmB s) b n S a p1 p2 p3 = .tuple #[.int .i64 x, .int .i64 y]) ∧ Below w2.heap.size w2 w' ∧ w'.cell? ⟨w.heap.size, 0, none⟩ = some (.string s) ∧ w'.cell? ⟨w.heap.size, 1, none⟩ = some (.int .i64 b) ∧ w'.cell? ⟨w.heap.size, 2, none⟩ = some (.slice A n c) ∧ w'.cell? ⟨w.heap.size + 1, 0, none⟩ = some (.int .i64 p1) ∧ w'.cell? ⟨w.heap.size + 1, 1, none⟩ = some (.int .i64 p2) ∧ w'.cell? ⟨w.heap.size + 1, 2, none⟩ = some (.int .i64 p3) := by
      intro W V A' c' hst h1 h2 hV hW
      refine (sideOf_any s b A' n c' S a p1 p2 p3 W (hst.below hW) H1.out h1 h2).mono ?_
      rintro e w' ⟨rfl, hb⟩
      have hB := below_two hV (hW.trans (hb.mono hW.size))
      have hf : ∃ x y : Int, sdR (nmB s) b n S a p1 p2 p3 = .tuple #[.int .i64 x, .int .i64 y] := by
        unfold sdR
        split <;> exact ⟨_, _, rfl⟩
      obtain ⟨x, y, hxy⟩ := hf
      exact ⟨⟨x, y, by rw [hxy], hxy⟩, hB, hSS _ hB⟩
    obtain ⟨s0, s1, s2, s3, s4, s5⟩ := hSS w2 (Below.refl _ _)
    have HP1 := Lib.hid hP1
    have HP2 := Lib.hid hP2
    have HA2 := Lib.hid hA2
    have HL2 := Lib.hid hL2
    clear hP1 hP2 hA2 hL2 hSS
    go_wp2_with fail
    go_region_held3 (fun w' => w'.cell? ⟨w.heap.size, 0, none⟩ = some (.string s) ∧ w'.cell? ⟨w.heap.size, 1, none⟩ = some (.int .i64 b) ∧ w'.cell? ⟨w.heap.size, 2, none⟩ = some (.slice A n c) ∧ w'.cell? ⟨w.heap.size + 1, 0, none⟩ = some (.int .i64 p1) ∧ w'.cell? ⟨w.heap.size + 1, 1, none⟩ = some (.int .i64 p2) ∧ w'.cell? ⟨w.heap.size + 1, 2, none⟩ = some (.int .i64 p3)) (go_keep)
      (first
        | (go_at_call 18; (with_reducible refine (HP1.out _ ?_).mono ?_); (repeat (first | assumption | (with_reducible exact Below.refl _ _) | (with_reducible refine Below.drew ?_) | (with_reducible refine below_drewNs ?_))); rintro e w4 ⟨⟨A4, c4, rfl, hst4, hn4, hc4⟩, hb4, ha0, ha1, ha2, ha3, ha4, ha5⟩)
        | (go_at_call 35; (with_reducible refine (HP2.out _ w4 A4 c4 hst4 hn4 hc4 hb4 ?_).mono ?_); (repeat (first | assumption | (with_reducible exact Below.refl _ _) | (with_reducible refine Below.drew ?_) | (with_reducible refine below_drewNs ?_))); rintro e w5 ⟨⟨x, y, rfl, hxy⟩, hb5, hd0, hd1, hd2, hd3, hd4, hd5⟩))
    have HXY := Lib.hid hxy
    clear hxy
    go_wp2_with fail
    refine (refErr_any s b A n c S _ (HS.out.below (HB2.out.trans (hb5.mono HB2.out.size))) H1.out HN.out HC.out).mono ?_
    rintro e w6 ⟨rfl, hb6⟩
    have hb26 := below_two hb5 hb6
    have hL6 := HL2.out.keep hb26
    have hA6 := HA2.out.keep hb26
    have HB6 := Lib.hid (HB2.out.trans (hb26.mono HB2.out.size))
    clear hb5 hb6 hb26 hd0 hd1 hd2 hd3 hd4 hd5 s0 s1 s2 s3 s4 s5
    have a0 := hA6.cell 0
    have a1 := hA6.cell 1
    have a2 := hA6.cell 2
    have b0 := hL6.cell 0
    have b1 := hL6.cell 1
    have b2 := hL6.cell 2
    simp at a0 a1 a2 b0 b1 b2
    have HA6 := Lib.hid hA6
    have HL6 := Lib.hid hL6
    clear hA6 hL6
    have hbad : ∀ x' y' : Int, sdR (nmB s) b n S a p1 p2 p3 = .tuple #[.int .i64 x', .int .i64 y'] → x = x' ∧ y = y' := fun x' y' h => by
      rw [HXY.out] at h
      simpa using h
    have HBAD := Lib.hid hbad
    clear hbad
    by_cases h0 : (oce (nmB s) b n S).2 = 0
    · have HR := Lib.hid (oce_zero h0).2
      have HO := Lib.hid h0
      rw [h0]
      clear h0
      by_cases hi : inB a 0 ((n : Int) - 2) = true
      · have HI := Lib.hid hi
        have HW : Hid (∀ W : World, Calls Try.prog 21 #[.int .i64 a, .int .i64 0, .int .i64 ((n : Int) - 2)] W fun e w' => e = .returned (.bool true) ∧ W = w') := fun W => by rw [← hi]; exact baseWithin_any _ _ _ W
        clear hi
        go_wp2_with (go_at_call 21; refine (HW.out _).mono ?_; rintro e w' ⟨rfl, rfl⟩)
        refine (refIsPlace_any p1 p2 p3 _).mono ?_
        rintro e w7 ⟨rfl, hw7⟩
        have hb7 : Below w6.heap.size w6 w7 := by rw [← hw7]; exact below_new (Below.refl _ w6) (Nat.le_refl _)
        have hA7 := HA6.out.keep hb7
        have hL7 := HL6.out.keep hb7
        have HB7 := Lib.hid (HB6.out.trans (hb7.mono HB6.out.size))
        clear hw7 hb7 a0 a1 a2 b0 b1 b2
        have a0 := hA7.cell 0
        have a1 := hA7.cell 1
        have a2 := hA7.cell 2
        have b0 := hL7.cell 0
        have b1 := hL7.cell 1
        have b2 := hL7.cell 2
        simp at a0 a1 a2 b0 b1 b2
        rw [pl_pe]
        by_cases hp : pe p1 p2 p3 = 0
        · rw [decide_eq_true hp]
          have he : eA (nmB s) b n S a p1 p2 p3 = 0 := (eA_plc HO.out HI.out).trans hp
          have hin := inB_iff.1 HI.out
          obtain ⟨k, rfl⟩ : ∃ k : Nat, a = (k : Int) := ⟨a.toNat, by omega⟩
          obtain ⟨rfl, rfl⟩ := HBAD.out (sideQ (turnV S k p1 p2)) 0 (if_pos he)
          have hk : k + 1 < n := by omega
          have HK := Lib.hid hk
          have HP := Lib.hid hp
          clear hA7 hL7 hp he hin hk HBAD HXY
          go_wp2_with fail
          refine (refSideOf_any s b A n c S k p1 p2 p3 _ (HS.out.below HB7.out) HR.out HK.out HP.out HN.out HC.out).mono ?_
          rintro e w8 ⟨rfl, hb8⟩
          have HB8 := Lib.hid (HB7.out.trans (hb8.mono HB7.out.size))
          clear hb8
          go_wp2
          go_ret
          exact ⟨rfl, HB8.out⟩
        · rw [decide_eq_false hp]
          have he : eA (nmB s) b n S a p1 p2 p3 = 2 := (eA_plc HO.out HI.out).trans (pe_two _ _ _ hp)
          obtain ⟨rfl, rfl⟩ := HBAD.out 0 2 (by unfold sdR; rw [if_neg (by rw [he]; decide), he])
          clear hA7 hL7 hp he HBAD HXY
          go_wp2
          go_ret
          exact ⟨rfl, HB7.out⟩
      · have hi : inB a 0 ((n : Int) - 2) = false := by simpa using hi
        have he : eA (nmB s) b n S a p1 p2 p3 = 6 := eA_arc HO.out hi
        obtain ⟨rfl, rfl⟩ := HBAD.out 0 6 (by unfold sdR; rw [if_neg (by rw [he]; decide), he])
        have HW : Hid (∀ W : World, Calls Try.prog 21 #[.int .i64 a, .int .i64 0, .int .i64 ((n : Int) - 2)] W fun e w' => e = .returned (.bool false) ∧ W = w') := fun W => by rw [← hi]; exact baseWithin_any _ _ _ W
        clear hi he HBAD HXY
        go_wp2_with (go_at_call 21; refine (HW.out _).mono ?_; rintro e w' ⟨rfl, rfl⟩)
        go_ret
        exact ⟨rfl, HB6.out⟩
    · have he : eA (nmB s) b n S a p1 p2 p3 = (oce (nmB s) b n S).2 := eA_orb h0
      obtain ⟨rfl, hy⟩ := HBAD.out 0 (oce (nmB s) b n S).2 (by unfold sdR; rw [if_neg (by rw [he]; exact h0), he])
      generalize (oce (nmB s) b n S).2 = q at h0 hy ⊢
      subst hy
      clear HBAD HXY he
      go_wp2
      go_ret
      exact ⟨rfl, HB6.out⟩
  · have hf : fewB s n = false := by simpa using hf
    rw [hf]
    go_wp2
    go_ret
    exact ⟨rfl, HB2.out⟩
end Go.Proofs.Ytjfgfkahgjjcoaa
