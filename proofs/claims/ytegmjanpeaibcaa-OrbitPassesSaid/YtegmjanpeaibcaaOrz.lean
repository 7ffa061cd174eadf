/- Contract of the reference: the passes. -/
import Derived.Test.YtegmjanpeaibcaaOsr
import Derived.Test.YtegmjanpeaibcaaOgw
import Derived.Test.YtegmjanpeaibcaaOrf
import Derived.Test.YtegmjanpeaibcaaOrn
import Derived.BigQuiet
namespace Go.Proofs.Ytegmjanpeaibcaa
open Go.RowKit
set_option maxHeartbeats 1600000
set_option maxRecDepth 100000

theorem passK_yes {f : Int → Bool} {z : Int} {k : Nat} (h : f (z + (k : Int)) = true) : passK f z (k + 1) = gro (passK f z k) (z + (k : Int)) := by
  rw [passK]
  exact if_pos h
theorem passK_no {f : Int → Bool} {z : Int} {k : Nat} (h : f (z + (k : Int)) = false) : passK f z (k + 1) = passK f z k := by
  rw [passK]
  exact if_neg (by rw [h]; exact Bool.false_ne_true)
theorem gro_ne (L : List (Int × Int)) (t : Int) : gro L t ≠ [] := by
  rcases List.eq_nil_or_concat L with rfl | ⟨M, ⟨a, b⟩, rfl⟩
  · simp [gro_nil]
  · by_cases h : b = t - 1
    · rw [List.concat_eq_append, gro_join h]; simp
    · rw [List.concat_eq_append, gro_new h]; simp
theorem sq_wrap {m : Int} (h0 : 0 ≤ m) (h1 : m ≤ 100000000) : IntKind.i64.wrap (m * m) = m * m := IntWalk.i64_in _ (by
  have a := Int.mul_nonneg h0 h0
  have b := Int.mul_le_mul h1 h1 h0 (by omega)
  omega)

theorem refPasses_any (s : ByteArray) (b : Int) (A : Option Addr) (n c : Nat) (S : Nat → Nat → Int) (p1 p2 p3 most : Int) (w : World) (hS : St w A n S) (hR : Right S n b) (hp : pe p1 p2 p3 = 0) (hmo : 0 ≤ most ∧ most ≤ 100000000) (hn : n ≤ c) (hc : c ≤ maxLen) :
    Calls Try.prog 54 #[.agg #[.string s, .int .i64 b, .slice A n c], .agg #[.int .i64 p1, .int .i64 p2, .int .i64 p3], .int .i64 most] w fun e w' => (∃ v, e = .returned v ∧ OwnR w' w.heap.size v (passK (nearB S n (P3 p1 p2 p3) most) (S 0 0) (nT S n))) ∧ Below w.heap.size w w' := by
  have hn0 : 0 < n := by have := hR.1; omega
  have hpp := pe_zero hp
  have hm := Nat.le_trans hn hc
  have a1 := (hR.2.2.2.1 0 hn0).1
  have a2 := (hR.2.2.2.1 (n - 1) (by omega)).1
  have hfl : S 0 0 ≤ S (n - 1) 0 := hR.2.2.2.2.1.le (Nat.zero_le _) (by omega)
  have hsp := hR.2.2.2.2.2 (n - 1) (by omega)
  have F4 : Hid (∀ X : World, St X A n S → Calls Try.prog 45 #[.agg #[.string s, .int .i64 b, .slice A n c]] X fun e w' => e = .returned (.int .i64 (S 0 0)) ∧ Below X.heap.size X w') := fun X hX => refFirst_any s b A n c S X hX hn0
  have F5 : Hid (∀ X : World, St X A n S → Calls Try.prog 46 #[.agg #[.string s, .int .i64 b, .slice A n c]] X fun e w' => e = .returned (.int .i64 (S (n - 1) 0)) ∧ Below X.heap.size X w') := fun X hX => refLast_any s b A n c S X hX hn0 hm
  have FN : Hid (∀ (t : Int) (X : World), S 0 0 ≤ t → t ≤ S (n - 1) 0 → St X A n S → Calls Try.prog 26 #[.agg #[.string s, .int .i64 b, .slice A n c], .int .i64 t] X fun e w' => e = .returned (noV S n t) ∧ Below X.heap.size X w') := fun t X h1 h2 hX => refNominal_any s b A n c S t X hX hR ⟨h1, h2⟩ hn hc
  have FQ : Hid (∀ (t : Int) (X : World), S 0 0 ≤ t → t ≤ S (n - 1) 0 → Calls Try.prog 32 #[noV S n t, .agg #[.int .i64 p1, .int .i64 p2, .int .i64 p3]] X fun e w' => e = .returned (.int .i64 (sqN S n t (P3 p1 p2 p3))) ∧ Below X.heap.size X w') := fun t X h1 h2 =>
    refSquare_any (no S n t 1) (no S n t 2) (no S n t 3) p1 p2 p3 X ⟨(box_facts hR ⟨h1, h2⟩ (c := 1) (by omega)).2.1, (box_facts hR ⟨h1, h2⟩ (c := 2) (by omega)).2.1, (box_facts hR ⟨h1, h2⟩ (c := 3) (by omega)).2.1⟩ hpp
  have HS0 := Lib.hid hS
  have hNT : nT S n = (S (n - 1) 0 - S 0 0 + 1).toNat := rfl
  have HNT := Lib.hid hNT
  have HW := Lib.hid (sq_wrap hmo.1 hmo.2)
  have HNB : Hid (nearB S n (P3 p1 p2 p3) most = fun t => decide (sqN S n t (P3 p1 p2 p3) ≤ most * most)) := rfl
  generalize S (n - 1) 0 = y at *
  generalize S 0 0 = z at *
  obtain ⟨f, hf⟩ : ∃ f : Int → Int, f = fun t => sqN S n t (P3 p1 p2 p3) := ⟨_, rfl⟩
  have FQ : Hid (∀ (t : Int) (X : World), z ≤ t → t ≤ y → Calls Try.prog 32 #[noV S n t, .agg #[.int .i64 p1, .int .i64 p2, .int .i64 p3]] X fun e w' => e = .returned (.int .i64 (f t)) ∧ Below X.heap.size X w') := fun t X h1 h2 => by rw [hf]; exact FQ.out t X h1 h2
  obtain ⟨q, hq⟩ : ∃ q, q = most * most := ⟨_, rfl⟩
  obtain ⟨g, hg⟩ : ∃ g : Int → Bool, g = nearB S n (P3 p1 p2 p3) most := ⟨_, rfl⟩
  have hgf : ∀ t, g t = decide (f t ≤ q) := fun t => by rw [hg, HNB.out, hf, hq]
  have hw2 : IntKind.i64.wrap (most * most) = q := HW.out.trans hq.symm
  rw [← hg, HNT.out]
  have HG := Lib.hid hgf
  have HQ := Lib.hid hw2
  clear hn0 hpp hR hp hn hc hm hS hf hmo hq hg hgf hw2 HW HNB HNT hNT
  go_enter Try.func54, Try.ntmps54
  go_wp2_with fail
  have hA1 : At ((w.alloc (.cells #[.string s, .int .i64 b, .slice A n c] 24)).alloc (.cells #[.int .i64 p1, .int .i64 p2, .int .i64 p3] 42)) (w.heap.size) 24 #[.string s, .int .i64 b, .slice A n c] := ((at_new (by simp)).alloc _)
  have hL1 : At ((w.alloc (.cells #[.string s, .int .i64 b, .slice A n c] 24)).alloc (.cells #[.int .i64 p1, .int .i64 p2, .int .i64 p3] 42)) (w.heap.size + 1) 42 #[.int .i64 p1, .int .i64 p2, .int .i64 p3] := (at_new (by simp))
  have hB1 : Below w.heap.size w ((w.alloc (.cells #[.string s, .int .i64 b, .slice A n c] 24)).alloc (.cells #[.int .i64 p1, .int .i64 p2, .int .i64 p3] 42)) := by
    repeat (first | (with_reducible exact Below.refl _ _) | (with_reducible refine below_new ?_ (by first | omega | (simp; done) | (simp; omega))))
  generalize hW1 : ((w.alloc (.cells #[.string s, .int .i64 b, .slice A n c] 24)).alloc (.cells #[.int .i64 p1, .int .i64 p2, .int .i64 p3] 42)) = w1 at hA1 hL1 hB1 ⊢
  clear hW1
  have HS1 := Lib.hid (HS0.out.below hB1)
  have a0 := hA1.cell 0
  have a1 := hA1.cell 1
  have a2 := hA1.cell 2
  have l0 := hL1.cell 0
  have l1 := hL1.cell 1
  have l2 := hL1.cell 2
  simp at a0 a1 a2 l0 l1 l2
  have HA1 := Lib.hid hA1
  have HL1 := Lib.hid hL1
  have HB1 := Lib.hid hB1
  clear hA1 hL1 hB1
  refine (F4.out _ HS1.out).mono ?_
  rintro e w2 ⟨rfl, hb2⟩
  have hA2 := HA1.out.keep hb2
  have hL2 := HL1.out.keep hb2
  have HB2 := Lib.hid (HB1.out.trans (hb2.mono HB1.out.size))
  have HS2 := Lib.hid (HS1.out.below hb2)
  clear a0 a1 a2 l0 l1 l2 hb2
  have a0 := hA2.cell 0
  have a1 := hA2.cell 1
  have a2 := hA2.cell 2
  have l0 := hL2.cell 0
  have l1 := hL2.cell 1
  have l2 := hL2.cell 2
  simp at a0 a1 a2 l0 l1 l2
  have HA2 := Lib.hid hA2
  have HL2 := Lib.hid hL2
  clear hA2 hL2
  go_wp2_with fail
  go_loopw [7, 8] (fun i7 i8 wr => ∃ (k : Nat) (A' : Option Addr) (c' : Nat), i8 = .int .i64 (z + (k : Int)) ∧ i7 = .slice A' (passK g z k).length c' ∧ k ≤ (y - z + 1).toNat ∧ OwnR wr w.heap.size (.slice A' (passK g z k).length c') (passK g z k) ∧ (passK g z k = [] → Value.slice A' (passK g z k).length c' = .slice none 0 0) ∧ Below w2.heap.size w2 wr) (fun _ i _ => (y + 1 - intOf i).toNat)
  case atStart => exact ⟨0, none, 0, by simp, rfl, Nat.zero_le _, World.ownsRow_nil _ _ _ _, fun _ => rfl, Below.refl _ _⟩
  case round =>
    obtain ⟨k, A', c', rfl, rfl, hk, hown, hnil, hb3⟩ := hrel
    have HOWN := Lib.hid hown
    have HNIL := Lib.hid hnil
    have HWR := Lib.hid hb3
    have HK := Lib.hid hk
    clear hown hnil
    have hA3 := HA2.out.keep hb3
    have hL3 := HL2.out.keep hb3
    have HB3 := Lib.hid (HB2.out.trans (hb3.mono HB2.out.size))
    have HS3 := Lib.hid (HS2.out.below hb3)
    clear a0 a1 a2 l0 l1 l2 hb3
    have a0 := hA3.cell 0
    have a1 := hA3.cell 1
    have a2 := hA3.cell 2
    have l0 := hL3.cell 0
    have l1 := hL3.cell 1
    have l2 := hL3.cell 2
    simp at a0 a1 a2 l0 l1 l2
    have HA3 := Lib.hid hA3
    have HL3 := Lib.hid hL3
    clear hA3 hL3
    go_wp2_with fail
    refine (F5.out _ HS3.out).mono ?_
    rintro e w4 ⟨rfl, hb4⟩
    have HWR4 := Lib.hid (HWR.out.trans (hb4.mono HWR.out.size))
    have HOWN4 := Lib.hid (ownR_below HOWN.out hb4)
    have hA4 := HA3.out.keep hb4
    have hL4 := HL3.out.keep hb4
    have HB4 := Lib.hid (HB3.out.trans (hb4.mono HB3.out.size))
    have HS4 := Lib.hid (HS3.out.below hb4)
    clear a0 a1 a2 l0 l1 l2 hb4
    have a0 := hA4.cell 0
    have a1 := hA4.cell 1
    have a2 := hA4.cell 2
    have l0 := hL4.cell 0
    have l1 := hL4.cell 1
    have l2 := hL4.cell 2
    simp at a0 a1 a2 l0 l1 l2
    have HA4 := Lib.hid hA4
    have HL4 := Lib.hid hL4
    clear hA4 hL4
    by_cases hlt : k < (y - z + 1).toNat
    · have ht1 : z ≤ z + (k : Int) := by omega
      have ht2 : z + (k : Int) ≤ y := by omega
      have C1 := Lib.hid (met (w := w4) (fun X hX => FN.out (z + (k : Int)) X ht1 ht2 (HS4.out.below hX)))
      have C2 := Lib.hid (met (w := w4) (fun X _ => FQ.out (z + (k : Int)) X ht1 ht2))
      generalize hnz : noV S n (z + (k : Int)) = NZ at C1 C2
      clear hnz
      go_wp2_with fail
      have hq := HQ.out
      have k0 := cell_regrown a0
      have k1 := cell_regrown a1
      have k2 := cell_regrown a2
      have k3 := cell_regrown l0
      have k4 := cell_regrown l1
      have k5 := cell_regrown l2
      clear a0 a1 a2 l0 l1 l2
      refine wp_region_quiet_below (by kernel_rfl) (by kernel_rfl) ?_
      repeat (go_big_quiet_step (first | (with_reducible exact C1.out _ _) | (with_reducible exact C2.out _ _)))
      refine wpQuiet_nil ?_
      intro _ hw'
      obtain ⟨⟨dq, osq⟩, hw''⟩ := hw'
      subst hw''
      have hb5 := below_regrown w4 dq osq
      generalize hX : Go.Sort.grow (redrawn w4 dq) osq = w5 at hb5 ⊢
      clear hX k0 k1 k2 k3 k4 k5
      clear hq
      have HWR5 := Lib.hid (HWR4.out.trans (hb5.mono HWR4.out.size))
      have HOWN5 := Lib.hid (ownR_below HOWN4.out hb5)
      have HB5 := Lib.hid (HB4.out.trans (hb5.mono HB4.out.size))
      have w8' : IntKind.i64.wrap (z + (k : Int) + 1) = z + (k : Int) + 1 := IntWalk.i64_in _ (by omega)
      clear C1 C2 hb5
      by_cases hl : f (z + (k : Int)) ≤ q
      · have hp1 := passK_yes (z := z) (k := k) ((HG.out _).trans (decide_eq_true hl))
        have hlen := passK_len g z k
        have HP1 := Lib.hid hp1
        have HLEN := Lib.hid hlen
        clear hp1 hlen
        go_wp2_with fail
        refine (grown_any (.slice A' (passK g z k).length c') (passK g z k) (z + (k : Int)) w.heap.size w5 HOWN5.out HNIL.out (by have := HLEN.out; omega) (by omega)).mono ?_
        rintro e w6 ⟨⟨v', rfl, hown6⟩, hb6⟩
        obtain ⟨A6, c6, rfl⟩ := ownR_slice hown6
        have HOWN6 := Lib.hid (ownR_base hown6 HB5.out.size)
        have HWR6 := Lib.hid (HWR5.out.trans (hb6.mono HWR5.out.size))
        clear hown6 hb6
        go_wp2
        go_roundw
        case rel =>
          refine ⟨k + 1, A6, c6, by first | (rw [w8']; show Value.int .i64 _ = .int .i64 _; congr 1; omega) | (show Value.int .i64 _ = .int .i64 _; congr 1; omega), by rw [HP1.out], by omega, ?_, ?_, HWR6.out⟩
          · rw [HP1.out]; exact HOWN6.out
          · intro h; rw [HP1.out] at h; exact absurd h (gro_ne _ _)
        case measure => simp [intOf]; omega
      · have hp1 := passK_no (z := z) (k := k) ((HG.out _).trans (decide_eq_false hl))
        have HP1 := Lib.hid hp1
        clear hp1
        go_wp2
        go_roundw
        case rel =>
          refine ⟨k + 1, A', c', by first | (rw [w8']; show Value.int .i64 _ = .int .i64 _; congr 1; omega) | (show Value.int .i64 _ = .int .i64 _; congr 1; omega), by rw [HP1.out], by omega, ?_, ?_, HWR5.out⟩
          · rw [HP1.out]; exact HOWN5.out
          · rw [HP1.out]; exact HNIL.out
        case measure => simp [intOf]; omega
    · have hge : ¬ z + (k : Int) ≤ y := by omega
      go_wp2
      go_ret
      obtain rfl : k = (y - z + 1).toNat := by omega
      exact ⟨⟨_, rfl, HOWN4.out⟩, HB4.out⟩
end Go.Proofs.Ytegmjanpeaibcaa
