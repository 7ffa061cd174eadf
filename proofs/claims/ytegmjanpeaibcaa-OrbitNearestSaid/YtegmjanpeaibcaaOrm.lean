/- Contract of the reference: the nearest tick. -/
import Derived.Test.YtegmjanpeaibcaaOsr
import Derived.Test.YtegmjanpeaibcaaOlf
import Derived.Test.YtegmjanpeaibcaaOrf
import Derived.BigQuiet
namespace Go.Proofs.Ytegmjanpeaibcaa
open Go.RowKit
set_option maxHeartbeats 1600000
set_option maxRecDepth 100000

theorem refNearest_any (s : ByteArray) (b : Int) (A : Option Addr) (n c : Nat) (S : Nat → Nat → Int) (p1 p2 p3 : Int) (w : World) (hS : St w A n S) (hR : Right S n b) (hp : pe p1 p2 p3 = 0) (hn : n ≤ c) (hc : c ≤ maxLen) :
    Calls Try.prog 41 #[.agg #[.string s, .int .i64 b, .slice A n c], .agg #[.int .i64 p1, .int .i64 p2, .int .i64 p3]] w fun e w' => (∃ t, Least S n (fun t => sqN S n t (P3 p1 p2 p3)) t ∧ e = .returned (.tuple #[.int .i64 t, .int .i64 (sqN S n t (P3 p1 p2 p3))])) ∧ Below w.heap.size w w' := by
  have hn0 : 0 < n := by have := hR.1; omega
  have hpp := pe_zero hp
  have hm := Nat.le_trans hn hc
  have a1 := (hR.2.2.2.1 0 hn0).1
  have a2 := (hR.2.2.2.1 (n - 1) (by omega)).1
  have hfl : S 0 0 ≤ S (n - 1) 0 := hR.2.2.2.2.1.le (Nat.zero_le _) (by omega)
  have F4 : Hid (∀ X : World, St X A n S → Calls Try.prog 45 #[.agg #[.string s, .int .i64 b, .slice A n c]] X fun e w' => e = .returned (.int .i64 (S 0 0)) ∧ Below X.heap.size X w') := fun X hX => refFirst_any s b A n c S X hX hn0
  have F5 : Hid (∀ X : World, St X A n S → Calls Try.prog 46 #[.agg #[.string s, .int .i64 b, .slice A n c]] X fun e w' => e = .returned (.int .i64 (S (n - 1) 0)) ∧ Below X.heap.size X w') := fun X hX => refLast_any s b A n c S X hX hn0 hm
  have FN : Hid (∀ (t : Int) (X : World), S 0 0 ≤ t → t ≤ S (n - 1) 0 → St X A n S → Calls Try.prog 26 #[.agg #[.string s, .int .i64 b, .slice A n c], .int .i64 t] X fun e w' => e = .returned (noV S n t) ∧ Below X.heap.size X w') := fun t X h1 h2 hX => refNominal_any s b A n c S t X hX hR ⟨h1, h2⟩ hn hc
  have FQ : Hid (∀ (t : Int) (X : World), S 0 0 ≤ t → t ≤ S (n - 1) 0 → Calls Try.prog 32 #[noV S n t, .agg #[.int .i64 p1, .int .i64 p2, .int .i64 p3]] X fun e w' => e = .returned (.int .i64 (sqN S n t (P3 p1 p2 p3))) ∧ Below X.heap.size X w') := fun t X h1 h2 =>
    refSquare_any (no S n t 1) (no S n t 2) (no S n t 3) p1 p2 p3 X ⟨(box_facts hR ⟨h1, h2⟩ (c := 1) (by omega)).2.1, (box_facts hR ⟨h1, h2⟩ (c := 2) (by omega)).2.1, (box_facts hR ⟨h1, h2⟩ (c := 3) (by omega)).2.1⟩ hpp
  have HHS : Hid (∀ t, Go.Proofs.Ytegmjanpeaibcaa.Has S n t ↔ (S 0 0 ≤ t ∧ t ≤ S (n - 1) 0)) := fun t => Iff.rfl
  have HS0 := Lib.hid hS
  generalize S (n - 1) 0 = y at *
  generalize S 0 0 = z at *
  obtain ⟨f, hf⟩ : ∃ f : Int → Int, f = fun t => sqN S n t (P3 p1 p2 p3) := ⟨_, rfl⟩
  have hfq : ∀ t, sqN S n t (P3 p1 p2 p3) = f t := fun t => by rw [hf]
  have FQ : Hid (∀ (t : Int) (X : World), z ≤ t → t ≤ y → Calls Try.prog 32 #[noV S n t, .agg #[.int .i64 p1, .int .i64 p2, .int .i64 p3]] X fun e w' => e = .returned (.int .i64 (f t)) ∧ Below X.heap.size X w') := fun t X h1 h2 => by rw [hf]; exact FQ.out t X h1 h2
  have HF := Lib.hid hf
  clear hn0 hpp hR hp hn hc hm hS hf hfq
  go_enter Try.func41, Try.ntmps41
  go_wp2_with fail
  have hA1 : At ((w.alloc (.cells #[.string s, .int .i64 b, .slice A n c] 24)).alloc (.cells #[.int .i64 p1, .int .i64 p2, .int .i64 p3] 42)) w.heap.size 24 #[.string s, .int .i64 b, .slice A n c] := (At.new w _ _).alloc _
  have hL1 : At ((w.alloc (.cells #[.string s, .int .i64 b, .slice A n c] 24)).alloc (.cells #[.int .i64 p1, .int .i64 p2, .int .i64 p3] 42)) (w.heap.size + 1) 42 #[.int .i64 p1, .int .i64 p2, .int .i64 p3] := at_new (by simp)
  have hB1 : Below w.heap.size w ((w.alloc (.cells #[.string s, .int .i64 b, .slice A n c] 24)).alloc (.cells #[.int .i64 p1, .int .i64 p2, .int .i64 p3] 42)) := below_new (below_new (Below.refl _ w) (Nat.le_refl _)) (by simp)
  generalize hW1 : ((w.alloc (.cells #[.string s, .int .i64 b, .slice A n c] 24)).alloc (.cells #[.int .i64 p1, .int .i64 p2, .int .i64 p3] 42)) = W1 at hA1 hL1 hB1 ⊢
  clear hW1
  have HS1 := Lib.hid (HS0.out.below hB1)
  have HB1 := Lib.hid hB1
  clear hB1
  have a0 := hA1.cell 0
  have a1 := hA1.cell 1
  have a2 := hA1.cell 2
  have b0 := hL1.cell 0
  have b1 := hL1.cell 1
  have b2 := hL1.cell 2
  simp at a0 a1 a2 b0 b1 b2
  have HA1 := Lib.hid hA1
  have HL1 := Lib.hid hL1
  clear hA1 hL1
  have C1 := Lib.hid (met (w := W1) (fun X hX => F4.out X (HS1.out.below hX)))
  have C2 := Lib.hid (met (w := W1) (fun X hX => FN.out z X (Int.le_refl _) hfl (HS1.out.below hX)))
  have C3 := Lib.hid (met (w := W1) (fun X _ => FQ.out z X (Int.le_refl _) hfl))
  generalize hnz : noV S n z = NZ at C2 C3
  clear hnz
  have k0 := cell_regrown a0
  have k1 := cell_regrown a1
  have k2 := cell_regrown a2
  have k3 := cell_regrown b0
  have k4 := cell_regrown b1
  have k5 := cell_regrown b2
  clear a0 a1 a2 b0 b1 b2
  refine wp_region_quiet_below (by kernel_rfl) (by kernel_rfl) ?_
  repeat (go_big_quiet_step (first | (with_reducible exact C1.out _ _) | (with_reducible exact C2.out _ _) | (with_reducible exact C3.out _ _)))
  refine wpQuiet_nil ?_
  intro _ hw'
  obtain ⟨⟨dq, osq⟩, hw''⟩ := hw'
  subst hw''
  have hb2 := below_regrown W1 dq osq
  generalize hX : Go.Sort.grow (redrawn W1 dq) osq = w2 at hb2 ⊢
  clear hX k0 k1 k2 k3 k4 k5
  have hA2 := HA1.out.keep hb2
  have hL2 := HL1.out.keep hb2
  have HB2 := Lib.hid (HB1.out.trans (hb2.mono HB1.out.size))
  have HS2 := Lib.hid (HS1.out.below hb2)
  clear hb2
  have a0 := hA2.cell 0
  have a1 := hA2.cell 1
  have a2 := hA2.cell 2
  have b0 := hL2.cell 0
  have b1 := hL2.cell 1
  have b2 := hL2.cell 2
  simp at a0 a1 a2 b0 b1 b2
  have HA2 := Lib.hid hA2
  have HL2 := Lib.hid hL2
  clear hA2 hL2
  clear C1 C2 C3
  go_wp2_with fail
  refine (F4.out _ HS2.out).mono ?_
  rintro e w3 ⟨rfl, hb3⟩
  have hA3 := HA2.out.keep hb3
  have hL3 := HL2.out.keep hb3
  have HB3 := Lib.hid (HB2.out.trans (hb3.mono HB2.out.size))
  have HS3 := Lib.hid (HS2.out.below hb3)
  clear a0 a1 a2 b0 b1 b2 hb3
  have a0 := hA3.cell 0
  have a1 := hA3.cell 1
  have a2 := hA3.cell 2
  have b0 := hL3.cell 0
  have b1 := hL3.cell 1
  have b2 := hL3.cell 2
  simp at a0 a1 a2 b0 b1 b2
  have HA3 := Lib.hid hA3
  have HL3 := Lib.hid hL3
  clear hA3 hL3
  go_wp2_with fail
  go_loopw [6, 7, 8] (fun i6 i7 i8 wr => ∃ t bt : Int, i8 = .int .i64 t ∧ i6 = .int .i64 bt ∧ i7 = .int .i64 (f bt) ∧ z ≤ t ∧ t ≤ y + 1 ∧ (z ≤ bt ∧ bt ≤ y) ∧ (∀ u, z ≤ u → u < t → f bt ≤ f u) ∧ (∀ u, z ≤ u → u < bt → f bt < f u) ∧ (bt ≤ t) ∧ Below w3.heap.size w3 wr) (fun _ _ i _ => (y + 1 - intOf i).toNat)
  case atStart => exact ⟨z, z, rfl, rfl, rfl, Int.le_refl _, by omega, ⟨Int.le_refl _, hfl⟩, fun u h1 h2 => (by omega : False).elim, fun u h1 h2 => (by omega : False).elim, Int.le_refl _, Below.refl _ _⟩
  case round =>
    obtain ⟨t, bt, rfl, rfl, rfl, ht1, ht2, hbt, hmin, hfst, hord, hb4⟩ := hrel
    have HMIN := Lib.hid hmin
    have HFST := Lib.hid hfst
    have HWR := Lib.hid hb4
    clear hmin hfst
    have hA4 := HA3.out.keep hb4
    have hL4 := HL3.out.keep hb4
    have HB4 := Lib.hid (HB3.out.trans (hb4.mono HB3.out.size))
    have HS4 := Lib.hid (HS3.out.below hb4)
    clear a0 a1 a2 b0 b1 b2 hb4
    have a0 := hA4.cell 0
    have a1 := hA4.cell 1
    have a2 := hA4.cell 2
    have b0 := hL4.cell 0
    have b1 := hL4.cell 1
    have b2 := hL4.cell 2
    simp at a0 a1 a2 b0 b1 b2
    have HA4 := Lib.hid hA4
    have HL4 := Lib.hid hL4
    clear hA4 hL4
    go_wp2_with fail
    refine (F5.out _ HS4.out).mono ?_
    rintro e w5 ⟨rfl, hb5⟩
    have HWR5 := Lib.hid (HWR.out.trans (hb5.mono HWR.out.size))
    have hA5 := HA4.out.keep hb5
    have hL5 := HL4.out.keep hb5
    have HB5 := Lib.hid (HB4.out.trans (hb5.mono HB4.out.size))
    have HS5 := Lib.hid (HS4.out.below hb5)
    clear a0 a1 a2 b0 b1 b2 hb5
    have a0 := hA5.cell 0
    have a1 := hA5.cell 1
    have a2 := hA5.cell 2
    have b0 := hL5.cell 0
    have b1 := hL5.cell 1
    have b2 := hL5.cell 2
    simp at a0 a1 a2 b0 b1 b2
    have HA5 := Lib.hid hA5
    have HL5 := Lib.hid hL5
    clear hA5 hL5
    by_cases hlt : t ≤ y
    · have C1 := Lib.hid (met (w := w5) (fun X hX => FN.out t X ht1 hlt (HS5.out.below hX)))
      have C2 := Lib.hid (met (w := w5) (fun X _ => FQ.out t X ht1 hlt))
      generalize hnz : noV S n t = NZ at C1 C2
      clear hnz
      go_wp2_with fail
      have k0 := cell_regrown a0
      have k1 := cell_regrown a1
      have k2 := cell_regrown a2
      have k3 := cell_regrown b0
      have k4 := cell_regrown b1
      have k5 := cell_regrown b2
      clear a0 a1 a2 b0 b1 b2
      refine wp_region_quiet_below (by kernel_rfl) (by kernel_rfl) ?_
      repeat (go_big_quiet_step (first | (with_reducible exact C1.out _ _) | (with_reducible exact C2.out _ _)))
      refine wpQuiet_nil ?_
      intro _ hw'
      obtain ⟨⟨dq, osq⟩, hw''⟩ := hw'
      subst hw''
      have hb6 := below_regrown w5 dq osq
      generalize hX : Go.Sort.grow (redrawn w5 dq) osq = w6 at hb6 ⊢
      clear hX k0 k1 k2 k3 k4 k5
      have HWR6 := Lib.hid (HWR5.out.trans (hb6.mono HWR5.out.size))
      have w8' : IntKind.i64.wrap (t + 1) = t + 1 := IntWalk.i64_in _ (by omega)
      clear C1 C2 hb6
      by_cases hl : f t < f bt
      · have HL := Lib.hid hl
        go_wp2
        go_roundw
        case rel =>
          refine ⟨t + 1, t, by first | rfl | (rw [w8']) | go_num, rfl, rfl, by omega, by omega, ⟨ht1, hlt⟩, fun u h1 h2 => ?_, fun u h1 h2 => ?_, by omega, HWR6.out⟩
          · rcases Int.lt_or_le u t with g | g
            · have := HMIN.out u h1 g
              have := HL.out
              omega
            · obtain rfl : u = t := by omega
              exact Int.le_refl _
          · have := HMIN.out u h1 h2
            have := HL.out
            omega
        case measure => simp [intOf]; omega
      · have HL := Lib.hid hl
        go_wp2
        go_roundw
        case rel =>
          refine ⟨t + 1, bt, by first | rfl | (rw [w8']) | go_num, rfl, rfl, by omega, by omega, hbt, fun u h1 h2 => ?_, HFST.out, by omega, HWR6.out⟩
          rcases Int.lt_or_le u t with g | g
          · exact HMIN.out u h1 g
          · obtain rfl : u = t := by omega
            have := HL.out
            omega
        case measure => simp [intOf]; omega
    · go_wp2
      go_ret2
      refine ⟨⟨bt, ?_, ?_⟩, HB5.out⟩
      · rw [← HF.out]
        exact ⟨(HHS.out bt).2 hbt, fun u hu => HMIN.out u ((HHS.out u).1 hu).1 (by have := ((HHS.out u).1 hu).2; omega), fun u hu h => HFST.out u ((HHS.out u).1 hu).1 h⟩
      · rw [HF.out]
        rfl
end Go.Proofs.Ytegmjanpeaibcaa
