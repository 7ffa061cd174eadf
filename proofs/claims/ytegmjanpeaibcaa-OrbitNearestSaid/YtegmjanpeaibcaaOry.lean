/- Contract of the reference: the ticks that may be nearest. -/
import Derived.Test.YtegmjanpeaibcaaOrp
import Derived.Test.YtegmjanpeaibcaaOrm
namespace Go.Proofs.Ytegmjanpeaibcaa
open Go.RowKit
set_option maxHeartbeats 3200000
set_option maxRecDepth 100000

/-- what MayBeNearest tells of a right orbit and a place -/
def MB (S : Nat → Nat → Int) (n : Nat) (fL fH : Int → Int) (wt lo hi : Int) : Prop :=
  Least S n fH wt ∧ (lo ≤ wt ∧ wt ≤ hi) ∧ (Has S n lo ∧ Has S n hi) ∧ (lo = wt ∨ fL lo ≤ fH wt) ∧ (hi = wt ∨ fL hi ≤ fH wt) ∧ ∀ u, Has S n u → fL u ≤ fH wt → lo ≤ u ∧ u ≤ hi

theorem refMayBe_any (s : ByteArray) (b : Int) (A : Option Addr) (n c : Nat) (S : Nat → Nat → Int) (p1 p2 p3 : Int) (w : World) (hS : St w A n S) (hR : Right S n b) (hp : pe p1 p2 p3 = 0) (hn : n ≤ c) (hc : c ≤ maxLen) :
    Calls Try.prog 42 #[.agg #[.string s, .int .i64 b, .slice A n c], .agg #[.int .i64 p1, .int .i64 p2, .int .i64 p3]] w fun e w' => (∃ wt l h, MB S n (fun t => sqL S n b t (P3 p1 p2 p3)) (fun t => sqH S n b t (P3 p1 p2 p3)) wt l h ∧ e = .returned (.tuple #[.agg #[.int .i64 l, .int .i64 h], .int .i64 wt])) ∧ Below w.heap.size w w' := by
  have hn0 : 0 < n := by have := hR.1; omega
  have hpp := pe_zero hp
  have hm := Nat.le_trans hn hc
  have a1 := (hR.2.2.2.1 0 hn0).1
  have a2 := (hR.2.2.2.1 (n - 1) (by omega)).1
  have hfl : S 0 0 ≤ S (n - 1) 0 := hR.2.2.2.2.1.le (Nat.zero_le _) (by omega)
  have F4 : Hid (∀ X : World, St X A n S → Calls Try.prog 45 #[.agg #[.string s, .int .i64 b, .slice A n c]] X fun e w' => e = .returned (.int .i64 (S 0 0)) ∧ Below X.heap.size X w') := fun X hX => refFirst_any s b A n c S X hX hn0
  have F5 : Hid (∀ X : World, St X A n S → Calls Try.prog 46 #[.agg #[.string s, .int .i64 b, .slice A n c]] X fun e w' => e = .returned (.int .i64 (S (n - 1) 0)) ∧ Below X.heap.size X w') := fun X hX => refLast_any s b A n c S X hX hn0 hm
  have FN : Hid (∀ (t : Int) (X : World), S 0 0 ≤ t → t ≤ S (n - 1) 0 → St X A n S → Calls Try.prog 27 #[.agg #[.string s, .int .i64 b, .slice A n c], .int .i64 t] X fun e w' => e = .returned (boxV S n b t) ∧ Below X.heap.size X w') := fun t X h1 h2 hX => refBoxAt_any s b A n c S t X hX hR ⟨h1, h2⟩ hn hc
  have FQ : Hid (∀ (t : Int) (X : World), S 0 0 ≤ t → t ≤ S (n - 1) 0 → Calls Try.prog 33 #[boxV S n b t, .agg #[.int .i64 p1, .int .i64 p2, .int .i64 p3]] X fun e w' => e = .returned (.agg #[.int .i64 (sqL S n b t (P3 p1 p2 p3)), .int .i64 (sqH S n b t (P3 p1 p2 p3))]) ∧ Below X.heap.size X w') := fun t X h1 h2 => refSqAt_any hR ⟨h1, h2⟩ hpp X
  have HHS : Hid (∀ t, Go.Proofs.Ytegmjanpeaibcaa.Has S n t ↔ (S 0 0 ≤ t ∧ t ≤ S (n - 1) 0)) := fun t => Iff.rfl
  have HS0 := Lib.hid hS
  generalize S (n - 1) 0 = y at *
  generalize S 0 0 = z at *
  obtain ⟨fL, hfL⟩ : ∃ f : Int → Int, f = fun t => sqL S n b t (P3 p1 p2 p3) := ⟨_, rfl⟩
  obtain ⟨fH, hfH⟩ : ∃ f : Int → Int, f = fun t => sqH S n b t (P3 p1 p2 p3) := ⟨_, rfl⟩
  have FQ : Hid (∀ (t : Int) (X : World), z ≤ t → t ≤ y → Calls Try.prog 33 #[boxV S n b t, .agg #[.int .i64 p1, .int .i64 p2, .int .i64 p3]] X fun e w' => e = .returned (.agg #[.int .i64 (fL t), .int .i64 (fH t)]) ∧ Below X.heap.size X w') := fun t X h1 h2 => by rw [hfL, hfH]; exact FQ.out t X h1 h2
  have HFL := Lib.hid hfL
  have HFH := Lib.hid hfH
  clear hn0 hpp hR hp hn hc hm hS hfL hfH
  go_enter Try.func42, Try.ntmps42
  go_wp2_with fail
  have hA1 : At (((w.alloc (.cells #[.string s, .int .i64 b, .slice A n c] 24)).alloc (.cells #[.int .i64 p1, .int .i64 p2, .int .i64 p3] 42)).alloc (.cells #[.int .i64 0, .int .i64 0] 46)) w.heap.size 24 #[.string s, .int .i64 b, .slice A n c] := ((At.new w _ _).alloc _).alloc _
  have hL1 : At (((w.alloc (.cells #[.string s, .int .i64 b, .slice A n c] 24)).alloc (.cells #[.int .i64 p1, .int .i64 p2, .int .i64 p3] 42)).alloc (.cells #[.int .i64 0, .int .i64 0] 46)) (w.heap.size + 1) 42 #[.int .i64 p1, .int .i64 p2, .int .i64 p3] := (at_new (by simp)).alloc _
  have hR1 : At (((w.alloc (.cells #[.string s, .int .i64 b, .slice A n c] 24)).alloc (.cells #[.int .i64 p1, .int .i64 p2, .int .i64 p3] 42)).alloc (.cells #[.int .i64 0, .int .i64 0] 46)) (w.heap.size + 1 + 1) 46 #[.int .i64 0, .int .i64 0] := at_new (by simp)
  have hB1 : Below w.heap.size w (((w.alloc (.cells #[.string s, .int .i64 b, .slice A n c] 24)).alloc (.cells #[.int .i64 p1, .int .i64 p2, .int .i64 p3] 42)).alloc (.cells #[.int .i64 0, .int .i64 0] 46)) := by
    repeat (first | (with_reducible exact Below.refl _ _) | (with_reducible refine below_new ?_ (by first | omega | (simp; done) | (simp; omega))))
  generalize hW1 : (((w.alloc (.cells #[.string s, .int .i64 b, .slice A n c] 24)).alloc (.cells #[.int .i64 p1, .int .i64 p2, .int .i64 p3] 42)).alloc (.cells #[.int .i64 0, .int .i64 0] 46)) = W1 at hA1 hL1 hR1 hB1 ⊢
  clear hW1
  have HS1 := Lib.hid (HS0.out.below hB1)
  have HB1 := Lib.hid hB1
  clear hB1
  have a0 := hA1.cell 0
  have a1 := hA1.cell 1
  have a2 := hA1.cell 2
  have b0 := hL1.cell 0
  have b1 := hL1.cell 1
  have b2 := hL1.cell 2
  simp at a0 a1 a2 b0 b1 b2
  have HA1 := Lib.hid hA1
  have HL1 := Lib.hid hL1
  have HR1 := Lib.hid hR1
  clear hA1 hL1 hR1
  refine (F4.out _ HS1.out).mono ?_
  rintro e w2 ⟨rfl, hb2⟩
  have hA2 := HA1.out.keep hb2
  have hL2 := HL1.out.keep hb2
  have hR2 := HR1.out.keep hb2
  have HB2 := Lib.hid (HB1.out.trans (hb2.mono HB1.out.size))
  have HS2 := Lib.hid (HS1.out.below hb2)
  clear a0 a1 a2 b0 b1 b2 hb2
  have a0 := hA2.cell 0
  have a1 := hA2.cell 1
  have a2 := hA2.cell 2
  have b0 := hL2.cell 0
  have b1 := hL2.cell 1
  have b2 := hL2.cell 2
  simp at a0 a1 a2 b0 b1 b2
  have HA2 := Lib.hid hA2
  have HL2 := Lib.hid hL2
  have HR2 := Lib.hid hR2
  clear hA2 hL2 hR2
  have C2 := Lib.hid (met (w := w2) (fun X hX => FN.out z X (Int.le_refl _) hfl (HS2.out.below hX)))
  have C3 := Lib.hid (met (w := w2) (fun X _ => FQ.out z X (Int.le_refl _) hfl))
  generalize hnz : boxV S n b z = NZ at C2 C3
  clear hnz
  go_wp2_with fail
  have k0 := cell_regrown a0
  have k1 := cell_regrown a1
  have k2 := cell_regrown a2
  have k3 := cell_regrown b0
  have k4 := cell_regrown b1
  have k5 := cell_regrown b2
  clear a0 a1 a2 b0 b1 b2
  refine wp_region_quiet_below (by kernel_rfl) (by kernel_rfl) ?_
  repeat (go_big_quiet_step (first | (with_reducible exact C2.out _ _) | (with_reducible exact C3.out _ _)))
  refine wpQuiet_nil ?_
  intro _ hw'
  obtain ⟨⟨dq, osq⟩, hw''⟩ := hw'
  subst hw''
  have hb3 := below_regrown w2 dq osq
  generalize hX : Go.Sort.grow (redrawn w2 dq) osq = w3 at hb3 ⊢
  clear hX k0 k1 k2 k3 k4 k5
  have hA3 := HA2.out.keep hb3
  have hL3 := HL2.out.keep hb3
  have hR3 := HR2.out.keep hb3
  have HB3 := Lib.hid (HB2.out.trans (hb3.mono HB2.out.size))
  have HS3 := Lib.hid (HS2.out.below hb3)
  clear hb3
  have a0 := hA3.cell 0
  have a1 := hA3.cell 1
  have a2 := hA3.cell 2
  have b0 := hL3.cell 0
  have b1 := hL3.cell 1
  have b2 := hL3.cell 2
  simp at a0 a1 a2 b0 b1 b2
  have HA3 := Lib.hid hA3
  have HL3 := Lib.hid hL3
  have HR3 := Lib.hid hR3
  clear hA3 hL3 hR3
  clear C2 C3
  go_wp2_with fail
  refine (F4.out _ HS3.out).mono ?_
  rintro e w4 ⟨rfl, hb4⟩
  have hA4 := HA3.out.keep hb4
  have hL4 := HL3.out.keep hb4
  have hR4 := HR3.out.keep hb4
  have HB4 := Lib.hid (HB3.out.trans (hb4.mono HB3.out.size))
  have HS4 := Lib.hid (HS3.out.below hb4)
  clear a0 a1 a2 b0 b1 b2 hb4
  have a0 := hA4.cell 0
  have a1 := hA4.cell 1
  have a2 := hA4.cell 2
  have b0 := hL4.cell 0
  have b1 := hL4.cell 1
  have b2 := hL4.cell 2
  simp at a0 a1 a2 b0 b1 b2
  have HA4 := Lib.hid hA4
  have HL4 := Lib.hid hL4
  have HR4 := Lib.hid hR4
  clear hA4 hL4 hR4
  go_wp2_with fail
  go_loopw [6, 7, 8] (fun i6 i7 i8 wr => ∃ t bt : Int, i8 = .int .i64 t ∧ i6 = .int .i64 bt ∧ i7 = .int .i64 (fH bt) ∧ z ≤ t ∧ t ≤ y + 1 ∧ (z ≤ bt ∧ bt ≤ y) ∧ (∀ u, z ≤ u → u < t → fH bt ≤ fH u) ∧ (∀ u, z ≤ u → u < bt → fH bt < fH u) ∧ (bt ≤ t) ∧ Below w4.heap.size w4 wr) (fun _ _ i _ => (y + 1 - intOf i).toNat)
  case atStart => exact ⟨z, z, rfl, rfl, rfl, Int.le_refl _, by omega, ⟨Int.le_refl _, hfl⟩, fun u h1 h2 => (by omega : False).elim, fun u h1 h2 => (by omega : False).elim, Int.le_refl _, Below.refl _ _⟩
  case round =>
    obtain ⟨t, bt, rfl, rfl, rfl, ht1, ht2, hbt, hmin, hfst, hord, hb5⟩ := hrel
    have HMIN := Lib.hid hmin
    have HFST := Lib.hid hfst
    have HWR := Lib.hid hb5
    clear hmin hfst
    have hA5 := HA4.out.keep hb5
    have hL5 := HL4.out.keep hb5
    have hR5 := HR4.out.keep hb5
    have HB5 := Lib.hid (HB4.out.trans (hb5.mono HB4.out.size))
    have HS5 := Lib.hid (HS4.out.below hb5)
    clear a0 a1 a2 b0 b1 b2 hb5
    have a0 := hA5.cell 0
    have a1 := hA5.cell 1
    have a2 := hA5.cell 2
    have b0 := hL5.cell 0
    have b1 := hL5.cell 1
    have b2 := hL5.cell 2
    simp at a0 a1 a2 b0 b1 b2
    have HA5 := Lib.hid hA5
    have HL5 := Lib.hid hL5
    have HR5 := Lib.hid hR5
    clear hA5 hL5 hR5
    go_wp2_with fail
    refine (F5.out _ HS5.out).mono ?_
    rintro e w6 ⟨rfl, hb6⟩
    have HWR6 := Lib.hid (HWR.out.trans (hb6.mono HWR.out.size))
    have hA6 := HA5.out.keep hb6
    have hL6 := HL5.out.keep hb6
    have hR6 := HR5.out.keep hb6
    have HB6 := Lib.hid (HB5.out.trans (hb6.mono HB5.out.size))
    have HS6 := Lib.hid (HS5.out.below hb6)
    clear a0 a1 a2 b0 b1 b2 hb6
    have a0 := hA6.cell 0
    have a1 := hA6.cell 1
    have a2 := hA6.cell 2
    have b0 := hL6.cell 0
    have b1 := hL6.cell 1
    have b2 := hL6.cell 2
    simp at a0 a1 a2 b0 b1 b2
    have HA6 := Lib.hid hA6
    have HL6 := Lib.hid hL6
    have HR6 := Lib.hid hR6
    clear hA6 hL6 hR6
    by_cases hlt : t ≤ y
    · have C1 := Lib.hid (met (w := w6) (fun X hX => FN.out t X ht1 hlt (HS6.out.below hX)))
      have C2 := Lib.hid (met (w := w6) (fun X _ => FQ.out t X ht1 hlt))
      generalize hnz : boxV S n b t = NZ at C1 C2
      clear hnz
      go_wp2_with fail
      have k0 := cell_regrown a0
      have k1 := cell_regrown a1
      have k2 := cell_regrown a2
      have k3 := cell_regrown b0
      have k4 := cell_regrown b1
      have k5 := cell_regrown b2
      clear a0 a1 a2 b0 b1 b2
      refine wp_region_quiet_below (by kernel_rfl) (by kernel_rfl) ?_
      repeat (go_big_quiet_step (first | (with_reducible exact C1.out _ _) | (with_reducible exact C2.out _ _)))
      refine wpQuiet_nil ?_
      intro _ hw'
      obtain ⟨⟨dq, osq⟩, hw''⟩ := hw'
      subst hw''
      have hb7 := below_regrown w6 dq osq
      generalize hX : Go.Sort.grow (redrawn w6 dq) osq = w7 at hb7 ⊢
      clear hX k0 k1 k2 k3 k4 k5
      have HWR7 := Lib.hid (HWR6.out.trans (hb7.mono HWR6.out.size))
      have w8' : IntKind.i64.wrap (t + 1) = t + 1 := IntWalk.i64_in _ (by omega)
      clear C1 C2 hb7
      by_cases hl : fH t < fH bt
      · have HL := Lib.hid hl
        go_wp2
        go_roundw
        case rel =>
          refine ⟨t + 1, t, by first | rfl | (rw [w8']) | go_num, rfl, rfl, by omega, by omega, ⟨ht1, hlt⟩, fun u h1 h2 => ?_, fun u h1 h2 => ?_, by omega, HWR7.out⟩
          · rcases Int.lt_or_le u t with g | g
            · have := HMIN.out u h1 g
              have := HL.out
              omega
            · obtain rfl : u = t := by omega
              exact Int.le_refl _
          · have := HMIN.out u h1 h2
            have := HL.out
            omega
        case measure => simp [intOf]; omega
      · have HL := Lib.hid hl
        go_wp2
        go_roundw
        case rel =>
          refine ⟨t + 1, bt, by first | rfl | (rw [w8']) | go_num, rfl, rfl, by omega, by omega, hbt, fun u h1 h2 => ?_, HFST.out, by omega, HWR7.out⟩
          rcases Int.lt_or_le u t with g | g
          · exact HMIN.out u h1 g
          · obtain rfl : u = t := by omega
            have := HL.out
            omega
        case measure => simp [intOf]; omega
    · have hleast : Least S n fH bt := ⟨(HHS.out bt).2 hbt, fun u hu => HMIN.out u ((HHS.out u).1 hu).1 (by have := ((HHS.out u).1 hu).2; omega), fun u hu h => HFST.out u ((HHS.out u).1 hu).1 h⟩
      have HLE := Lib.hid hleast
      clear hleast HMIN HFST HWR HWR6
      have hG := At.new w6 46 #[.int .i64 bt, .int .i64 bt]
      have hbn := below_new (Below.refl _ w6) (Nat.le_refl _) (o := .cells #[.int .i64 bt, .int .i64 bt] 46)
      have hsz : w.heap.size + 1 + 1 < w6.heap.size := HR6.out.lt
      have hsz0 : w.heap.size < w6.heap.size := by omega
      have hsz1 : w.heap.size + 1 < w6.heap.size := by omega
      go_wp2_with fail
      generalize hW7 : w6.alloc (.cells #[.int .i64 bt, .int .i64 bt] 46) = w7 at hG hbn ⊢
      clear hW7
      have hb7 := hbn
      have hA7 := HA6.out.keep hb7
      have hL7 := HL6.out.keep hb7
      have hR7 := HR6.out.keep hb7
      have HB7 := Lib.hid (HB6.out.trans (hb7.mono HB6.out.size))
      have HS7 := Lib.hid (HS6.out.below hb7)
      clear a0 a1 a2 b0 b1 b2 hb7
      have a0 := hA7.cell 0
      have a1 := hA7.cell 1
      have a2 := hA7.cell 2
      have b0 := hL7.cell 0
      have b1 := hL7.cell 1
      have b2 := hL7.cell 2
      simp at a0 a1 a2 b0 b1 b2
      have HA7 := Lib.hid hA7
      have HL7 := Lib.hid hL7
      have HR7 := Lib.hid hR7
      clear hA7 hL7 hR7
      refine (F4.out _ HS7.out).mono ?_
      rintro e w8 ⟨rfl, hb8⟩
      have HG8 := Lib.hid (hG.keep hb8)
      clear hG hbn
      have hA8 := HA7.out.keep hb8
      have hL8 := HL7.out.keep hb8
      have hR8 := HR7.out.keep hb8
      have HB8 := Lib.hid (HB7.out.trans (hb8.mono HB7.out.size))
      have HS8 := Lib.hid (HS7.out.below hb8)
      clear a0 a1 a2 b0 b1 b2 hb8
      have a0 := hA8.cell 0
      have a1 := hA8.cell 1
      have a2 := hA8.cell 2
      have b0 := hL8.cell 0
      have b1 := hL8.cell 1
      have b2 := hL8.cell 2
      simp at a0 a1 a2 b0 b1 b2
      have HA8 := Lib.hid hA8
      have HL8 := Lib.hid hL8
      have HR8 := Lib.hid hR8
      clear hA8 hL8 hR8
      go_wp2_with fail
      go_loopw [11] (fun i wr => ∃ t lo hi : Int, i = .int .i64 t ∧ z ≤ t ∧ t ≤ y + 1 ∧ (lo ≤ bt ∧ bt ≤ hi) ∧ (z ≤ lo ∧ hi ≤ y) ∧ (lo = bt ∨ fL lo ≤ fH bt) ∧ (hi = bt ∨ fL hi ≤ fH bt) ∧ (∀ u, z ≤ u → u < t → fL u ≤ fH bt → lo ≤ u ∧ u ≤ hi) ∧ At wr w6.heap.size 46 #[.int .i64 lo, .int .i64 hi] ∧ Below w6.heap.size w8 wr) (fun i _ => (y + 1 - intOf i).toNat)
      case atStart => exact ⟨z, bt, bt, rfl, Int.le_refl _, by omega, ⟨Int.le_refl _, Int.le_refl _⟩, hbt, .inl rfl, .inl rfl, fun u h1 h2 => (by omega : False).elim, HG8.out, Below.refl _ _⟩
      case round =>
        obtain ⟨t, lo, hi, rfl, ht1, ht2, hlh, hzy, hcl, hch, hall, hg, hwr⟩ := hrel
        have hA9 : At wr w.heap.size 24 #[.string s, .int .i64 b, .slice A n c] := (hwr.block _ (by omega)).trans HA8.out
        have hL9 : At wr (w.heap.size + 1) 42 #[.int .i64 p1, .int .i64 p2, .int .i64 p3] := (hwr.block _ (by omega)).trans HL8.out
        have hR9 : At wr (w.heap.size + 1 + 1) 46 #[.int .i64 0, .int .i64 0] := (hwr.block _ (by omega)).trans HR8.out
        have HB9 := Lib.hid (HB8.out.trans (hwr.mono (by omega)))
        have HS9 := Lib.hid (HS0.out.below HB9.out)
        have HALL := Lib.hid hall
        have HG9 := Lib.hid hg
        have HWR9 := Lib.hid hwr
        have hzg : w6.heap.size < wr.heap.size := hg.lt
        clear hall hg hwr a0 a1 a2 b0 b1 b2
        have a0 := hA9.cell 0
        have a1 := hA9.cell 1
        have a2 := hA9.cell 2
        have b0 := hL9.cell 0
        have b1 := hL9.cell 1
        have b2 := hL9.cell 2
        simp at a0 a1 a2 b0 b1 b2
        have HA9 := Lib.hid hA9
        have HL9 := Lib.hid hL9
        have HR9 := Lib.hid hR9
        clear hA9 hL9 hR9
        go_wp2_with fail
        refine (F5.out _ HS9.out).mono ?_
        rintro e w10 ⟨rfl, hb10⟩
        have HG10 := Lib.hid (HG9.out.keep hb10)
        have HWR10 := Lib.hid (HWR9.out.trans (hb10.mono (Nat.le_of_lt hzg)))
        have hzg2 : w6.heap.size < w10.heap.size := HG10.out.lt
        have hA10 := HA9.out.keep hb10
        have hL10 := HL9.out.keep hb10
        have hR10 := HR9.out.keep hb10
        have HB10 := Lib.hid (HB9.out.trans (hb10.mono HB9.out.size))
        have HS10 := Lib.hid (HS9.out.below hb10)
        clear a0 a1 a2 b0 b1 b2 hb10
        have a0 := hA10.cell 0
        have a1 := hA10.cell 1
        have a2 := hA10.cell 2
        have b0 := hL10.cell 0
        have b1 := hL10.cell 1
        have b2 := hL10.cell 2
        simp at a0 a1 a2 b0 b1 b2
        have HA10 := Lib.hid hA10
        have HL10 := Lib.hid hL10
        have HR10 := Lib.hid hR10
        clear hA10 hL10 hR10
        by_cases hlt2 : t ≤ y
        · have C1 := Lib.hid (met (w := w10) (fun X hX => FN.out t X ht1 hlt2 (HS10.out.below hX)))
          have C2 := Lib.hid (met (w := w10) (fun X _ => FQ.out t X ht1 hlt2))
          generalize hnz : boxV S n b t = NZ at C1 C2
          clear hnz
          go_wp2_with fail
          have k0 := cell_regrown a0
          have k1 := cell_regrown a1
          have k2 := cell_regrown a2
          have k3 := cell_regrown b0
          have k4 := cell_regrown b1
          have k5 := cell_regrown b2
          clear a0 a1 a2 b0 b1 b2
          refine wp_region_quiet_below (by kernel_rfl) (by kernel_rfl) ?_
          repeat (go_big_quiet_step (first | (with_reducible exact C1.out _ _) | (with_reducible exact C2.out _ _)))
          refine wpQuiet_nil ?_
          intro _ hw'
          obtain ⟨⟨dq, osq⟩, hw''⟩ := hw'
          subst hw''
          have hb11 := below_regrown w10 dq osq
          generalize hX : Go.Sort.grow (redrawn w10 dq) osq = w11 at hb11 ⊢
          clear hX k0 k1 k2 k3 k4 k5
          have HG11 := Lib.hid (HG10.out.keep hb11)
          have HWR11 := Lib.hid (HWR10.out.trans (hb11.mono (Nat.le_of_lt hzg2)))
          have w8' : IntKind.i64.wrap (t + 1) = t + 1 := IntWalk.i64_in _ (by omega)
          clear C1 C2 hb11
          by_cases hl : fL t ≤ fH bt
          · have HL := Lib.hid hl
            have e0 := HG11.out.cell 0
            have e1 := HG11.out.cell 1
            simp at e0 e1
            have g0 := HG11.out.free 0
            have g1 := HG11.out.free 1
            have x1 : (if t < lo then t else lo) = min lo t := by rw [Int.min_def]; split <;> split <;> omega
            have x2 : (if hi < t then t else hi) = max hi t := by rw [Int.max_def]; split <;> split <;> omega
            go_wp2
            go_roundw
            case rel =>
              refine ⟨t + 1, min lo t, max hi t, by first | rfl | (rw [w8']) | go_num, by omega, by omega, by omega, by omega, ?_, ?_, ?_, ?_, ?_⟩
              · rcases Int.le_total lo t with g | g
                · rw [Int.min_eq_left g]; exact hcl
                · rw [Int.min_eq_right g]; exact .inr HL.out
              · rcases Int.le_total hi t with g | g
                · rw [Int.max_eq_right g]; exact .inr HL.out
                · rw [Int.max_eq_left g]; exact hch
              · intro u h1 h2 h3
                rcases Int.lt_or_le u t with g | g
                · have := HALL.out u h1 g h3
                  omega
                · omega
              · first | exact (HG11.out.put 0 _).put 1 _ | (rw [← x1, ← x2]; exact (HG11.out.put 0 _).put 1 _)
              · exact below_set (below_set HWR11.out (by simp)) (by simp)
            case measure => simp [intOf]; omega
          · have HL := Lib.hid hl
            go_wp2
            go_roundw
            case rel =>
              refine ⟨t + 1, lo, hi, by first | rfl | (rw [w8']) | go_num, by omega, by omega, hlh, hzy, hcl, hch, ?_, HG11.out, HWR11.out⟩
              intro u h1 h2 h3
              rcases Int.lt_or_le u t with g | g
              · exact HALL.out u h1 g h3
              · obtain rfl : u = t := by omega
                exact absurd h3 HL.out
            case measure => simp [intOf]; omega
        · have e0 := HG10.out.cell 0
          have e1 := HG10.out.cell 1
          have r0 := HR10.out.cell 0
          have r1 := HR10.out.cell 1
          simp at e0 e1 r0 r1
          have g0 := HR10.out.free 0
          have g1 := HR10.out.free 1
          go_wp2
          refine bodyPost_ret (v := .tuple #[.agg #[.int .i64 lo, .int .i64 hi], .int .i64 bt]) ?h1 rfl ⟨⟨bt, lo, hi, ?_, rfl⟩, ?_⟩
          case h1 => simp [results, Try.results42, go_sem, *]
          · rw [← HFL.out, ← HFH.out]
            exact ⟨HLE.out, hlh, ⟨(HHS.out lo).2 ⟨hzy.1, by omega⟩, (HHS.out hi).2 ⟨by omega, hzy.2⟩⟩, hcl, hch, fun u hu h => HALL.out u ((HHS.out u).1 hu).1 (by have := ((HHS.out u).1 hu).2; omega) h⟩
          · have hbf := HB10.out
            repeat (first | (with_reducible exact hbf) | (with_reducible refine Below.drew ?_) | (with_reducible refine below_set ?_ (by omega)))
end Go.Proofs.Ytegmjanpeaibcaa
