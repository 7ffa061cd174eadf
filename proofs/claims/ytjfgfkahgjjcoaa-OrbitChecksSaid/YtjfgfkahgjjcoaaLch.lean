/- The law: CheckOrbit and SpeedOf return what is specified, or the errors. -/
import Derived.Test.YtjfgfkahgjjcoaaOss
import Derived.Test.YtjfgfkahgjjcoaaOef
import Derived.Test.YtjfgfkahgjjcoaaOin
import Derived.Test.YtjfgfkahgjjcoaaOaw
import Derived.Test.YtjfgfkahgjjcoaaOcp
import Derived.BigQuiet
namespace Go.Proofs.Ytjfgfkahgjjcoaa
open Go.RowKit
set_option maxHeartbeats 1600000
set_option maxRecDepth 100000

theorem spR_form (nm : Bool) (b : Int) (n : Nat) (S : Nat → Nat → Int) (a : Int) : ∃ m1 m2 m3 m4 m5 m6 y : Int, spR nm b n S a = .tuple #[.agg #[.int .i64 m1, .int .i64 m2, .int .i64 m3, .int .i64 m4, .int .i64 m5, .int .i64 m6], .int .i64 y] := by
  unfold spR
  split
  · exact ⟨_, _, _, _, _, _, _, rfl⟩
  · exact ⟨_, _, _, _, _, _, _, rfl⟩
theorem spR_bad {nm : Bool} {b : Int} {n : Nat} {S : Nat → Nat → Int} {a e m1 m2 m3 m4 m5 m6 y : Int} (h : spR nm b n S a = .tuple #[.agg #[.int .i64 m1, .int .i64 m2, .int .i64 m3, .int .i64 m4, .int .i64 m5, .int .i64 m6], .int .i64 y])
    (he : eV nm b n S a = e) (h0 : e ≠ 0) : (m1 = 0 ∧ m2 = 0 ∧ m3 = 0 ∧ m4 = 0 ∧ m5 = 0 ∧ m6 = 0) ∧ y = e := by
  subst he
  unfold spR at h
  rw [if_neg h0] at h
  simp at h
  obtain ⟨⟨h1, h2, h3, h4, h5, h6⟩, h7⟩ := h
  exact ⟨⟨h1.symm, h2.symm, h3.symm, h4.symm, h5.symm, h6.symm⟩, h7.symm⟩
theorem spR_good {nm : Bool} {b : Int} {n : Nat} {S : Nat → Nat → Int} {a m1 m2 m3 m4 m5 m6 y : Int} (h : spR nm b n S a = .tuple #[.agg #[.int .i64 m1, .int .i64 m2, .int .i64 m3, .int .i64 m4, .int .i64 m5, .int .i64 m6], .int .i64 y])
    (he : eV nm b n S a = 0) : spV S a.toNat = .agg #[.int .i64 m1, .int .i64 m2, .int .i64 m3, .int .i64 m4, .int .i64 m5, .int .i64 m6] ∧ y = 0 := by
  unfold spR at h
  rw [if_pos he] at h
  simp at h
  exact ⟨h.1, h.2.symm⟩
theorem eV_orb {nm : Bool} {b : Int} {n : Nat} {S : Nat → Nat → Int} {a : Int} (h : (oce nm b n S).2 ≠ 0) : eV nm b n S a = (oce nm b n S).2 := by
  unfold eV
  rw [fe_two, if_neg h]
theorem eV_arc {nm : Bool} {b : Int} {n : Nat} {S : Nat → Nat → Int} {a : Int} (h : (oce nm b n S).2 = 0) (hi : inB a 0 ((n : Int) - 2) = false) : eV nm b n S a = 6 := by
  unfold eV
  rw [fe_two, if_pos h, hi]
  rfl
theorem eV_ok {nm : Bool} {b : Int} {n : Nat} {S : Nat → Nat → Int} {a : Int} (h : (oce nm b n S).2 = 0) (hi : inB a 0 ((n : Int) - 2) = true) : eV nm b n S a = 0 := by
  unfold eV
  rw [fe_two, if_pos h, hi]
  rfl

theorem checks_all {w : World} {s : ByteArray} {b : Int} {A : Option Addr} {n c : Nat} {S : Nat → Nat → Int} {a : Int} (h : OrbIn w s b A n c S) (_ha : I64 a) :
    Calls Try.prog 3 #[.agg #[.string s, .int .i64 b, .slice A n c], .int .i64 a] w fun e w' => e = .returned (.bool true) ∧ Below w.heap.size w w' := by
  obtain ⟨hs, hn, hc, _, hS, _, hA0⟩ := h
  have H1 := Lib.hid hs
  have HN := Lib.hid hn
  have HC := Lib.hid hc
  have HA0 := Lib.hid hA0
  have HS := Lib.hid hS
  have hm := Nat.le_trans hn hc
  have u5 : IntKind.i64.wrap ((n : Int) - 2) = (n : Int) - 2 := IntWalk.i64_in _ (by unfold maxLen at hm; omega)
  clear hs hn hc hS hA0 hm
  go_enter Try.func3, Try.ntmps3
  go_wp2_with fail
  have hA0 := At.new w 24 #[.string s, .int .i64 b, .slice A n c]
  have hb0 : Below w.heap.size w (w.alloc (.cells #[.string s, .int .i64 b, .slice A n c] 24)) := below_new (Below.refl _ w) (Nat.le_refl _)
  refine (awake_ok _).mono ?_
  rintro e w1 ⟨rfl, hb1⟩
  have hA1 := hA0.keep hb1
  have hB1 := below_two hb0 hb1
  have a0 := hA1.cell 0
  have a1 := hA1.cell 1
  have a2 := hA1.cell 2
  simp at a0 a1 a2
  have HA1 := Lib.hid hA1
  have HB1 := Lib.hid hB1
  clear hA0 hb0 hb1 hA1 hB1
  go_wp2_with fail
  refine (few_any s b A n c w1).mono ?_
  rintro e w2 ⟨rfl, hb2⟩
  have hA2 := HA1.out.keep hb2
  have HB2 := Lib.hid (HB1.out.trans (hb2.mono HB1.out.size))
  have HA2 := Lib.hid hA2
  clear a0 a1 a2 hb2
  have a0 := hA2.cell 0
  have a1 := hA2.cell 1
  have a2 := hA2.cell 2
  simp at a0 a1 a2
  clear hA2
  by_cases hf : fewB s n = true
  · have HF := Lib.hid hf
    clear hf
    rw [HF.out]
    go_wp2_with fail
    refine (copy_any s b A n c S w2 (HS.out.below HB2.out) (by have := few_size HF.out; omega) HA0.out).mono ?_
    rintro e w3 ⟨A3, c3, rfl, hst3, hn3, hc3, _, _, hb3⟩
    go_wp2_with fail
    refine (checkOrbit_any s b A3 n c3 S w3 hst3 H1.out hn3 hc3).mono ?_
    rintro e w4 ⟨rfl, hb4⟩
    have hb24 := below_two hb3 hb4
    have hA4 := HA2.out.keep hb24
    have HB4 := Lib.hid (HB2.out.trans (hb24.mono HB2.out.size))
    have HA4 := Lib.hid hA4
    clear a0 a1 a2 hb3 hb4 hb24 hst3 hn3 hc3
    have a0 := hA4.cell 0
    have a1 := hA4.cell 1
    have a2 := hA4.cell 2
    simp at a0 a1 a2
    clear hA4
    go_wp2_with fail
    refine (copy_any s b A n c S w4 (HS.out.below HB4.out) (by have := few_size HF.out; omega) HA0.out).mono ?_
    rintro e w5 ⟨A5, c5, rfl, hst5, hn5, hc5, _, _, hb5⟩
    obtain ⟨m1, m2, m3, m4, m5, m6, y, hsp⟩ := spR_form (nmB s) b n S a
    have HSP := Lib.hid hsp
    clear hsp
    go_wp2_with fail
    refine (speedOf_any s b A5 n c5 S a w5 hst5 H1.out hn5 hc5).mono ?_
    rw [HSP.out]
    rintro e w6 ⟨rfl, hb6⟩
    have hb46 := below_two hb5 hb6
    have hA6 := HA4.out.keep hb46
    have hB6 := HB4.out.trans (hb46.mono HB4.out.size)
    clear a0 a1 a2 hb5 hb6 hb46 hst5 hn5 hc5
    have a0 := hA6.cell 0
    have a1 := hA6.cell 1
    have a2 := hA6.cell 2
    simp at a0 a1 a2
    have hA7 := hA6.alloc (.cells #[.int .i64 m1, .int .i64 m2, .int .i64 m3, .int .i64 m4, .int .i64 m5, .int .i64 m6] 33)
    have hF7 := At.new w6 33 #[.int .i64 m1, .int .i64 m2, .int .i64 m3, .int .i64 m4, .int .i64 m5, .int .i64 m6]
    have hB7 := below_new hB6 hB6.size (o := .cells #[.int .i64 m1, .int .i64 m2, .int .i64 m3, .int .i64 m4, .int .i64 m5, .int .i64 m6] 33)
    have za := hA6.lt
    have HA7 := Lib.hid hA7
    have HF7 := Lib.hid hF7
    have HB7 := Lib.hid hB7
    clear hA6 hB6 hA7 hF7 hB7
    go_wp2_with fail
    generalize hW7 : w6.alloc (.cells #[.int .i64 m1, .int .i64 m2, .int .i64 m3, .int .i64 m4, .int .i64 m5, .int .i64 m6] 33) = w7 at HA7 HF7 HB7 ⊢
    clear hW7 a0 a1 a2
    refine (refCheckOrbit_any s b A n c S w7 (HS.out.below HB7.out) H1.out HN.out HC.out).mono ?_
    rintro e w8 ⟨rfl, hb8⟩
    have hA8 := HA7.out.keep hb8
    have hF8 := HF7.out.keep hb8
    have HB8 := Lib.hid (HB7.out.trans (hb8.mono HB7.out.size))
    have HA8 := Lib.hid hA8
    have HF8 := Lib.hid hF8
    clear hb8
    have a0 := hA8.cell 0
    have a1 := hA8.cell 1
    have a2 := hA8.cell 2
    have f0 := hF8.cell 0
    have f1 := hF8.cell 1
    have f2 := hF8.cell 2
    have f3 := hF8.cell 3
    have f4 := hF8.cell 4
    have f5 := hF8.cell 5
    simp at a0 a1 a2 f0 f1 f2 f3 f4 f5
    clear hA8 hF8
    generalize hq1 : (oce (nmB s) b n S).1 = q1
    by_cases h0 : (oce (nmB s) b n S).2 = 0
    · have HO := Lib.hid h0
      have HR := Lib.hid (oce_zero h0).2
      rw [h0]
      clear h0 hq1
      by_cases hi : inB a 0 ((n : Int) - 2) = true
      · have he := eV_ok HO.out hi
        obtain ⟨hv, rfl⟩ := spR_good HSP.out he
        have hin := inB_iff.1 hi
        obtain ⟨k, rfl⟩ : ∃ k : Nat, a = (k : Int) := ⟨a.toNat, by omega⟩
        have hk : k + 1 < n := by omega
        have HK := Lib.hid hk
        have HV : Hid (spV S k = .agg #[.int .i64 m1, .int .i64 m2, .int .i64 m3, .int .i64 m4, .int .i64 m5, .int .i64 m6]) := hv
        have HW : Hid (∀ W : World, Calls Try.prog 21 #[.int .i64 (k : Int), .int .i64 0, .int .i64 ((n : Int) - 2)] W fun e w' => e = .returned (.bool true) ∧ W = w') := fun W => by rw [← hi]; exact baseWithin_any _ _ _ W
        have C1 := Lib.hid (met (w := w8) (fun X hX => by
          have h := refSpeedOf_any s b A n c S k X (HS.out.below (HB8.out.trans (hX.mono HB8.out.size))) HR.out HK.out HN.out HC.out
          rw [HV.out] at h
          exact h))
        clear hv hin hi hk he HSP
        go_wp2_with (go_at_call 21; refine (HW.out _).mono ?_; rintro e w' ⟨rfl, rfl⟩)
        have k0 := cell_regrown a0
        have k1 := cell_regrown a1
        have k2 := cell_regrown a2
        have g0 := cell_regrown f0
        have g1 := cell_regrown f1
        have g2 := cell_regrown f2
        have g3 := cell_regrown f3
        have g4 := cell_regrown f4
        have g5 := cell_regrown f5
        clear a0 a1 a2 f0 f1 f2 f3 f4 f5
        refine wp_region_quiet_below (by kernel_rfl) (by kernel_rfl) ?_
        repeat (go_big_quiet_step (first | (with_reducible exact C1.out _ _)))
        refine wpQuiet_nil ?_
        intro _ hw'
        obtain ⟨⟨dq, osq⟩, hw''⟩ := hw'
        subst hw''
        have hb9 := below_regrown w8 dq osq
        have HB9 := Lib.hid (HB8.out.trans (hb9.mono HB8.out.size))
        clear hb9 k0 k1 k2 g0 g1 g2 g3 g4 g5
        go_wp2
        go_ret
        refine ⟨?_, HB9.out⟩
        simp
      · have hi : inB a 0 ((n : Int) - 2) = false := by simpa using hi
        obtain ⟨⟨rfl, rfl, rfl, rfl, rfl, rfl⟩, rfl⟩ := spR_bad HSP.out (eV_arc HO.out hi) (by decide)
        have HW : Hid (∀ W : World, Calls Try.prog 21 #[.int .i64 a, .int .i64 0, .int .i64 ((n : Int) - 2)] W fun e w' => e = .returned (.bool false) ∧ W = w') := fun W => by rw [← hi]; exact baseWithin_any _ _ _ W
        clear hi HSP
        go_wp2_with (go_at_call 21; refine (HW.out _).mono ?_; rintro e w' ⟨rfl, rfl⟩)
        go_ret
        exact ⟨rfl, HB8.out⟩
    · obtain ⟨⟨rfl, rfl, rfl, rfl, rfl, rfl⟩, hy⟩ := spR_bad HSP.out (eV_orb h0) h0
      generalize (oce (nmB s) b n S).2 = q at h0 hy ⊢
      subst hy
      clear HSP hq1
      go_wp2
      go_ret
      exact ⟨rfl, HB8.out⟩
  · have hf : fewB s n = false := by simpa using hf
    rw [hf]
    go_wp2
    go_ret
    exact ⟨rfl, HB2.out⟩
end Go.Proofs.Ytjfgfkahgjjcoaa
