/- The law: Nominal and BoxAt are as specified, or the errors; the nominal place lies in the box. -/
import Derived.Test.YtjfgfkahgjjcoaaOin
import Derived.Test.YtjfgfkahgjjcoaaOrx
import Derived.Test.YtjfgfkahgjjcoaaOeq
namespace Go.Proofs.Ytjfgfkahgjjcoaa
open Go.RowKit
set_option maxHeartbeats 1600000
set_option maxRecDepth 100000

theorem places_all {w : World} {s : ByteArray} {b : Int} {A : Option Addr} {n c : Nat} {S : Nat → Nat → Int} {t : Int} (h : OrbIn w s b A n c S) (_ht : I64 t) :
    Calls Try.prog 4 #[.agg #[.string s, .int .i64 b, .slice A n c], .int .i64 t] w fun e w' => e = .returned (.bool true) ∧ Below w.heap.size w w' := by
  obtain ⟨hs, hn, hc, _, hS, _, hA0⟩ := h
  have H1 := Lib.hid hs
  have HN := Lib.hid hn
  have HC := Lib.hid hc
  have HA0 := Lib.hid hA0
  have HS := Lib.hid hS
  clear hs hn hc hS hA0
  go_enter Try.func4, Try.ntmps4
  go_wp2_with fail
  have hb0 : Below w.heap.size w (w.alloc (.cells #[.string s, .int .i64 b, .slice A n c] 24)) := below_new (Below.refl _ w) (Nat.le_refl _)
  have hA0 := At.new w 24 #[.string s, .int .i64 b, .slice A n c]
  refine (awake_ok _).mono ?_
  rintro e w1 ⟨rfl, hb1⟩
  have hB1 := below_two hb0 hb1
  have hA1 := hA0.keep hb1
  have a0 := hA1.cell 0
  have a1 := hA1.cell 1
  have a2 := hA1.cell 2
  have za := hA1.lt
  simp at a0 a1 a2
  have HA1 := Lib.hid hA1
  have HB1 := Lib.hid hB1
  clear hb0 hA0 hb1 hA1 hB1
  go_wp2_with fail
  refine (few_any s b A n c w1).mono ?_
  rintro e w2 ⟨rfl, hb2⟩
  have hA2 := HA1.out.keep hb2
  have HB2 := Lib.hid (HB1.out.trans (hb2.mono HB1.out.size))
  have HA2 := Lib.hid hA2
  clear a0 a1 a2
  have a0 := hA2.cell 0
  have a1 := hA2.cell 1
  have a2 := hA2.cell 2
  have za := hA2.lt
  simp at a0 a1 a2
  clear hb2 hA2
  by_cases hf : fewB s n = true
  · have HF := Lib.hid hf
    by_cases he : e2 (nmB s) b n S t = 0
    · have hbox : boxR (nmB s) b n S t = .tuple #[boxV S n b t, .int .i64 0] := if_pos he
      have hnos : noR (nmB s) b n S t = .tuple #[noV S n t, .int .i64 0] := if_pos he
      obtain ⟨hR, hT⟩ := (e2_zero he).2
      have HR := Lib.hid hR
      have HT := Lib.hid hT
      obtain ⟨_, _, b1, b2⟩ := box_facts hR hT (c := 1) (by omega)
      obtain ⟨_, _, b3, b4⟩ := box_facts hR hT (c := 2) (by omega)
      obtain ⟨_, _, b5, b6⟩ := box_facts hR hT (c := 3) (by omega)
      have i1 := inB_t ⟨b1, b2⟩
      have i2 := inB_t ⟨b3, b4⟩
      have i3 := inB_t ⟨b5, b6⟩
      have hC1 : ∀ X A' c', St X A' n S → n ≤ c' → c' ≤ maxLen → Calls Try.prog 26 #[.agg #[.string s, .int .i64 b, .slice A' n c'], .int .i64 t] X fun e w' => e = .returned (noV S n t) ∧ Below X.heap.size X w' := fun X A' c' h1 h2 h3 => refNominal_any s b A' n c' S t X h1 hR hT h2 h3
      have hC2 : ∀ X A' c', St X A' n S → n ≤ c' → c' ≤ maxLen → Calls Try.prog 27 #[.agg #[.string s, .int .i64 b, .slice A' n c'], .int .i64 t] X fun e w' => e = .returned (boxV S n b t) ∧ Below X.heap.size X w' := fun X A' c' h1 h2 h3 => refBoxAt_any s b A' n c' S t X h1 hR hT h2 h3
      unfold boxV at hbox hC2
      unfold noV at hnos hC1
      clear b1 b2 b3 b4 b5 b6 hR hT
      generalize lo S n b t 1 = l1 at *
      generalize lo S n b t 2 = l2 at *
      generalize lo S n b t 3 = l3 at *
      generalize hi S n b t 1 = h1 at *
      generalize hi S n b t 2 = h2 at *
      generalize hi S n b t 3 = h3 at *
      generalize no S n t 1 = n1 at *
      generalize no S n t 2 = n2 at *
      generalize no S n t 3 = n3 at *
      have HC1 := Lib.hid hC1
      have HC2 := Lib.hid hC2
      have HE := Lib.hid he
      have HW1 : Hid (∀ W : World, Calls Try.prog 21 #[.int .i64 n1, .int .i64 l1, .int .i64 h1] W fun e w' => e = .returned (.bool true) ∧ W = w') := fun W => by rw [← i1]; exact baseWithin_any _ _ _ W
      have HW2 : Hid (∀ W : World, Calls Try.prog 21 #[.int .i64 n2, .int .i64 l2, .int .i64 h2] W fun e w' => e = .returned (.bool true) ∧ W = w') := fun W => by rw [← i2]; exact baseWithin_any _ _ _ W
      have HW3 : Hid (∀ W : World, Calls Try.prog 21 #[.int .i64 n3, .int .i64 l3, .int .i64 h3] W fun e w' => e = .returned (.bool true) ∧ W = w') := fun W => by rw [← i3]; exact baseWithin_any _ _ _ W
      have HBX := Lib.hid hbox
      have HNX := Lib.hid hnos
      have d0 : (e2 (nmB s) b n S t != 0) = false := by rw [he]; rfl
      clear hC1 hC2 he i1 i2 i3 hbox hnos
      go_wp2_with fail
      have hbox := HBX.out
      have hnos := HNX.out
      refine (copy_any s b A n c S w2 (HS.out.below HB2.out) (by have := few_size HF.out; omega) HA0.out).mono ?_
      rintro e w3 ⟨A3, c3, rfl, hst3, hn3, hc3, _, _, hb3⟩
      go_wp2_with fail
      refine (nominalAt_any s b A3 n c3 S t w3 hst3 H1.out hn3 hc3).mono ?_
      rw [hnos]
      rintro e w4 ⟨rfl, hb4⟩
      have hs4 := below_two hb3 hb4
      have hB4 := HB2.out.trans (hs4.mono HB2.out.size)
      have hA4 := HA2.out.keep hs4
      clear hst3 hn3 hc3 hb3 hb4 hs4
      have a0 := hA4.cell 0
      have a1 := hA4.cell 1
      have a2 := hA4.cell 2
      have za := hA4.lt
      simp at a0 a1 a2
      have hP5 := At.new w4 42 #[.int .i64 n1, .int .i64 n2, .int .i64 n3]
      have hA5 := hA4.alloc (.cells #[.int .i64 n1, .int .i64 n2, .int .i64 n3] 42)
      have hB5 := below_new hB4 hB4.size (o := .cells #[.int .i64 n1, .int .i64 n2, .int .i64 n3] 42)
      have HA5 := Lib.hid hA5
      have HP5 := Lib.hid hP5
      have HB5 := Lib.hid hB5
      clear hA4 hP5 hA5 hB4 hB5
      go_wp2_with fail
      generalize hW5 : w4.alloc (.cells #[.int .i64 n1, .int .i64 n2, .int .i64 n3] 42) = w5 at HA5 HP5 HB5 ⊢
      clear hW5 a0 a1 a2
      refine (copy_any s b A n c S w5 (HS.out.below HB5.out) (by have := few_size HF.out; omega) HA0.out).mono ?_
      rintro e w6 ⟨A6, c6, rfl, hst6, hn6, hc6, _, _, hb6⟩
      go_wp2_with fail
      refine (boxAt_any s b A6 n c6 S t w6 hst6 H1.out hn6 hc6).mono ?_
      rw [hbox]
      rintro e w7 ⟨rfl, hb7⟩
      have hs7 := below_two hb6 hb7
      have hB7 := HB5.out.trans (hs7.mono HB5.out.size)
      have hA7 := HA5.out.keep hs7
      have hP7 := HP5.out.keep hs7
      clear hst6 hn6 hc6 hb6 hb7 hs7
      have a0 := hA7.cell 0
      have a1 := hA7.cell 1
      have a2 := hA7.cell 2
      have za := hA7.lt
      simp at a0 a1 a2
      have hA8 := hA7.alloc (.cells #[.int .i64 l1, .int .i64 h1, .int .i64 l2, .int .i64 h2, .int .i64 l3, .int .i64 h3] 47)
      have hP8 := hP7.alloc (.cells #[.int .i64 l1, .int .i64 h1, .int .i64 l2, .int .i64 h2, .int .i64 l3, .int .i64 h3] 47)
      have hQ8 := At.new w7 47 #[.int .i64 l1, .int .i64 h1, .int .i64 l2, .int .i64 h2, .int .i64 l3, .int .i64 h3]
      have hB8 := below_new hB7 hB7.size (o := .cells #[.int .i64 l1, .int .i64 h1, .int .i64 l2, .int .i64 h2, .int .i64 l3, .int .i64 h3] 47)
      have HA8 := Lib.hid hA8
      have HP8 := Lib.hid hP8
      have HQ8 := Lib.hid hQ8
      have HB8 := Lib.hid hB8
      clear hA7 hP7 hA8 hP8 hQ8 hB7 hB8
      go_wp2_with fail
      generalize hW8 : w7.alloc (.cells #[.int .i64 l1, .int .i64 h1, .int .i64 l2, .int .i64 h2, .int .i64 l3, .int .i64 h3] 47) = w8 at HA8 HP8 HQ8 HB8 ⊢
      clear hW8 a0 a1 a2
      refine (tickErr_any s b A n c S t w8 (HS.out.below HB8.out) H1.out HN.out HC.out).mono ?_
      rintro e w9 ⟨rfl, hb9⟩
      have hA9 := HA8.out.keep hb9
      have hP9 := HP8.out.keep hb9
      have hQ9 := HQ8.out.keep hb9
      have HB9 := Lib.hid (HB8.out.trans (hb9.mono HB8.out.size))
      have a0 := hA9.cell 0
      have a1 := hA9.cell 1
      have a2 := hA9.cell 2
      have za := hA9.lt
      have p0 := hP9.cell 0
      have p1 := hP9.cell 1
      have p2 := hP9.cell 2
      have zp := hP9.lt
      have q0 := hQ9.cell 0
      have q1 := hQ9.cell 1
      have q2 := hQ9.cell 2
      have q3 := hQ9.cell 3
      have q4 := hQ9.cell 4
      have q5 := hQ9.cell 5
      have zq := hQ9.lt
      simp at a0 a1 a2 p0 p1 p2 q0 q1 q2 q3 q4 q5
      have HS9 := Lib.hid (HS.out.below HB9.out)
      clear hb9 hA9 hP9 hQ9
      clear hbox hnos
      go_wp2_with fail
      have ka0 := cell_regrown a0
      have ka1 := cell_regrown a1
      have ka2 := cell_regrown a2
      have kp0 := cell_regrown p0
      have kp1 := cell_regrown p1
      have kp2 := cell_regrown p2
      have kq0 := cell_regrown q0
      have kq1 := cell_regrown q1
      have kq2 := cell_regrown q2
      have kq3 := cell_regrown q3
      have kq4 := cell_regrown q4
      have kq5 := cell_regrown q5
      have CR1 := Lib.hid (met (fun X hX => HC1.out X A c (HS9.out.below hX) HN.out HC.out))
      have CR2 := Lib.hid (met (fun X hX => HC2.out X A c (HS9.out.below hX) HN.out HC.out))
      clear a0 a1 a2 p0 p1 p2 q0 q1 q2 q3 q4 q5
      refine wp_region_quiet_below (by kernel_rfl) (by kernel_rfl) ?_
      repeat (quiet_step (first | (with_reducible exact CR1.out _ _) | (with_reducible exact CR2.out _ _) | (with_reducible exact met_same HW1.out _ _) | (with_reducible exact met_same HW2.out _ _) | (with_reducible exact met_same HW3.out _ _)))
      refine wpQuiet_nil ?_
      intro _ hw'
      obtain ⟨⟨dq, osq⟩, hw''⟩ := hw'
      subst hw''
      have hb3 := below_regrown w9 dq osq
      go_wp2
      go_ret
      exact ⟨rfl, HB9.out.trans (hb3.mono HB9.out.size)⟩
    · have hbox : boxR (nmB s) b n S t = .tuple #[zBox, .int .i64 (e2 (nmB s) b n S t)] := if_neg he
      have hnos : noR (nmB s) b n S t = .tuple #[zPl, .int .i64 (e2 (nmB s) b n S t)] := if_neg he
      have d0 : (e2 (nmB s) b n S t != 0) = true := by simpa using he
      unfold zBox at hbox
      unfold zPl at hnos
      have HBX := Lib.hid hbox
      have HNX := Lib.hid hnos
      clear he hbox hnos
      go_wp2_with fail
      have hbox := HBX.out
      have hnos := HNX.out
      refine (copy_any s b A n c S w2 (HS.out.below HB2.out) (by have := few_size HF.out; omega) HA0.out).mono ?_
      rintro e w3 ⟨A3, c3, rfl, hst3, hn3, hc3, _, _, hb3⟩
      go_wp2_with fail
      refine (nominalAt_any s b A3 n c3 S t w3 hst3 H1.out hn3 hc3).mono ?_
      rw [hnos]
      rintro e w4 ⟨rfl, hb4⟩
      have hs4 := below_two hb3 hb4
      have hB4 := HB2.out.trans (hs4.mono HB2.out.size)
      have hA4 := HA2.out.keep hs4
      clear hst3 hn3 hc3 hb3 hb4 hs4
      have a0 := hA4.cell 0
      have a1 := hA4.cell 1
      have a2 := hA4.cell 2
      have za := hA4.lt
      simp at a0 a1 a2
      have hP5 := At.new w4 42 #[.int .i64 0, .int .i64 0, .int .i64 0]
      have hA5 := hA4.alloc (.cells #[.int .i64 0, .int .i64 0, .int .i64 0] 42)
      have hB5 := below_new hB4 hB4.size (o := .cells #[.int .i64 0, .int .i64 0, .int .i64 0] 42)
      have HA5 := Lib.hid hA5
      have HP5 := Lib.hid hP5
      have HB5 := Lib.hid hB5
      clear hA4 hP5 hA5 hB4 hB5
      go_wp2_with fail
      generalize hW5 : w4.alloc (.cells #[.int .i64 0, .int .i64 0, .int .i64 0] 42) = w5 at HA5 HP5 HB5 ⊢
      clear hW5 a0 a1 a2
      refine (copy_any s b A n c S w5 (HS.out.below HB5.out) (by have := few_size HF.out; omega) HA0.out).mono ?_
      rintro e w6 ⟨A6, c6, rfl, hst6, hn6, hc6, _, _, hb6⟩
      go_wp2_with fail
      refine (boxAt_any s b A6 n c6 S t w6 hst6 H1.out hn6 hc6).mono ?_
      rw [hbox]
      rintro e w7 ⟨rfl, hb7⟩
      have hs7 := below_two hb6 hb7
      have hB7 := HB5.out.trans (hs7.mono HB5.out.size)
      have hA7 := HA5.out.keep hs7
      have hP7 := HP5.out.keep hs7
      clear hst6 hn6 hc6 hb6 hb7 hs7
      have a0 := hA7.cell 0
      have a1 := hA7.cell 1
      have a2 := hA7.cell 2
      have za := hA7.lt
      simp at a0 a1 a2
      have hA8 := hA7.alloc (.cells #[.int .i64 0, .int .i64 0, .int .i64 0, .int .i64 0, .int .i64 0, .int .i64 0] 47)
      have hP8 := hP7.alloc (.cells #[.int .i64 0, .int .i64 0, .int .i64 0, .int .i64 0, .int .i64 0, .int .i64 0] 47)
      have hQ8 := At.new w7 47 #[.int .i64 0, .int .i64 0, .int .i64 0, .int .i64 0, .int .i64 0, .int .i64 0]
      have hB8 := below_new hB7 hB7.size (o := .cells #[.int .i64 0, .int .i64 0, .int .i64 0, .int .i64 0, .int .i64 0, .int .i64 0] 47)
      have HA8 := Lib.hid hA8
      have HP8 := Lib.hid hP8
      have HQ8 := Lib.hid hQ8
      have HB8 := Lib.hid hB8
      clear hA7 hP7 hA8 hP8 hQ8 hB7 hB8
      go_wp2_with fail
      generalize hW8 : w7.alloc (.cells #[.int .i64 0, .int .i64 0, .int .i64 0, .int .i64 0, .int .i64 0, .int .i64 0] 47) = w8 at HA8 HP8 HQ8 HB8 ⊢
      clear hW8 a0 a1 a2
      refine (tickErr_any s b A n c S t w8 (HS.out.below HB8.out) H1.out HN.out HC.out).mono ?_
      rintro e w9 ⟨rfl, hb9⟩
      have hA9 := HA8.out.keep hb9
      have hP9 := HP8.out.keep hb9
      have hQ9 := HQ8.out.keep hb9
      have HB9 := Lib.hid (HB8.out.trans (hb9.mono HB8.out.size))
      have a0 := hA9.cell 0
      have a1 := hA9.cell 1
      have a2 := hA9.cell 2
      have za := hA9.lt
      have p0 := hP9.cell 0
      have p1 := hP9.cell 1
      have p2 := hP9.cell 2
      have zp := hP9.lt
      have q0 := hQ9.cell 0
      have q1 := hQ9.cell 1
      have q2 := hQ9.cell 2
      have q3 := hQ9.cell 3
      have q4 := hQ9.cell 4
      have q5 := hQ9.cell 5
      have zq := hQ9.lt
      simp at a0 a1 a2 p0 p1 p2 q0 q1 q2 q3 q4 q5
      have HS9 := Lib.hid (HS.out.below HB9.out)
      clear hb9 hA9 hP9 hQ9
      clear hbox hnos
      have d1 : (e2 (nmB s) b n S t == e2 (nmB s) b n S t) = true := by simp
      go_wp2
      go_ret
      exact ⟨rfl, HB9.out⟩
  · have hf : fewB s n = false := by simpa using hf
    go_wp2
    go_ret
    exact ⟨rfl, HB2.out⟩
end Go.Proofs.Ytjfgfkahgjjcoaa
