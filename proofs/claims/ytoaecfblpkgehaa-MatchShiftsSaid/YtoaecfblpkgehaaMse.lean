/- Match: ShiftAt of the code; CheckAffine of the reference. -/
import Derived.Test.YtoaecfblpkgehaaMsd
import Derived.Test.YtoaecfblpkgehaaMwk
namespace Go.Proofs.Ytoaecfblpkgehaa
open Go.RowKit
set_option maxHeartbeats 1600000
set_option maxRecDepth 100000

theorem tm_iff {x : Int} : tm x = true ↔ -1000000000000000 ≤ x ∧ x ≤ 1000000000000000 := inB_iff
theorem rk_true {n l0 l1 l2 s0 s1 s2 : Int} (h : rk n l0 l1 l2 s0 s1 s2 3 = true) : (1 ≤ n ∧ n ≤ 1000000000000) ∧ Tm l0 l1 l2 ∧ Tm s0 s1 s2 := by
  simp only [rk, Bool.and_eq_true] at h
  obtain ⟨⟨⟨h0, a0, b0⟩, a1, b1⟩, a2, b2⟩ := h
  exact ⟨inB_iff.1 h0, ⟨tm_iff.1 a0, tm_iff.1 a1, tm_iff.1 a2⟩, ⟨tm_iff.1 b0, tm_iff.1 b1, tm_iff.1 b2⟩⟩
theorem rk_bad {n l0 l1 l2 s0 s1 s2 : Int} {k : Nat} (h : rk n l0 l1 l2 s0 s1 s2 k = false) : ∀ j, rk n l0 l1 l2 s0 s1 s2 (k + j) = false
  | 0 => h
  | j + 1 => by
    show (rk n l0 l1 l2 s0 s1 s2 (k + j) && _) = false
    rw [rk_bad h j, Bool.false_and]

/-- what ShiftAt returns: of the two axes, and the error -/
def shR (n l0 l1 l2 s0 s1 s2 l s : Int) : Value :=
  if rk n l0 l1 l2 s0 s1 s2 3 = true ∧ (inB l 0 63 && inB s 0 63) = true then .tuple #[.agg #[.int .i64 (sx (tv l0 l1 l2 l s) n), .int .i64 (sx (tv s0 s1 s2 l s) n)], .int .i64 0] else .tuple #[.agg #[.int .i64 0, .int .i64 0], .int .i64 2]

theorem shiftAt_any (n l0 l1 l2 s0 s1 s2 l s : Int) (w : World) :
    Calls Try.prog 12 #[.agg #[.int .i64 n, .int .i64 l0, .int .i64 l1, .int .i64 l2, .int .i64 s0, .int .i64 s1, .int .i64 s2], .int .i64 l, .int .i64 s] w fun e w' => e = .returned (shR n l0 l1 l2 s0 s1 s2 l s) ∧ Below w.heap.size w w' := by
  obtain ⟨b1, hb1⟩ : ∃ b, rk n l0 l1 l2 s0 s1 s2 3 = b := ⟨_, rfl⟩
  obtain ⟨b2, hb2⟩ : ∃ b, (inB l 0 63 && inB s 0 63) = b := ⟨_, rfl⟩
  have HC : Hid (∀ W : World, Calls Try.prog 14 #[.agg #[.int .i64 n, .int .i64 l0, .int .i64 l1, .int .i64 l2, .int .i64 s0, .int .i64 s1, .int .i64 s2]] W fun e w' => e = .returned (.int .i64 (eif (!b1) 2)) ∧ Below W.heap.size W w') := fun W => by rw [← hb1]; exact checkAffine_any _ _ _ _ _ _ _ W
  have HP : Hid (∀ W : World, Calls Try.prog 37 #[.int .i64 l, .int .i64 s] W fun e w' => e = .returned (.bool b2) ∧ W = w') := fun W => by rw [← hb2]; exact isPlace_any _ _ W
  have hX : At ((w.alloc (.cells #[.int .i64 n, .int .i64 l0, .int .i64 l1, .int .i64 l2, .int .i64 s0, .int .i64 s1, .int .i64 s2] 38)).alloc (.cells #[.int .i64 0, .int .i64 0] 39)) w.heap.size 38 #[.int .i64 n, .int .i64 l0, .int .i64 l1, .int .i64 l2, .int .i64 s0, .int .i64 s1, .int .i64 s2] := (At.new w _ _).alloc _
  have hR : At ((w.alloc (.cells #[.int .i64 n, .int .i64 l0, .int .i64 l1, .int .i64 l2, .int .i64 s0, .int .i64 s1, .int .i64 s2] 38)).alloc (.cells #[.int .i64 0, .int .i64 0] 39)) (w.heap.size + 1) 39 #[.int .i64 0, .int .i64 0] := at_new (by simp)
  have hb : Below w.heap.size w ((w.alloc (.cells #[.int .i64 n, .int .i64 l0, .int .i64 l1, .int .i64 l2, .int .i64 s0, .int .i64 s1, .int .i64 s2] 38)).alloc (.cells #[.int .i64 0, .int .i64 0] 39)) := by
    repeat (first | (with_reducible exact Below.refl _ _) | (with_reducible refine below_new ?_ (by first | omega | (simp; done) | (simp; omega))))
  cases b1 <;> cases b2
  · have hs : shR n l0 l1 l2 s0 s1 s2 l s = .tuple #[.agg #[.int .i64 0, .int .i64 0], .int .i64 2] := by unfold shR; rw [if_neg (fun h => by rw [hb1, hb2] at h; exact absurd h (by decide))]
    have HS := Lib.hid hs
    clear hs
    rw [HS.out]
    clear HS
    have HFE : Hid (fe (fun i => if i = 0 then 2 else 2) 2 = 2) := rfl
    clear hb1 hb2
    go_enter Try.func12, Try.ntmps12
    go_wp2_with fail
    refine (HC.out _).mono ?_
    rintro e w1 ⟨rfl, hbw⟩
    have HX1 := Lib.hid (hX.keep hbw)
    have HR1 := Lib.hid (hR.keep hbw)
    have HB1 := Lib.hid (below_two hb hbw)
    have i1 : w.heap.size < w1.heap.size := HX1.out.lt
    have i2 : w.heap.size + 1 < w1.heap.size := HR1.out.lt
    clear hX hR hb hbw
    have x0 := HX1.out.cell 0
    have x1 := HX1.out.cell 1
    have x2 := HX1.out.cell 2
    have x3 := HX1.out.cell 3
    have x4 := HX1.out.cell 4
    have x5 := HX1.out.cell 5
    have x6 := HX1.out.cell 6
    have y0 := HR1.out.cell 0
    have y1 := HR1.out.cell 1
    have z0 := HR1.out.free 0
    have z1 := HR1.out.free 1
    simp at x0 x1 x2 x3 x4 x5 x6 y0 y1
    go_wp2_with (first
      | (go_at_call 37; (with_reducible refine (HP.out _).mono ?_); rintro e w' ⟨rfl, rfl⟩)
      | (go_at_call 34; (with_reducible refine (errorIf_any _ _ _).mono ?_); rintro e w' ⟨rfl, rfl⟩)
      | (go_at_call 32; refine (firstError_any _ 2 2 (fun i => if i = 0 then 2 else 2) _ ?_ (by decide)).mono ?_; (exact sl_two rfl); rintro e w' ⟨rfl, rfl⟩; rw [HFE.out]))
    refine bodyPost_ret (v := .tuple #[.agg #[.int .i64 0, .int .i64 0], .int .i64 2]) (by simp [results, Try.results12, go_sem, *]) rfl ⟨rfl, ?_⟩
    have hq := HB1.out
    repeat (first | (with_reducible assumption) | (with_reducible exact Below.refl _ _) | (with_reducible refine Below.drew ?_) | (with_reducible refine below_drewNs ?_) | (with_reducible refine below_set ?_ (by first | omega | (simp; omega))) | (with_reducible refine below_new ?_ (by first | omega | (simp; done) | (simp; omega))))
  · have hs : shR n l0 l1 l2 s0 s1 s2 l s = .tuple #[.agg #[.int .i64 0, .int .i64 0], .int .i64 2] := by unfold shR; rw [if_neg (fun h => by rw [hb1, hb2] at h; exact absurd h (by decide))]
    have HS := Lib.hid hs
    clear hs
    rw [HS.out]
    clear HS
    have HFE : Hid (fe (fun i => if i = 0 then 2 else 0) 2 = 2) := rfl
    clear hb1 hb2
    go_enter Try.func12, Try.ntmps12
    go_wp2_with fail
    refine (HC.out _).mono ?_
    rintro e w1 ⟨rfl, hbw⟩
    have HX1 := Lib.hid (hX.keep hbw)
    have HR1 := Lib.hid (hR.keep hbw)
    have HB1 := Lib.hid (below_two hb hbw)
    have i1 : w.heap.size < w1.heap.size := HX1.out.lt
    have i2 : w.heap.size + 1 < w1.heap.size := HR1.out.lt
    clear hX hR hb hbw
    have x0 := HX1.out.cell 0
    have x1 := HX1.out.cell 1
    have x2 := HX1.out.cell 2
    have x3 := HX1.out.cell 3
    have x4 := HX1.out.cell 4
    have x5 := HX1.out.cell 5
    have x6 := HX1.out.cell 6
    have y0 := HR1.out.cell 0
    have y1 := HR1.out.cell 1
    have z0 := HR1.out.free 0
    have z1 := HR1.out.free 1
    simp at x0 x1 x2 x3 x4 x5 x6 y0 y1
    go_wp2_with (first
      | (go_at_call 37; (with_reducible refine (HP.out _).mono ?_); rintro e w' ⟨rfl, rfl⟩)
      | (go_at_call 34; (with_reducible refine (errorIf_any _ _ _).mono ?_); rintro e w' ⟨rfl, rfl⟩)
      | (go_at_call 32; refine (firstError_any _ 2 2 (fun i => if i = 0 then 2 else 0) _ ?_ (by decide)).mono ?_; (exact sl_two rfl); rintro e w' ⟨rfl, rfl⟩; rw [HFE.out]))
    refine bodyPost_ret (v := .tuple #[.agg #[.int .i64 0, .int .i64 0], .int .i64 2]) (by simp [results, Try.results12, go_sem, *]) rfl ⟨rfl, ?_⟩
    have hq := HB1.out
    repeat (first | (with_reducible assumption) | (with_reducible exact Below.refl _ _) | (with_reducible refine Below.drew ?_) | (with_reducible refine below_drewNs ?_) | (with_reducible refine below_set ?_ (by first | omega | (simp; omega))) | (with_reducible refine below_new ?_ (by first | omega | (simp; done) | (simp; omega))))
  · have hs : shR n l0 l1 l2 s0 s1 s2 l s = .tuple #[.agg #[.int .i64 0, .int .i64 0], .int .i64 2] := by unfold shR; rw [if_neg (fun h => by rw [hb1, hb2] at h; exact absurd h (by decide))]
    have HS := Lib.hid hs
    clear hs
    rw [HS.out]
    clear HS
    have HFE : Hid (fe (fun i => if i = 0 then 0 else 2) 2 = 2) := rfl
    clear hb1 hb2
    go_enter Try.func12, Try.ntmps12
    go_wp2_with fail
    refine (HC.out _).mono ?_
    rintro e w1 ⟨rfl, hbw⟩
    have HX1 := Lib.hid (hX.keep hbw)
    have HR1 := Lib.hid (hR.keep hbw)
    have HB1 := Lib.hid (below_two hb hbw)
    have i1 : w.heap.size < w1.heap.size := HX1.out.lt
    have i2 : w.heap.size + 1 < w1.heap.size := HR1.out.lt
    clear hX hR hb hbw
    have x0 := HX1.out.cell 0
    have x1 := HX1.out.cell 1
    have x2 := HX1.out.cell 2
    have x3 := HX1.out.cell 3
    have x4 := HX1.out.cell 4
    have x5 := HX1.out.cell 5
    have x6 := HX1.out.cell 6
    have y0 := HR1.out.cell 0
    have y1 := HR1.out.cell 1
    have z0 := HR1.out.free 0
    have z1 := HR1.out.free 1
    simp at x0 x1 x2 x3 x4 x5 x6 y0 y1
    go_wp2_with (first
      | (go_at_call 37; (with_reducible refine (HP.out _).mono ?_); rintro e w' ⟨rfl, rfl⟩)
      | (go_at_call 34; (with_reducible refine (errorIf_any _ _ _).mono ?_); rintro e w' ⟨rfl, rfl⟩)
      | (go_at_call 32; refine (firstError_any _ 2 2 (fun i => if i = 0 then 0 else 2) _ ?_ (by decide)).mono ?_; (exact sl_two rfl); rintro e w' ⟨rfl, rfl⟩; rw [HFE.out]))
    refine bodyPost_ret (v := .tuple #[.agg #[.int .i64 0, .int .i64 0], .int .i64 2]) (by simp [results, Try.results12, go_sem, *]) rfl ⟨rfl, ?_⟩
    have hq := HB1.out
    repeat (first | (with_reducible assumption) | (with_reducible exact Below.refl _ _) | (with_reducible refine Below.drew ?_) | (with_reducible refine below_drewNs ?_) | (with_reducible refine below_set ?_ (by first | omega | (simp; omega))) | (with_reducible refine below_new ?_ (by first | omega | (simp; done) | (simp; omega))))
  · have hs : shR n l0 l1 l2 s0 s1 s2 l s = .tuple #[.agg #[.int .i64 (sx (tv l0 l1 l2 l s) n), .int .i64 (sx (tv s0 s1 s2 l s) n)], .int .i64 0] := by unfold shR; rw [if_pos ⟨hb1, hb2⟩]
    have HS := Lib.hid hs
    clear hs
    obtain ⟨hn, hL, hS⟩ := rk_true hb1
    have hls : (0 ≤ l ∧ l ≤ 63) ∧ 0 ≤ s ∧ s ≤ 63 := by
      rw [Bool.and_eq_true, inB_iff, inB_iff] at hb2
      exact hb2
    have HG : Hid (∀ W : World, Calls Try.prog 38 #[.agg #[.int .i64 n, .int .i64 l0, .int .i64 l1, .int .i64 l2, .int .i64 s0, .int .i64 s1, .int .i64 s2], .int .i64 l, .int .i64 s] W fun e w' => e = .returned (.agg #[.int .i64 (sx (tv l0 l1 l2 l s) n), .int .i64 (sx (tv s0 s1 s2 l s) n)]) ∧ Below W.heap.size W w') := fun W => sixteenths_any _ _ _ _ _ _ _ _ _ W hn hL hS hls.1 hls.2
    rw [HS.out]
    generalize sx (tv l0 l1 l2 l s) n = F1 at HG ⊢
    generalize sx (tv s0 s1 s2 l s) n = F2 at HG ⊢
    clear hn hL hS hls HS
    have HFE : Hid (fe (fun i => if i = 0 then 0 else 0) 2 = 0) := rfl
    clear hb1 hb2
    go_enter Try.func12, Try.ntmps12
    go_wp2_with fail
    refine (HC.out _).mono ?_
    rintro e w1 ⟨rfl, hbw⟩
    have HX1 := Lib.hid (hX.keep hbw)
    have HR1 := Lib.hid (hR.keep hbw)
    have HB1 := Lib.hid (below_two hb hbw)
    have i1 : w.heap.size < w1.heap.size := HX1.out.lt
    have i2 : w.heap.size + 1 < w1.heap.size := HR1.out.lt
    clear hX hR hb hbw
    have x0 := HX1.out.cell 0
    have x1 := HX1.out.cell 1
    have x2 := HX1.out.cell 2
    have x3 := HX1.out.cell 3
    have x4 := HX1.out.cell 4
    have x5 := HX1.out.cell 5
    have x6 := HX1.out.cell 6
    have y0 := HR1.out.cell 0
    have y1 := HR1.out.cell 1
    have z0 := HR1.out.free 0
    have z1 := HR1.out.free 1
    simp at x0 x1 x2 x3 x4 x5 x6 y0 y1
    go_wp2_with (first
      | (go_at_call 37; (with_reducible refine (HP.out _).mono ?_); rintro e w' ⟨rfl, rfl⟩)
      | (go_at_call 34; (with_reducible refine (errorIf_any _ _ _).mono ?_); rintro e w' ⟨rfl, rfl⟩)
      | (go_at_call 32; refine (firstError_any _ 2 2 (fun i => if i = 0 then 0 else 0) _ ?_ (by decide)).mono ?_; (exact sl_two rfl); rintro e w' ⟨rfl, rfl⟩; rw [HFE.out]))
    refine (HG.out _).mono ?_
    rintro e w2 ⟨rfl, hb2⟩
    have hR2 := (HR1.out.alloc _).keep hb2
    have HB2 := Lib.hid (below_two (below_new HB1.out (by omega)) hb2)
    have y0 := hR2.cell 0
    have y1 := hR2.cell 1
    have z0 := hR2.free 0
    have z1 := hR2.free 1
    simp at y0 y1
    have i3 : w.heap.size + 1 < w2.heap.size := hR2.lt
    clear hb2 hR2
    go_wp2
    refine bodyPost_ret (v := .tuple #[.agg #[.int .i64 F1, .int .i64 F2], .int .i64 0]) (by simp [results, Try.results12, go_sem, *]) rfl ⟨rfl, ?_⟩
    have hq := HB2.out
    repeat (first | (with_reducible assumption) | (with_reducible exact Below.refl _ _) | (with_reducible refine Below.drew ?_) | (with_reducible refine below_drewNs ?_) | (with_reducible refine below_set ?_ (by first | omega | (simp; omega))) | (with_reducible refine below_new ?_ (by first | omega | (simp; done) | (simp; omega))))

theorem refCheckAffine_any (n l0 l1 l2 s0 s1 s2 : Int) (w : World) : Calls Try.prog 13 #[.agg #[.int .i64 n, .int .i64 l0, .int .i64 l1, .int .i64 l2, .int .i64 s0, .int .i64 s1, .int .i64 s2]] w fun e w' => e = .returned (.int .i64 (eif (!rk n l0 l1 l2 s0 s1 s2 3) 2)) ∧ Below w.heap.size w w' := by
  have HT : Hid (∀ (x : Int) (W : World), Calls Try.prog 9 #[.int .i64 x, .int .i64 (-1000000000000000), .int .i64 1000000000000000] W fun e w' => e = .returned (.bool (tm x)) ∧ W = w') := fun x W => baseWithin_any _ _ _ W
  obtain ⟨b, hb⟩ : ∃ b, rk n l0 l1 l2 s0 s1 s2 0 = b := ⟨_, rfl⟩
  have HW : Hid (∀ W : World, Calls Try.prog 9 #[.int .i64 n, .int .i64 1, .int .i64 1000000000000] W fun e w' => e = .returned (.bool b) ∧ W = w') := fun W => by rw [← hb]; exact baseWithin_any _ _ _ W
  cases b
  · have HE : Hid (rk n l0 l1 l2 s0 s1 s2 3 = false) := rk_bad hb 3
    clear hb
    go_enter Try.func13, Try.ntmps13
    go_wp2_with (go_at_call 9; (with_reducible refine (HW.out _).mono ?_); rintro e w' ⟨rfl, rfl⟩)
    go_ret
    rw [HE.out]
    refine ⟨rfl, ?_⟩
    repeat (first | (with_reducible assumption) | (with_reducible exact Below.refl _ _) | (with_reducible refine Below.drew ?_) | (with_reducible refine below_drewNs ?_) | (with_reducible refine below_set ?_ (by first | omega | (simp; omega))) | (with_reducible refine below_new ?_ (by first | omega | (simp; done) | (simp; omega))))
  · have H0 := Lib.hid hb
    clear hb
    go_enter Try.func13, Try.ntmps13
    go_wp2_with (go_at_call 9; (with_reducible refine (HW.out _).mono ?_); rintro e w' ⟨rfl, rfl⟩)
    go_loop [3] (fun i => ∃ k : Nat, k ≤ 3 ∧ i = .int .i64 (k : Int) ∧ rk n l0 l1 l2 s0 s1 s2 k = true) (fun i => 3 - (intOf i).toNat)
    case atStart => exact ⟨0, Nat.zero_le _, rfl, H0.out⟩
    case round =>
      obtain ⟨k, hk, rfl, hz⟩ := hrel
      by_cases hlt : k < 3
      · obtain ⟨b1, hb1⟩ : ∃ b, tm (th l0 l1 l2 k) = b := ⟨_, rfl⟩
        obtain ⟨b2, hb2⟩ : ∃ b, tm (th s0 s1 s2 k) = b := ⟨_, rfl⟩
        have hn : rk n l0 l1 l2 s0 s1 s2 (k + 1) = (b1 && b2) := by rw [rk, hz, hb1, hb2, Bool.true_and]
        have HN := Lib.hid hn
        clear hz
        have h3 : k = 0 ∨ k = 1 ∨ k = 2 := by omega
        rcases h3 with rfl | rfl | rfl
        all_goals
          simp only [th] at hb1 hb2
          simp at hb1 hb2
          have H1 : Hid (tm _ = b1) := hb1
          have H2 : Hid (tm _ = b2) := hb2
          clear hb1 hb2 hn
          cases b1 <;> cases b2
          all_goals
            go_wp2_with (go_at_call 9; (with_reducible refine (HT.out _ _).mono ?_); rintro e w' ⟨rfl, rfl⟩; first | rw [H1.out] | rw [H2.out])
            first
              | (go_ret
                 have hE : rk n l0 l1 l2 s0 s1 s2 3 = false := by first | exact rk_bad HN.out 2 | exact rk_bad HN.out 1 | exact rk_bad HN.out 0
                 rw [hE]
                 refine ⟨rfl, ?_⟩
                 repeat (first | (with_reducible assumption) | (with_reducible exact Below.refl _ _) | (with_reducible refine Below.drew ?_) | (with_reducible refine below_drewNs ?_) | (with_reducible refine below_set ?_ (by first | omega | (simp; omega))) | (with_reducible refine below_new ?_ (by first | omega | (simp; done) | (simp; omega))))
                 done)
              | (go_round
                 case rel => first | exact ⟨1, by decide, by go_num, HN.out⟩ | exact ⟨2, by decide, by go_num, HN.out⟩ | exact ⟨3, by decide, by go_num, HN.out⟩
                 case measure => simp [intOf])
      · obtain rfl : k = 3 := by omega
        go_wp2
        go_ret
        refine ⟨by first | (rw [hz]; rfl) | rfl | (simp [hz, eif]; done), ?_⟩
        repeat (first | (with_reducible assumption) | (with_reducible exact Below.refl _ _) | (with_reducible refine Below.drew ?_) | (with_reducible refine below_drewNs ?_) | (with_reducible refine below_set ?_ (by first | omega | (simp; omega))) | (with_reducible refine below_new ?_ (by first | omega | (simp; done) | (simp; omega))))
end Go.Proofs.Ytoaecfblpkgehaa
