/- Contracts of the reference of orbits: an orbit's check. -/
import Derived.Test.YtnaanninmkplfaaOrc
import Derived.IntWalk
namespace Go.Proofs.Ytnaanninmkplfaa
open Go.RowKit
set_option maxHeartbeats 800000
set_option maxRecDepth 100000

theorem refCheckOrbit_any (s : ByteArray) (b : Int) (A : Option Addr) (n c : Nat) (S : Nat → Nat → Int) (w : World) (hS : St w A n S) (hs : s.size ≤ maxLen) (hn : n ≤ c) (_hc : c ≤ maxLen) :
    Calls Try.prog 21 #[.agg #[.string s, .int .i64 b, .slice A n c]] w fun e w' =>
      e = .returned (.tuple #[.int .i64 ((oce (nmB s) b n S).1 : Int), .int .i64 (oce (nmB s) b n S).2]) ∧ Below w.heap.size w w' := by
  have HS := Lib.hid (hS.alloc (.cells #[.string s, .int .i64 b, .slice A n c] 24))
  have HSZ := Lib.hid hs
  clear hS hs

  have hb1 : Below w.heap.size w (w.alloc (.cells #[.string s, .int .i64 b, .slice A n c] 24)) := below_new (Below.refl _ w) (Nat.le_refl _)
  by_cases hnm : nmB s = true
  · by_cases hbb : inB b 0 100000 = true
    · by_cases h2 : (n : Int) < 2
      · have heq : oce (nmB s) b n S = (0, 10) := by
          unfold oce
          rw [hnm, if_neg (by simp), if_neg (by simpa using inB_iff.1 hbb), if_pos (by omega)]
        have HE := Lib.hid heq
        clear heq
        go_enter Try.func21, Try.ntmps21
        go_wp2_with (first
          | (go_at_call 80; refine (baseIsName_any s _ HSZ.out).mono ?_; rintro e w' ⟨rfl, rfl⟩)
          | (go_at_call 81; refine (refIsError_any _ _).mono ?_; rintro e w' ⟨rfl, rfl⟩))
        go_ret2
        rw [HE.out]
        exact ⟨rfl, hb1⟩
      · by_cases h3 : (40 : Int) < (n : Int)
        · have heq : oce (nmB s) b n S = (0, 8) := by
            unfold oce
            rw [hnm, if_neg (by simp), if_neg (by simpa using inB_iff.1 hbb), if_neg (by omega), if_pos (by omega)]
          have HE := Lib.hid heq
          clear heq
          go_enter Try.func21, Try.ntmps21
          go_wp2_with (first
            | (go_at_call 80; refine (baseIsName_any s _ HSZ.out).mono ?_; rintro e w' ⟨rfl, rfl⟩)
            | (go_at_call 81; refine (refIsError_any _ _).mono ?_; rintro e w' ⟨rfl, rfl⟩))
          go_ret2
          rw [HE.out]
          exact ⟨rfl, hb1⟩
        · have hgq : oce (nmB s) b n S = if fst S n < n then (fst S n, ste S (fst S n)) else (0, 0) := by
            unfold oce
            rw [hnm, if_neg (by simp), if_neg (by simpa using inB_iff.1 hbb), if_neg (by omega), if_neg (by omega)]
          have HG := Lib.hid hgq
          clear hgq
          have hA := At.new w 24 #[.string s, .int .i64 b, .slice A n c]
          have hz : w.heap.size < (w.alloc (.cells #[.string s, .int .i64 b, .slice A n c] 24)).heap.size := hA.lt
          go_enter Try.func21, Try.ntmps21
          go_wp2_with (first
            | (go_at_call 80; refine (baseIsName_any s _ HSZ.out).mono ?_; rintro e w' ⟨rfl, rfl⟩)
            | (go_at_call 81; refine (refIsError_any _ _).mono ?_; rintro e w' ⟨rfl, rfl⟩))
          generalize hW1 : w.alloc (.cells #[.string s, .int .i64 b, .slice A n c] 24) = W1 at hA hb1 HS hz ⊢
          have HA := Lib.hid hA
          have HB1 := Lib.hid hb1
          clear hW1 hA hb1 hnm hbb
          go_loopw [4] (fun i wr => ∃ k : Nat, k ≤ n ∧ i = .int .i64 (k : Int) ∧ (∀ j, j < k → ste S j = 0) ∧ Below W1.heap.size W1 wr) (fun i _ => n - (intOf i).toNat)
          case atStart => exact ⟨0, Nat.zero_le _, rfl, fun j hj => absurd hj (by omega), Below.refl _ _⟩
          case round =>
            obtain ⟨k, hk, rfl, hzz, hwr⟩ := hrel
            have HQ := Lib.hid hzz
            have HWR := Lib.hid hwr
            clear hzz
            have c2' := ((HA.out.keep hwr).cell 2)
            simp at c2'
            have hzr : W1.heap.size ≤ wr.heap.size := hwr.size
            by_cases hlt : k < n
            · obtain ⟨bk, off, rfl, hbk, hc5⟩ := (HS.out.below hwr).at (by omega)
              obtain ⟨k0, k1, k2, k3, k4⟩ := hc5 k hlt
              have q00 := (hc5 0 (by omega)).1
              rw [show off + 0 * 5 = off by omega] at q00
              have u1 : (0 : Int) ≤ (k : Int) := by omega
              have u2 : (k : Int) < (n : Int) := by omega
              obtain ⟨x0, hx0⟩ : ∃ x, x = S k 0 := ⟨_, rfl⟩
              obtain ⟨x1, hx1⟩ : ∃ x, x = S k 1 := ⟨_, rfl⟩
              obtain ⟨x2, hx2⟩ : ∃ x, x = S k 2 := ⟨_, rfl⟩
              obtain ⟨x3, hx3⟩ : ∃ x, x = S k 3 := ⟨_, rfl⟩
              obtain ⟨x4, hx4⟩ : ∃ x, x = S k 4 := ⟨_, rfl⟩
              have HX : Hid (x0 = S k 0) := hx0
              have HT : Hid (stE x0 x1 x2 x3 x4 = if StOk S k then 0 else 2) := by rw [hx0, hx1, hx2, hx3, hx4]; exact stE_eq S k
              rw [← hx0] at k0
              rw [← hx1] at k1
              rw [← hx2] at k2
              rw [← hx3] at k3
              rw [← hx4] at k4
              have HC5 := Lib.hid hc5
              clear hc5 hx0 hx1 hx2 hx3 hx4 hwr
              go_wp2_with fail
              refine (refCheckState_any x0 x1 x2 x3 x4 _).mono ?_
              rintro e w2 ⟨rfl, hb2⟩
              have hN := (At.new wr 56 #[.int .i64 x0, .int .i64 x1, .int .i64 x2, .int .i64 x3, .int .i64 x4]).keep hb2
              have hbr : Below wr.heap.size wr w2 := (below_new (Below.refl _ wr) (Nat.le_refl _)).trans (hb2.mono (by simp))
              have n0 := hN.cell 0
              simp at n0
              have c22 := (hbr.cell (p := ⟨w.heap.size, 2, none⟩) (by show w.heap.size < _; omega)).trans c2'
              have q02 := (hbr.cell (p := ⟨bk, off, none⟩) hbk).trans q00
              have HW2 := Lib.hid (HWR.out.trans (hbr.mono HWR.out.size))
              have HBR := Lib.hid hbr
              have hz2 : wr.heap.size < w2.heap.size := hN.lt
              clear hb2 hN hbr c2' k0 k1 k2 k3 k4 q00
              by_cases hok : StOk S k
              · have e1 : stE x0 x1 x2 x3 x4 = 0 := by rw [HT.out, if_pos hok]
                rw [e1]
                have hx := hok.1
                rw [← HX.out] at hx
                obtain ⟨s0, hs0⟩ : ∃ x, x = S 0 0 := ⟨_, rfl⟩
                rw [← hs0] at q02
                have h00 : 0 ≤ s0 ∧ s0 ≤ 1000000000 := by
                  rw [hs0]
                  rcases Nat.eq_zero_or_pos k with g | g
                  · subst g; exact hok.1
                  · exact (ste_zero (HQ.out 0 g)).1.1
                have v1 : IntKind.i64.wrap (x0 - s0) = x0 - s0 := IntWalk.i64_in _ (by omega)
                have HS0 : Hid (s0 = S 0 0) := hs0
                rcases Nat.eq_zero_or_pos k with g | g
                · have hk0 : ste S k = 0 := by
                    unfold ste
                    rw [if_pos hok, if_neg (by omega), if_neg (by omega)]
                  have HK0 := Lib.hid hk0
                  have hxx : x0 = s0 := by rw [HX.out, hs0, g]
                  have d0 : decide ((0 : Int) < (k : Int)) = false := decide_eq_false (by omega)
                  have d0n : decide (0 < k) = false := decide_eq_false (by omega)
                  have d0m : k ≤ 0 := by omega
                  have d1 : ¬ (20000 : Int) < x0 - s0 := by omega
                  have HG0 := Lib.hid g
                  clear hk0 hxx e1 hok hs0 g
                  go_wp2_with fail
                  go_quiet (fail)
                  go_wp2_with fail
                  go_quiet (fail)
                  go_wp2_with fail
                  go_roundw
                  case rel => exact ⟨k + 1, by omega, by go_num, fun j hj => by
                    rcases Nat.lt_or_ge j k with g2 | g2
                    · exact HQ.out j g2
                    · obtain rfl : j = k := by omega
                      exact HK0.out, by
                    have hf := HW2.out
                    repeat (first | (with_reducible exact hf) | (with_reducible refine Below.drew ?_) | (with_reducible refine below_drewNs ?_))⟩
                  case measure => simp [intOf]; omega
                · obtain ⟨m, hm⟩ : ∃ m, k = m + 1 := ⟨k - 1, by omega⟩
                  have qm := (HBR.out.cell (p := ⟨bk, off + m * 5, none⟩) hbk).trans (HC5.out m (by omega)).1
                  obtain ⟨y, hy⟩ : ∃ x, x = S m 0 := ⟨_, rfl⟩
                  rw [← hy] at qm
                  have HYY : Hid (y = S (k - 1) 0) := by rw [hy, show k - 1 = m by omega]; exact rfl
                  have d0 : decide ((0 : Int) < (k : Int)) = true := decide_eq_true (by omega)
                  have d0n : decide (0 < k) = true := decide_eq_true (by omega)
                  have d0m : 0 < k := g
                  have v2 : IntKind.i64.wrap ((k : Int) - 1) = (m : Int) := by rw [IntWalk.i64_in _ (by omega)]; omega
                  have u3 : (0 : Int) ≤ (m : Int) := by omega
                  have u4 : (m : Int) < (n : Int) := by omega
                  have u5 : 0 < n := by omega
                  have hst9 : x0 ≤ y → ste S k = 9 := fun h => by
                    unfold ste
                    rw [if_pos hok, if_pos ⟨g, by rw [← HX.out, ← HYY.out]; exact h⟩]
                  have hst8 : ¬ x0 ≤ y → (20000 : Int) < x0 - s0 → ste S k = 8 := fun h h' => by
                    unfold ste
                    rw [if_pos hok, if_neg (by rw [← HX.out, ← HYY.out]; exact fun q => h q.2), if_pos ⟨g, by rw [← HX.out, ← HS0.out]; omega⟩]
                  have hst0 : ¬ x0 ≤ y → ¬ (20000 : Int) < x0 - s0 → ste S k = 0 := fun h h' => by
                    unfold ste
                    rw [if_pos hok, if_neg (by rw [← HX.out, ← HYY.out]; exact fun q => h q.2), if_neg (by rw [← HX.out, ← HS0.out]; omega)]
                  have H9 := Lib.hid hst9
                  have H8 := Lib.hid hst8
                  have H0 := Lib.hid hst0
                  clear e1 hok hs0 hy hm hst9 hst8 hst0
                  by_cases hxy : x0 ≤ y
                  · have hh := H9.out hxy
                    have HH := Lib.hid (fst_hit (n := n) HQ.out hlt (by rw [hh]; decide))
                    have HH9 := Lib.hid hh
                    have dxy : decide (x0 ≤ y) = true := decide_eq_true hxy
                    clear hh
                    go_wp2_with fail
                    go_quiet (fail)
                    go_wp2_with fail
                    go_ret2
                    rw [HG.out, HH.out, if_pos hlt, HH9.out]
                    exact ⟨rfl, by
                      have hf := HB1.out.trans (HW2.out.mono HB1.out.size)
                      repeat (first | (with_reducible exact hf) | (with_reducible refine Below.drew ?_) | (with_reducible refine below_drewNs ?_))⟩
                  · have dxy : decide (x0 ≤ y) = false := decide_eq_false hxy
                    by_cases hfar : (20000 : Int) < x0 - s0
                    · have hh := H8.out hxy hfar
                      have HH := Lib.hid (fst_hit (n := n) HQ.out hlt (by rw [hh]; decide))
                      have HH9 := Lib.hid hh
                      clear hh
                      go_wp2_with fail
                      go_quiet (fail)
                      go_wp2_with fail
                      go_quiet (fail)
                      go_wp2_with fail
                      go_ret2
                      rw [HG.out, HH.out, if_pos hlt, HH9.out]
                      exact ⟨rfl, by
                        have hf := HB1.out.trans (HW2.out.mono HB1.out.size)
                        repeat (first | (with_reducible exact hf) | (with_reducible refine Below.drew ?_) | (with_reducible refine below_drewNs ?_))⟩
                    · have hh := H0.out hxy hfar
                      have HH9 := Lib.hid hh
                      clear hh
                      go_wp2_with fail
                      go_quiet (fail)
                      go_wp2_with fail
                      go_quiet (fail)
                      go_wp2_with fail
                      go_roundw
                      case rel => exact ⟨k + 1, by omega, by go_num, fun j hj => by
                        rcases Nat.lt_or_ge j k with g2 | g2
                        · exact HQ.out j g2
                        · obtain rfl : j = k := by omega
                          exact HH9.out, by
                        have hf := HW2.out
                        repeat (first | (with_reducible exact hf) | (with_reducible refine Below.drew ?_) | (with_reducible refine below_drewNs ?_))⟩
                      case measure => simp [intOf]; omega
              · have e1 : stE x0 x1 x2 x3 x4 = 2 := by rw [HT.out, if_neg hok]
                have hh : ste S k = 2 := by unfold ste; rw [if_neg hok]
                have HH := Lib.hid (fst_hit (n := n) HQ.out hlt (by rw [hh]; decide))
                have HH9 := Lib.hid hh
                rw [e1]
                clear e1 hh hok
                go_wp2_with fail
                go_ret2
                rw [HG.out, HH.out, if_pos hlt, HH9.out]
                exact ⟨rfl, by
                  have hf := HB1.out.trans (HW2.out.mono HB1.out.size)
                  repeat (first | (with_reducible exact hf) | (with_reducible refine Below.drew ?_) | (with_reducible refine below_drewNs ?_))⟩
            · go_wp2
              go_ret2
              obtain rfl : k = n := by omega
              rw [HG.out, if_neg (by rw [fst_ok HQ.out]; omega)]
              exact ⟨rfl, HB1.out.trans (HWR.out.mono HB1.out.size)⟩
    · have hbb : inB b 0 100000 = false := by simpa using hbb
      have heq : oce (nmB s) b n S = (0, 2) := by
        unfold oce
        rw [hnm, if_neg (by simp), if_pos (by intro h; rw [inB_t h] at hbb; cases hbb)]
      have HE := Lib.hid heq
      clear heq
      go_enter Try.func21, Try.ntmps21
      go_wp2_with (first
        | (go_at_call 80; refine (baseIsName_any s _ HSZ.out).mono ?_; rintro e w' ⟨rfl, rfl⟩)
        | (go_at_call 81; refine (refIsError_any _ _).mono ?_; rintro e w' ⟨rfl, rfl⟩))
      go_ret2
      rw [HE.out]
      exact ⟨rfl, hb1⟩
  · have hnm : nmB s = false := by simpa using hnm
    have heq : oce (nmB s) b n S = (0, 4) := by
      unfold oce
      rw [if_pos hnm]
    have HE := Lib.hid heq
    clear heq
    go_enter Try.func21, Try.ntmps21
    go_wp2_with (first
      | (go_at_call 80; refine (baseIsName_any s _ HSZ.out).mono ?_; rintro e w' ⟨rfl, rfl⟩))
    go_ret2
    rw [HE.out]
    exact ⟨rfl, hb1⟩
end Go.Proofs.Ytnaanninmkplfaa
