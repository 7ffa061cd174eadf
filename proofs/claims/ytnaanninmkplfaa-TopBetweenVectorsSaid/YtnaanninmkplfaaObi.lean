/- Contracts of package orbit: the binary search among states. -/
import Derived.Test.YtnaanninmkplfaaOnu
namespace Go.Proofs.Ytnaanninmkplfaa
open Go.RowKit
set_option maxHeartbeats 200000
set_option maxRecDepth 100000

theorem closM_any (x0 x1 x2 x3 x4 t : Int) (w : World) (h : 0 ≤ x0 ∧ x0 ≤ 1000000000) (ht : 0 ≤ t ∧ t ≤ 1000000000) :
    Calls Try.prog 142 #[.agg #[.int .i64 x0, .int .i64 x1, .int .i64 x2, .int .i64 x3, .int .i64 x4], .int .i64 t] w fun e w' => e = .returned (.int .i64 (x0 - t)) ∧ Below w.heap.size w w' := by
  obtain ⟨h1, h2⟩ := h
  obtain ⟨h3, h4⟩ := ht
  have w1 : IntKind.i64.wrap (x0 - t) = x0 - t := IntWalk.i64_in _ (by omega)
  go_enter Try.func142, Try.ntmps142
  go_wp2
  go_ret
  exact ⟨rfl, below_new (Below.refl _ w) (Nat.le_refl _)⟩

def BS (S : Nat → Nat → Int) (m : Nat) (t : Int) (w : World) (e : Ending) (w' : World) : Prop :=
  ∃ (r : Nat) (f : Bool), e = .returned (.tuple #[.int .i64 (r : Int), .bool f]) ∧ r ≤ m ∧ (∀ i, i < r → S i 0 < t) ∧ (∀ i, r ≤ i → i < m → t ≤ S i 0) ∧ Below w.heap.size w w'

theorem bsearch_any (A : Option Addr) (m c : Nat) (S : Nat → Nat → Int) (t : Int) (w : World) (hS : St w A m S) (hm : m ≤ 1000) (ha : ∀ i j, i ≤ j → j < m → S i 0 ≤ S j 0) (hb : ∀ i, i < m → 0 ≤ S i 0 ∧ S i 0 ≤ 1000000000) (ht : 0 ≤ t ∧ t ≤ 1000000000) :
    Calls Try.prog 141 #[.slice A m c, .int .i64 t, .func (.func 142) #[] #[]] w (BS S m t w) := by
  have HS := Lib.hid hS
  have HA := Lib.hid ha
  have HB := Lib.hid hb
  clear hS ha hb
  go_enter Try.func141, Try.ntmps141
  go_wp2
  go_loopw [9, 10] (fun i j wr => ∃ p q : Nat, p ≤ q ∧ q ≤ m ∧ i = .int .i64 (p : Int) ∧ j = .int .i64 (q : Int) ∧ (∀ k, k < p → S k 0 < t) ∧ (∀ k, q ≤ k → k < m → t ≤ S k 0) ∧ Below w.heap.size w wr) (fun i j _ => (intOf j).toNat - (intOf i).toNat)
  case atStart => exact ⟨0, m, Nat.zero_le _, Nat.le_refl _, rfl, rfl, fun k hk => absurd hk (by omega), fun k h1 h2 => absurd h1 (by omega), Below.refl _ _⟩
  case round =>
    obtain ⟨p, q, hpq, hq, rfl, rfl, h1, h2, hwr⟩ := hrel
    have H1 := Lib.hid h1
    have H2 := Lib.hid h2
    have HW := Lib.hid hwr
    clear h1 h2 hwr
    by_cases hlt : p < q
    · have hp1 : p ≤ (p + q) / 2 := by omega
      have hp2 : (p + q) / 2 < q := by omega
      obtain ⟨bk, off, rfl, hbk, hc⟩ := (HS.out.below HW.out).at (by omega)
      obtain ⟨k0, k1, k2, k3, k4⟩ := hc ((p + q) / 2) (by omega)
      have hr := HB.out ((p + q) / 2) (by omega)
      obtain ⟨x0, hx0⟩ : ∃ x, x = S ((p + q) / 2) 0 := ⟨_, rfl⟩
      obtain ⟨x1, hx1⟩ : ∃ x, x = S ((p + q) / 2) 1 := ⟨_, rfl⟩
      obtain ⟨x2, hx2⟩ : ∃ x, x = S ((p + q) / 2) 2 := ⟨_, rfl⟩
      obtain ⟨x3, hx3⟩ : ∃ x, x = S ((p + q) / 2) 3 := ⟨_, rfl⟩
      obtain ⟨x4, hx4⟩ : ∃ x, x = S ((p + q) / 2) 4 := ⟨_, rfl⟩
      rw [← hx0] at k0 hr
      rw [← hx1] at k1
      rw [← hx2] at k2
      rw [← hx3] at k3
      rw [← hx4] at k4
      have HX := Lib.hid hx0
      have u0 : (0 : Int) ≤ (p : Int) + (q : Int) := by omega
      have u1 : (p : Int) + (q : Int) ≤ 2000 := by omega
      clear hc hx0 hx1 hx2 hx3 hx4
      by_cases hs : x0 - t < 0
      · go_wp2_with (go_at_call 142; refine (closM_any x0 x1 x2 x3 x4 t _ hr ht).mono ?_; rintro e w1 ⟨rfl, hb1⟩)
        go_roundw
        case rel => exact ⟨(p + q) / 2 + 1, q, by omega, hq, by show Value.int .i64 _ = .int .i64 _; congr 1, rfl, fun k hk => by
          have := HA.out k ((p + q) / 2) (by omega) (by omega)
          rw [← HX.out] at this
          omega, H2.out, HW.out.trans (hb1.mono HW.out.size)⟩
        case measure => simp [intOf]; omega
      · go_wp2_with (go_at_call 142; refine (closM_any x0 x1 x2 x3 x4 t _ hr ht).mono ?_; rintro e w1 ⟨rfl, hb1⟩)
        go_roundw
        case rel => exact ⟨p, (p + q) / 2, by omega, by omega, rfl, by show Value.int .i64 _ = .int .i64 _; congr 1, H1.out, fun k h1 h2 => by
          have := HA.out ((p + q) / 2) k h1 h2
          rw [← HX.out] at this
          omega, HW.out.trans (hb1.mono HW.out.size)⟩
        case measure => simp [intOf]; omega
    · obtain rfl : p = q := by omega
      by_cases hpm : p < m
      · obtain ⟨bk, off, rfl, hbk, hc⟩ := (HS.out.below HW.out).at (by omega)
        obtain ⟨k0, k1, k2, k3, k4⟩ := hc p hpm
        have hr := HB.out p hpm
        obtain ⟨x0, hx0⟩ : ∃ x, x = S p 0 := ⟨_, rfl⟩
        obtain ⟨x1, hx1⟩ : ∃ x, x = S p 1 := ⟨_, rfl⟩
        obtain ⟨x2, hx2⟩ : ∃ x, x = S p 2 := ⟨_, rfl⟩
        obtain ⟨x3, hx3⟩ : ∃ x, x = S p 3 := ⟨_, rfl⟩
        obtain ⟨x4, hx4⟩ : ∃ x, x = S p 4 := ⟨_, rfl⟩
        rw [← hx0] at k0 hr
        rw [← hx1] at k1
        rw [← hx2] at k2
        rw [← hx3] at k3
        rw [← hx4] at k4
        have u2 : (0 : Int) ≤ (p : Int) := by omega
        have u3 : (p : Int) < (m : Int) := by omega
        have d3 : decide ((p : Int) < (m : Int)) = true := decide_eq_true u3
        clear hc hx0 hx1 hx2 hx3 hx4
        go_wp2_with (go_at_call 142; refine (closM_any x0 x1 x2 x3 x4 t _ hr ht).mono ?_; rintro e w1 ⟨rfl, hb1⟩)
        go_ret2
        exact ⟨p, _, rfl, hq, H1.out, H2.out, HW.out.trans (hb1.mono HW.out.size)⟩
      · have d3 : decide ((p : Int) < (m : Int)) = false := decide_eq_false (by omega)
        go_wp2
        go_ret2
        exact ⟨p, _, rfl, hq, H1.out, H2.out, HW.out⟩
end Go.Proofs.Ytnaanninmkplfaa
