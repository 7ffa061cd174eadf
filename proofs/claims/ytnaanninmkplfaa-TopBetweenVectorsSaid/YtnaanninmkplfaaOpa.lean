/- Contracts of package orbit: a path's check, its ticks. -/
import Derived.Test.YtnaanninmkplfaaOcl
namespace Go.Proofs.Ytnaanninmkplfaa
open Go.RowKit
set_option maxHeartbeats 200000
set_option maxRecDepth 100000

theorem check_any (s : ByteArray) (b : Int) (A : Option Addr) (n c : Nat) (S : Nat → Nat → Int) (w : World) (hS : St w A n S) (hs : s.size ≤ maxLen) (hn : n ≤ c) (hc : c ≤ maxLen) :
    Calls Try.prog 76 #[.agg #[.string s, .int .i64 b, .slice A n c]] w fun e w' => e = .returned (.int .i64 (oce (nmB s) b n S).2) ∧ Below w.heap.size w w' := by
  have HS := Lib.hid (hS.alloc (.cells #[.string s, .int .i64 b, .slice A n c] 126))
  have H1 := Lib.hid hs
  have H2 := Lib.hid hn
  have H3 := Lib.hid hc
  clear hS hs hn hc
  go_enter Try.func76, Try.ntmps76
  go_wp2_with fail
  refine (checkOrbit_any s b A n c S _ HS.out H1.out H2.out H3.out).mono ?_
  rintro e w1 ⟨rfl, hb1⟩
  have hB : Below w.heap.size w w1 := (below_new (Below.refl _ w) (Nat.le_refl _)).trans (hb1.mono (by simp))
  clear hb1
  go_wp2
  go_ret
  exact ⟨rfl, hB⟩

theorem first_any (s : ByteArray) (b : Int) (A : Option Addr) (n c : Nat) (S : Nat → Nat → Int) (w : World) (hS : St w A n S) (hn : 0 < n) :
    Calls Try.prog 136 #[.agg #[.string s, .int .i64 b, .slice A n c]] w fun e w' => e = .returned (.int .i64 (S 0 0)) ∧ Below w.heap.size w w' := by
  obtain ⟨bk, off, rfl, hbk, hc⟩ := (hS.alloc (.cells #[.string s, .int .i64 b, .slice A n c] 126)).at hn
  have k0 := (hc 0 hn).1
  rw [show off + 0 * 5 = off by omega] at k0
  obtain ⟨x, hx⟩ : ∃ x, x = S 0 0 := ⟨_, rfl⟩
  rw [← hx] at k0 ⊢
  clear hS hc hx
  go_enter Try.func136, Try.ntmps136
  go_wp2
  go_ret
  exact ⟨rfl, below_new (Below.refl _ w) (Nat.le_refl _)⟩

theorem last_any (s : ByteArray) (b : Int) (A : Option Addr) (n c : Nat) (S : Nat → Nat → Int) (w : World) (hS : St w A n S) (hn : 0 < n) (hm : n ≤ maxLen) :
    Calls Try.prog 138 #[.agg #[.string s, .int .i64 b, .slice A n c]] w fun e w' => e = .returned (.int .i64 (S (n - 1) 0)) ∧ Below w.heap.size w w' := by
  obtain ⟨bk, off, rfl, hbk, hc⟩ := (hS.alloc (.cells #[.string s, .int .i64 b, .slice A n c] 126)).at hn
  obtain ⟨m, hmm⟩ : ∃ m, n = m + 1 := ⟨n - 1, by omega⟩
  have k0 := (hc m (by omega)).1
  obtain ⟨x, hx⟩ : ∃ x, x = S (n - 1) 0 := ⟨_, rfl⟩
  rw [show m = n - 1 by omega, ← hx, show n - 1 = m by omega] at k0
  rw [← hx]
  unfold maxLen at hm
  have i1 : (0 : Int) ≤ (m : Int) := by omega
  have i2 : (m : Int) < (n : Int) := by omega
  have w1 : IntKind.i64.wrap ((n : Int) - 1) = (m : Int) := by rw [IntWalk.i64_in _ (by omega)]; omega
  clear hS hc hx hmm
  go_enter Try.func138, Try.ntmps138
  go_wp2
  go_ret
  exact ⟨rfl, below_new (Below.refl _ w) (Nat.le_refl _)⟩

def hasB (S : Nat → Nat → Int) (n : Nat) (t : Int) : Bool := decide (0 < n) && inB t (S 0 0) (S (n - 1) 0)

theorem has_any (s : ByteArray) (b : Int) (A : Option Addr) (n c : Nat) (S : Nat → Nat → Int) (t : Int) (w : World) (hS : St w A n S) (hm : n ≤ maxLen) :
    Calls Try.prog 126 #[.agg #[.string s, .int .i64 b, .slice A n c], .int .i64 t] w fun e w' => e = .returned (.bool (hasB S n t)) ∧ Below w.heap.size w w' := by
  rcases Nat.eq_zero_or_pos n with h0 | h0
  · subst h0
    have e1 : hasB S 0 t = false := rfl
    have HE := Lib.hid e1
    clear e1 hS
    go_enter Try.func126, Try.ntmps126
    go_wp2_with fail
    go_quiet (fail)
    go_wp2
    go_ret
    rw [HE.out]
    exact ⟨rfl, by
      repeat (first | (with_reducible exact Below.refl _ _) | (with_reducible refine Below.drew ?_) | (with_reducible refine below_drewNs ?_) | (with_reducible refine below_new ?_ (by first | omega | (simp; done) | (simp; omega))))⟩
  · have e1 : hasB S n t = inB t (S 0 0) (S (n - 1) 0) := by unfold hasB; rw [decide_eq_true h0, Bool.true_and]
    have HE := Lib.hid e1
    have d1 : decide ((0 : Int) < (n : Int)) = true := decide_eq_true (by omega)
    have HS := Lib.hid (hS.alloc (.cells #[.string s, .int .i64 b, .slice A n c] 126))
    have HM := Lib.hid hm
    have H0 := Lib.hid h0
    clear e1 hS hm
    go_enter Try.func126, Try.ntmps126
    go_wp2_with fail
    have hA := At.new w 126 #[.string s, .int .i64 b, .slice A n c]
    have hb1 : Below w.heap.size w _ := below_new (Below.refl _ w) (Nat.le_refl _) (o := .cells #[.string s, .int .i64 b, .slice A n c] 126)
    generalize hW1 : w.alloc (.cells #[.string s, .int .i64 b, .slice A n c] 126) = W1 at hA hb1 HS ⊢
    have hSS : ∀ W, Below W1.heap.size W1 W → W.cell? ⟨w.heap.size, 0, none⟩ = some (.string s) ∧ W.cell? ⟨w.heap.size, 1, none⟩ = some (.int .i64 b) ∧ W.cell? ⟨w.heap.size, 2, none⟩ = some (.slice A n c) := fun W hW => by
      have q := hA.keep hW
      exact ⟨q.cell 0, q.cell 1, q.cell 2⟩
    have hP1 : ∀ W, Below W1.heap.size W1 W → Calls Try.prog 136 #[.agg #[.string s, .int .i64 b, .slice A n c]] W fun e w' => e = .returned (.int .i64 (S 0 0)) ∧ Below W1.heap.size W1 w' ∧
        w'.cell? ⟨w.heap.size, 0, none⟩ = some (.string s) ∧ w'.cell? ⟨w.heap.size, 1, none⟩ = some (.int .i64 b) ∧ w'.cell? ⟨w.heap.size, 2, none⟩ = some (.slice A n c) := by
      intro W hW
      refine (first_any s b A n c S W (HS.out.below hW) H0.out).mono ?_
      rintro e w' ⟨rfl, hb⟩
      have hB := hW.trans (hb.mono hW.size)
      exact ⟨rfl, hB, hSS _ hB⟩
    have hP2 : ∀ W, Below W1.heap.size W1 W → Calls Try.prog 138 #[.agg #[.string s, .int .i64 b, .slice A n c]] W fun e w' => e = .returned (.int .i64 (S (n - 1) 0)) ∧ Below W1.heap.size W1 w' ∧
        w'.cell? ⟨w.heap.size, 0, none⟩ = some (.string s) ∧ w'.cell? ⟨w.heap.size, 1, none⟩ = some (.int .i64 b) ∧ w'.cell? ⟨w.heap.size, 2, none⟩ = some (.slice A n c) := by
      intro W hW
      refine (last_any s b A n c S W (HS.out.below hW) H0.out HM.out).mono ?_
      rintro e w' ⟨rfl, hb⟩
      have hB := hW.trans (hb.mono hW.size)
      exact ⟨rfl, hB, hSS _ hB⟩
    obtain ⟨s0, s1, s2⟩ := hSS W1 (Below.refl _ _)
    have HP1 := Lib.hid hP1
    have HP2 := Lib.hid hP2
    have HB := Lib.hid hb1
    clear hP1 hP2 hb1 hSS hA hW1
    go_region_held3 (fun w' => w'.cell? ⟨w.heap.size, 0, none⟩ = some (.string s) ∧ w'.cell? ⟨w.heap.size, 1, none⟩ = some (.int .i64 b) ∧ w'.cell? ⟨w.heap.size, 2, none⟩ = some (.slice A n c)) (go_keep)
      (first
        | (go_at_call 136; refine (HP1.out _ ?_).mono ?_; (repeat (first | assumption | (with_reducible exact Below.refl _ _) | (with_reducible refine Below.drew ?_) | (with_reducible refine below_drewNs ?_))); rintro e w4 ⟨rfl, hb4, hs0, hs1, hs2⟩)
        | (go_at_call 138; refine (HP2.out _ ?_).mono ?_; (repeat (first | assumption | (with_reducible exact Below.refl _ _) | (with_reducible refine Below.drew ?_) | (with_reducible refine below_drewNs ?_))); rintro e w5 ⟨rfl, hb5, ht0, ht1, ht2⟩)
        | (go_at_call 106; refine (within_any _ _ _ _).mono ?_; rintro e w' ⟨rfl, rfl⟩))
    go_wp2
    go_ret
    rw [HE.out]
    exact ⟨rfl, by first | exact HB.out.trans (hb5.mono HB.out.size) | exact (HB.out.trans (hb5.mono HB.out.size)).drew⟩
end Go.Proofs.Ytnaanninmkplfaa
