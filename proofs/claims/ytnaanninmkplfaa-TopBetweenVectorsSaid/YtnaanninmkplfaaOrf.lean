/- Contracts: the base's quotients; the reference's first, last tick, whether it has a tick; a law's error of a tick. -/
import Derived.Test.YtnaanninmkplfaaOfe
import Derived.Test.YtnaanninmkplfaaOrq
import Derived.Test.YtnaanninmkplfaaOba
namespace Go.Proofs.Ytnaanninmkplfaa
open Go.RowKit
set_option maxHeartbeats 400000
set_option maxRecDepth 100000

theorem floor_any (a b : Int) (w : World) (hb : 0 < b) (hb2 : b ≤ 4611686018427387904) (ha : -4611686018427387904 ≤ a ∧ a ≤ 4611686018427387904) :
    Calls Try.prog 49 #[.int .i64 a, .int .i64 b] w fun e w' => e = .returned (.int .i64 (a / b)) ∧ w = w' := by
  have HF := Lib.hid (flo_eq (a := a) hb)
  obtain ⟨q1, q2⟩ := tdiv_range hb ha
  obtain ⟨r1, r2⟩ := tmod_range (a := a) hb
  have hne : ¬ b = 0 := by omega
  have wq : IntKind.i64.wrap (a.tdiv b) = a.tdiv b := IntWalk.i64_in _ (by omega)
  have wr : IntKind.i64.wrap (a.tmod b) = a.tmod b := IntWalk.i64_in _ (by omega)
  by_cases h : a.tmod b < 0
  · have hv : flo a b = a.tdiv b - 1 := by unfold flo; rw [if_pos h]
    have HV := Lib.hid hv
    clear hv
    go_enter Try.func49, Try.ntmps49
    go_wp2
    go_ret
    rw [← HF.out, HV.out]
    exact ⟨rfl, rfl⟩
  · have hv : flo a b = a.tdiv b := by unfold flo; rw [if_neg h]
    have HV := Lib.hid hv
    clear hv
    go_enter Try.func49, Try.ntmps49
    go_wp2
    go_ret
    rw [← HF.out, HV.out]
    exact ⟨rfl, rfl⟩

theorem refFirst_any (s : ByteArray) (b : Int) (A : Option Addr) (n c : Nat) (S : Nat → Nat → Int) (w : World) (hS : St w A n S) (hn : 0 < n) :
    Calls Try.prog 46 #[.agg #[.string s, .int .i64 b, .slice A n c]] w fun e w' => e = .returned (.int .i64 (S 0 0)) ∧ Below w.heap.size w w' := by
  obtain ⟨bk, off, rfl, hbk, hc⟩ := (hS.alloc (.cells #[.string s, .int .i64 b, .slice A n c] 24)).at hn
  have k0 := (hc 0 hn).1
  rw [show off + 0 * 5 = off by omega] at k0
  obtain ⟨x, hx⟩ : ∃ x, x = S 0 0 := ⟨_, rfl⟩
  rw [← hx] at k0 ⊢
  clear hS hc hx
  go_enter Try.func46, Try.ntmps46
  go_wp2
  go_ret
  exact ⟨rfl, below_new (Below.refl _ w) (Nat.le_refl _)⟩

theorem refLast_any (s : ByteArray) (b : Int) (A : Option Addr) (n c : Nat) (S : Nat → Nat → Int) (w : World) (hS : St w A n S) (hn : 0 < n) (hm : n ≤ maxLen) :
    Calls Try.prog 47 #[.agg #[.string s, .int .i64 b, .slice A n c]] w fun e w' => e = .returned (.int .i64 (S (n - 1) 0)) ∧ Below w.heap.size w w' := by
  obtain ⟨bk, off, rfl, hbk, hc⟩ := (hS.alloc (.cells #[.string s, .int .i64 b, .slice A n c] 24)).at hn
  obtain ⟨m, hmm⟩ : ∃ m, n = m + 1 := ⟨n - 1, by omega⟩
  have k0 := (hc m (by omega)).1
  obtain ⟨x, hx⟩ : ∃ x, x = S (n - 1) 0 := ⟨_, rfl⟩
  rw [show m = n - 1 by omega, ← hx, show n - 1 = m by omega] at k0
  rw [← hx]
  unfold maxLen at hm
  have i1 : (0 : Int) ≤ (m : Int) := by omega
  have i2 : (m : Int) < (n : Int) := by omega
  have w1 : IntKind.i64.wrap ((n : Int) - 1) = (m : Int) := by rw [IntWalk.i64_in _ (by omega)]; omega
  clear hS hc hx hmm
  go_enter Try.func47, Try.ntmps47
  go_wp2
  go_ret
  exact ⟨rfl, below_new (Below.refl _ w) (Nat.le_refl _)⟩

theorem met_same {P : Program} {f : FuncId} {args : Array Value} {w : World} {v : Value}
    (h : ∀ W, Calls P f args W fun e w' => e = .returned v ∧ W = w') (d : Nat) (os : Array Obj) :
    Calls P f args (Go.Sort.grow (redrawn w d) os) fun e w'' => e = .returned v ∧ ∃ p : Regrown, w'' = Go.Sort.grow (redrawn w p.d) p.os :=
  (h _).mono fun _ _ ⟨he, hw⟩ => ⟨he, ⟨d, os⟩, hw.symm⟩

theorem refHas_any (s : ByteArray) (b : Int) (A : Option Addr) (n c : Nat) (S : Nat → Nat → Int) (t : Int) (w : World) (hS : St w A n S) (hn : 0 < n) (hm : n ≤ maxLen) :
    Calls Try.prog 60 #[.agg #[.string s, .int .i64 b, .slice A n c], .int .i64 t] w fun e w' => e = .returned (.bool (inB t (S 0 0) (S (n - 1) 0))) ∧ Below w.heap.size w w' := by
  obtain ⟨x, hx⟩ : ∃ x, x = S 0 0 := ⟨_, rfl⟩
  obtain ⟨y, hy⟩ : ∃ x, x = S (n - 1) 0 := ⟨_, rfl⟩
  have hC1 : ∀ X, Below (w.alloc (.cells #[.string s, .int .i64 b, .slice A n c] 24)).heap.size (w.alloc (.cells #[.string s, .int .i64 b, .slice A n c] 24)) X → Calls Try.prog 46 #[.agg #[.string s, .int .i64 b, .slice A n c]] X fun e w' => e = .returned (.int .i64 x) ∧ Below X.heap.size X w' := fun X hX => by
    rw [hx]
    exact refFirst_any s b A n c S X ((hS.alloc _).below hX) hn
  have hC2 : ∀ X, Below (w.alloc (.cells #[.string s, .int .i64 b, .slice A n c] 24)).heap.size (w.alloc (.cells #[.string s, .int .i64 b, .slice A n c] 24)) X → Calls Try.prog 47 #[.agg #[.string s, .int .i64 b, .slice A n c]] X fun e w' => e = .returned (.int .i64 y) ∧ Below X.heap.size X w' := fun X hX => by
    rw [hy]
    exact refLast_any s b A n c S X ((hS.alloc _).below hX) hn hm
  rw [← hx, ← hy]
  have hA := At.new w 24 #[.string s, .int .i64 b, .slice A n c]
  have hB : Below w.heap.size w (w.alloc (.cells #[.string s, .int .i64 b, .slice A n c] 24)) := below_new (Below.refl _ w) (Nat.le_refl _)
  have HA := Lib.hid hA
  have HB := Lib.hid hB
  have CQ1 := Lib.hid hC1
  have CQ2 := Lib.hid hC2
  clear hC1 hC2 hx hy hS hA hB
  go_enter Try.func60, Try.ntmps60
  go_wp2_with fail
  generalize hW1 : w.alloc (.cells #[.string s, .int .i64 b, .slice A n c] 24) = W1 at HA HB CQ1 CQ2 ⊢
  have c0 := HA.out.cell 0
  have c1 := HA.out.cell 1
  have c2 := HA.out.cell 2
  simp at c0 c1 c2
  have k0 := cell_regrown c0
  have k1 := cell_regrown c1
  have k2 := cell_regrown c2
  have CR1 := Lib.hid (met CQ1.out)
  have CR2 := Lib.hid (met CQ2.out)
  clear hW1 c0 c1 c2
  refine wp_region_quiet_below (by kernel_rfl) (by kernel_rfl) ?_
  repeat (quiet_step (first | exact CR1.out _ _ | exact CR2.out _ _ | exact met_same (fun W => baseWithin_any _ _ _ W) _ _))
  refine wpQuiet_nil ?_
  intro _ hw'
  obtain ⟨⟨dq, osq⟩, hw''⟩ := hw'
  subst hw''
  have hb3 := below_regrown W1 dq osq
  go_wp2
  go_ret
  exact ⟨rfl, HB.out.trans (hb3.mono HB.out.size)⟩

/-- the error of an orbit and a tick, as a law tells it -/
theorem tickErr_any (s : ByteArray) (b : Int) (A : Option Addr) (n c : Nat) (S : Nat → Nat → Int) (t : Int) (w : World) (hS : St w A n S) (hs : s.size ≤ maxLen) (hn : n ≤ c) (hc : c ≤ maxLen) :
    Calls Try.prog 26 #[.agg #[.string s, .int .i64 b, .slice A n c], .int .i64 t] w fun e w' => e = .returned (.int .i64 (e2 (nmB s) b n S t)) ∧ Below w.heap.size w w' := by
  have hA := At.new w 24 #[.string s, .int .i64 b, .slice A n c]
  have hS1 := hS.alloc (.cells #[.string s, .int .i64 b, .slice A n c] 24)
  have HA := Lib.hid hA
  have HS1 := Lib.hid hS1
  have H1 := Lib.hid hs
  have HN := Lib.hid hn
  have HC := Lib.hid hc
  have he : e2 (nmB s) b n S t = if (oce (nmB s) b n S).2 = 0 then eif (!hasB S n t) 2 else (oce (nmB s) b n S).2 := by unfold e2; rw [fe_two]
  have HE := Lib.hid he
  clear hA hS hS1 hs hn hc he
  go_enter Try.func26, Try.ntmps26
  go_wp2_with fail
  refine (refErr_any s b A n c S _ HS1.out H1.out HN.out HC.out).mono ?_
  rintro e w1 ⟨rfl, hb1⟩
  have hA1 := HA.out.keep hb1
  have c0 := hA1.cell 0
  have c1 := hA1.cell 1
  have c2 := hA1.cell 2
  simp at c0 c1 c2
  have HB1 := Lib.hid hb1
  have hBB : Below w.heap.size w w1 := (below_new (Below.refl _ w) (Nat.le_refl _)).trans (hb1.mono (by simp))
  have HBB := Lib.hid hBB
  clear hA1 hb1 hBB
  by_cases h0 : (oce (nmB s) b n S).2 = 0
  · have d1 : ((oce (nmB s) b n S).2 != 0) = false := by rw [h0]; rfl
    have hR := (oce_zero h0).2
    have hn0 : 0 < n := by have := hR.1; omega
    have hh : hasB S n t = inB t (S 0 0) (S (n - 1) 0) := by unfold hasB; rw [decide_eq_true hn0, Bool.true_and]
    have hE2 : e2 (nmB s) b n S t = if inB t (S 0 0) (S (n - 1) 0) = true then 0 else 2 := by
      rw [HE.out, if_pos h0, hh]
      cases inB t (S 0 0) (S (n - 1) 0) <;> rfl
    have HE2 := Lib.hid hE2
    have HN0 := Lib.hid hn0
    clear h0 hR hh hE2 hn0
    obtain ⟨q, hq⟩ : ∃ q, q = inB t (S 0 0) (S (n - 1) 0) := ⟨_, rfl⟩
    rw [← hq] at HE2
    go_wp2_with fail
    refine (refHas_any s b A n c S t _ (HS1.out.below HB1.out) HN0.out (Nat.le_trans HN.out HC.out)).mono ?_
    rw [← hq]
    rintro e w2 ⟨rfl, hb2⟩
    have hB2 := HBB.out.trans (hb2.mono HBB.out.size)
    clear hb2 hq
    cases q
    all_goals
      go_wp2
      go_ret
      rw [HE2.out]
      exact ⟨rfl, hB2⟩
  · have d1 : ((oce (nmB s) b n S).2 != 0) = true := by simpa using h0
    have H0 := Lib.hid h0
    clear h0
    go_wp2
    go_ret
    rw [HE.out, if_neg H0.out]
    exact ⟨rfl, HBB.out⟩
end Go.Proofs.Ytnaanninmkplfaa
