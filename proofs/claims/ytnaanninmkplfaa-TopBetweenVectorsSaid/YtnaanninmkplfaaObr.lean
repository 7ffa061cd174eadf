/- Contract: which orbits are brief. -/
import Derived.Test.YtnaanninmkplfaaOrf
import Derived.BigQuiet
namespace Go.Proofs.Ytnaanninmkplfaa
open Go.RowKit
set_option maxHeartbeats 800000
set_option maxRecDepth 100000

def briefB (s : ByteArray) (b : Int) (n : Nat) (S : Nat → Nat → Int) : Bool := fewB s n && ((oce (nmB s) b n S).2 != 0 || decide (S (n - 1) 0 - S 0 0 ≤ 200))
theorem brief_any (s : ByteArray) (b : Int) (A : Option Addr) (n c : Nat) (S : Nat → Nat → Int) (w : World) (hS : St w A n S) (hs : s.size ≤ maxLen) (hn : n ≤ c) (hc : c ≤ maxLen) :
    Calls Try.prog 39 #[.agg #[.string s, .int .i64 b, .slice A n c]] w fun e w' => e = .returned (.bool (briefB s b n S)) ∧ Below w.heap.size w w' := by
  have HA := Lib.hid (At.new w 24 #[.string s, .int .i64 b, .slice A n c])
  have HB : Hid (Below w.heap.size w (w.alloc (.cells #[.string s, .int .i64 b, .slice A n c] 24))) := below_new (Below.refl _ w) (Nat.le_refl _)
  have HS1 := Lib.hid (hS.alloc (.cells #[.string s, .int .i64 b, .slice A n c] 24))
  obtain ⟨x, hx⟩ : ∃ x, x = (oce (nmB s) b n S).2 := ⟨_, rfl⟩
  have F2 : Hid (∀ X : World, St X A n S → Calls Try.prog 29 #[.agg #[.string s, .int .i64 b, .slice A n c]] X fun e w' => e = .returned (.int .i64 x) ∧ Below X.heap.size X w') := fun X hX => by
    rw [hx]
    exact refErr_any s b A n c S X hX hs hn hc
  have F1 : Hid (∀ X : World, Calls Try.prog 17 #[.agg #[.string s, .int .i64 b, .slice A n c]] X fun e w' => e = .returned (.bool (fewB s n)) ∧ Below X.heap.size X w') := fun X => few_any s b A n c X
  have HNC := Lib.hid (Nat.le_trans hn hc)
  have HX := Lib.hid hx
  have hres : briefB s b n S = (fewB s n && (x != 0 || decide (S (n - 1) 0 - S 0 0 ≤ 200))) := by rw [hx]; rfl
  have HRES := Lib.hid hres
  generalize fewB s n = p at F1 HRES
  clear hS hs hn hc hres hx
  cases p
  · have hres3 : briefB s b n S = false := by rw [HRES.out]; rfl
    clear HRES
    have HRES := Lib.hid hres3
    clear hres3
    go_enter Try.func39, Try.ntmps39
    go_wp2_with fail
    generalize hW1 : w.alloc (.cells #[.string s, .int .i64 b, .slice A n c] 24) = W1 at HA HB HS1 ⊢
    clear hW1
    have c0 := HA.out.cell 0
    have c1 := HA.out.cell 1
    have c2 := HA.out.cell 2
    simp at c0 c1 c2
    have k0 := cell_regrown c0
    have k1 := cell_regrown c1
    have k2 := cell_regrown c2
    have C1 := Lib.hid (met (w := W1) (fun X _ => F1.out X))
    have C2 := Lib.hid (met (w := W1) (fun X hX => F2.out X (HS1.out.below hX)))
    clear c0 c1 c2
    refine wp_region_quiet_below (by kernel_rfl) (by kernel_rfl) ?_
    repeat (go_big_quiet_step (first | (with_reducible exact C1.out _ _) | (with_reducible exact C2.out _ _)))
    refine wpQuiet_nil ?_
    intro _ hw'
    obtain ⟨⟨dq, osq⟩, hw''⟩ := hw'
    subst hw''
    have hb3 := below_regrown W1 dq osq
    go_wp2
    go_ret
    refine ⟨?_, HB.out.trans (hb3.mono HB.out.size)⟩
    rw [HRES.out]
    rfl
  · by_cases h0 : x = 0
    · have hR : Right S n b := by
        refine (oce_zero (nm := nmB s) ?_).2
        rw [← HX.out]
        exact h0
      have hn0 : 0 < n := by have := hR.1; omega
      have a1 := (hR.2.2.2.1 0 hn0).1
      have a2 := (hR.2.2.2.1 (n - 1) (by omega)).1
      have HF3 : Hid (∀ X : World, St X A n S → Calls Try.prog 46 #[.agg #[.string s, .int .i64 b, .slice A n c]] X fun e w' => e = .returned (.int .i64 (S 0 0)) ∧ Below X.heap.size X w') := fun X hX => refFirst_any s b A n c S X hX hn0
      have HF4 : Hid (∀ X : World, St X A n S → Calls Try.prog 47 #[.agg #[.string s, .int .i64 b, .slice A n c]] X fun e w' => e = .returned (.int .i64 (S (n - 1) 0)) ∧ Below X.heap.size X w') := fun X hX => refLast_any s b A n c S X hX hn0 HNC.out
      have hres2 : briefB s b n S = decide (S (n - 1) 0 - S 0 0 ≤ 200) := by rw [HRES.out, h0]; rfl
      have HRES2 := Lib.hid hres2
      have d0 : (x != 0) = false := by rw [h0]; rfl
      generalize S (n - 1) 0 = y at *
      generalize S 0 0 = z at *
      have hw5 : IntKind.i64.wrap (y - z) = y - z := IntWalk.i64_in _ (by omega)
      clear hres2 hR hn0 a1 a2 h0
      go_enter Try.func39, Try.ntmps39
      go_wp2_with fail
      generalize hW1 : w.alloc (.cells #[.string s, .int .i64 b, .slice A n c] 24) = W1 at HA HB HS1 ⊢
      clear hW1
      have c0 := HA.out.cell 0
      have c1 := HA.out.cell 1
      have c2 := HA.out.cell 2
      simp at c0 c1 c2
      have k0 := cell_regrown c0
      have k1 := cell_regrown c1
      have k2 := cell_regrown c2
      have C1 := Lib.hid (met (w := W1) (fun X _ => F1.out X))
      have C2 := Lib.hid (met (w := W1) (fun X hX => F2.out X (HS1.out.below hX)))
      have C3 := Lib.hid (met (w := W1) (fun X hX => HF3.out X (HS1.out.below hX)))
      have C4 := Lib.hid (met (w := W1) (fun X hX => HF4.out X (HS1.out.below hX)))
      clear c0 c1 c2
      refine wp_region_quiet_below (by kernel_rfl) (by kernel_rfl) ?_
      repeat (go_big_quiet_step (first | (with_reducible exact C1.out _ _) | (with_reducible exact C2.out _ _) | (with_reducible exact C3.out _ _) | (with_reducible exact C4.out _ _)))
      refine wpQuiet_nil ?_
      intro _ hw'
      obtain ⟨⟨dq, osq⟩, hw''⟩ := hw'
      subst hw''
      have hb3 := below_regrown W1 dq osq
      go_wp2
      go_ret
      refine ⟨?_, HB.out.trans (hb3.mono HB.out.size)⟩
      rw [HRES2.out]
      rfl
    · have d0 : (x != 0) = true := by simpa using h0
      have hres2 : briefB s b n S = true := by rw [HRES.out, d0]; rfl
      have HRES2 := Lib.hid hres2
      clear hres2 h0
      go_enter Try.func39, Try.ntmps39
      go_wp2_with fail
      generalize hW1 : w.alloc (.cells #[.string s, .int .i64 b, .slice A n c] 24) = W1 at HA HB HS1 ⊢
      clear hW1
      have c0 := HA.out.cell 0
      have c1 := HA.out.cell 1
      have c2 := HA.out.cell 2
      simp at c0 c1 c2
      have k0 := cell_regrown c0
      have k1 := cell_regrown c1
      have k2 := cell_regrown c2
      have C1 := Lib.hid (met (w := W1) (fun X _ => F1.out X))
      have C2 := Lib.hid (met (w := W1) (fun X hX => F2.out X (HS1.out.below hX)))
      clear c0 c1 c2
      refine wp_region_quiet_below (by kernel_rfl) (by kernel_rfl) ?_
      repeat (go_big_quiet_step (first | (with_reducible exact C1.out _ _) | (with_reducible exact C2.out _ _)))
      refine wpQuiet_nil ?_
      intro _ hw'
      obtain ⟨⟨dq, osq⟩, hw''⟩ := hw'
      subst hw''
      have hb3 := below_regrown W1 dq osq
      go_wp2
      go_ret
      refine ⟨?_, HB.out.trans (hb3.mono HB.out.size)⟩
      rw [HRES2.out]
      rfl
end Go.Proofs.Ytnaanninmkplfaa
