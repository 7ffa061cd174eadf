/- The law: whatever the states really were, the nominal places lie in the boxes, and their squares between the squares. -/
import Derived.Test.YtnaanninmkplfaaOin
import Derived.Test.YtnaanninmkplfaaObr
import Derived.Test.YtnaanninmkplfaaOsu
import Derived.Test.YtnaanninmkplfaaOsa
import Derived.Test.YtnaanninmkplfaaTmv
import Derived.Test.YtnaanninmkplfaaTpt
import Derived.Deep.RegionHeld3
namespace Go.Proofs.Ytnaanninmkplfaa
open Go.RowKit
set_option maxHeartbeats 16000000
set_option maxRecDepth 100000

theorem flown_ok (w : World) : Calls Try.prog 67 #[] w fun e w' => e = .returned (.bool true) ∧ Below w.heap.size w w' := by
  go_enter Try.func67, Try.ntmps67
  go_wp2_with fail
  refine (pass_any w).mono ?_
  rintro e w1 ⟨g1, rfl, hs1, hb1⟩
  go_wp2_with fail
  refine (boxAt_any pN 2 _ 2 2 pS 3 w1 hs1 pN_size (by decide) (by decide)).mono ?_
  rw [aw_box]
  rintro e w2 ⟨rfl, hb2⟩
  have hB2 := hb1.trans (hb2.mono hb1.size)
  clear hs1 hb1 hb2
  go_wp2
  go_ret
  exact ⟨rfl, below_new hB2 hB2.size⟩

theorem inBox_ok {x y z l1 h1 l2 h2 l3 h3 : Int} (w : World) (hx : l1 ≤ x ∧ x ≤ h1) (hy : l2 ≤ y ∧ y ≤ h2) (hz : l3 ≤ z ∧ z ≤ h3) :
    Calls Try.prog 68 #[.agg #[.int .i64 x, .int .i64 y, .int .i64 z], .agg #[.int .i64 l1, .int .i64 h1, .int .i64 l2, .int .i64 h2, .int .i64 l3, .int .i64 h3]] w fun e w' => e = .returned (.bool true) ∧ Below w.heap.size w w' := by
  have F1 : Hid (∀ W : World, Calls Try.prog 22 #[.int .i64 x, .int .i64 l1, .int .i64 h1] W fun e w' => e = .returned (.bool true) ∧ W = w') := fun W => by rw [← inB_t hx]; exact baseWithin_any _ _ _ W
  have F2 : Hid (∀ W : World, Calls Try.prog 22 #[.int .i64 y, .int .i64 l2, .int .i64 h2] W fun e w' => e = .returned (.bool true) ∧ W = w') := fun W => by rw [← inB_t hy]; exact baseWithin_any _ _ _ W
  have F3 : Hid (∀ W : World, Calls Try.prog 22 #[.int .i64 z, .int .i64 l3, .int .i64 h3] W fun e w' => e = .returned (.bool true) ∧ W = w') := fun W => by rw [← inB_t hz]; exact baseWithin_any _ _ _ W
  clear hx hy hz
  go_enter Try.func68, Try.ntmps68
  go_wp2_with (first
    | (go_at_call 22; (with_reducible refine (F1.out _).mono ?_); rintro e w' ⟨rfl, rfl⟩)
    | (go_at_call 22; (with_reducible refine (F2.out _).mono ?_); rintro e w' ⟨rfl, rfl⟩)
    | (go_at_call 22; (with_reducible refine (F3.out _).mono ?_); rintro e w' ⟨rfl, rfl⟩))
  go_ret
  exact ⟨rfl, below_new (below_new (Below.refl _ w) (Nat.le_refl _)) (by simp)⟩
theorem sq_tiny {p : Int} (h : -100200000 ≤ p ∧ p ≤ 100200000) : 0 ≤ p * p ∧ p * p ≤ 10040040000000000 := by
  rcases Int.le_total 0 p with h0 | h0
  · have a := Int.mul_le_mul h.2 h.2 h0 (by omega)
    have d := Int.mul_nonneg h0 h0
    omega
  · have a := Int.mul_le_mul (show -p ≤ 100200000 by omega) (show -p ≤ 100200000 by omega) (by omega) (by omega)
    have d := Int.mul_nonneg (show 0 ≤ -p by omega) (show 0 ≤ -p by omega)
    rw [Int.neg_mul_neg] at a d
    omega

theorem place_sums {x y z L H : Int} (hx : -100200000 ≤ x ∧ x ≤ 100200000) (hy : -100200000 ≤ y ∧ y ≤ 100200000) (hz : -100200000 ≤ z ∧ z ≤ 100200000) (q0 : L ≤ x * x + y * y + z * z) (q1 : x * x + y * y + z * z ≤ H) :
    IntKind.i64.wrap (x * x) = x * x ∧ IntKind.i64.wrap (y * y) = y * y ∧ IntKind.i64.wrap (z * z) = z * z ∧ IntKind.i64.wrap (x * x + y * y) = x * x + y * y ∧ IntKind.i64.wrap (x * x + y * y + z * z) = x * x + y * y + z * z ∧ decide (x * x + y * y + z * z < L) = false ∧ decide (H < x * x + y * y + z * z) = false := by
  obtain ⟨a3, a4⟩ := sq_tiny hx
  obtain ⟨a5, a6⟩ := sq_tiny hy
  obtain ⟨a7, a8⟩ := sq_tiny hz
  generalize x * x = u at *
  generalize y * y = v at *
  generalize z * z = s at *
  exact ⟨IntWalk.i64_in _ (by omega), IntWalk.i64_in _ (by omega), IntWalk.i64_in _ (by omega), IntWalk.i64_in _ (by omega), IntWalk.i64_in _ (by omega), decide_eq_false (by omega), decide_eq_false (by omega)⟩

theorem between_all {w : World} {s : ByteArray} {b : Int} {A AP : Option Addr} {n c m cm : Nat} {S Q : Nat → Nat → Int} {x1 x2 x3 : Int} (h : OrbIn w s b A n c S) (hq : Pt w AP m Q) (_hmc : m ≤ cm) (_hcm : cm ≤ maxLen) (_hf : I64 x1 ∧ I64 x2 ∧ I64 x3) :
    Calls Try.prog 15 #[.agg #[.string s, .int .i64 b, .slice A n c], .slice AP m cm, .agg #[.int .i64 x1, .int .i64 x2, .int .i64 x3]] w fun e w' => e = .returned (.bool true) ∧ Below w.heap.size w w' := by
  obtain ⟨hs, hn, hc, _, hS, _, hA0⟩ := h
  have H1 := Lib.hid hs
  have HN := Lib.hid hn
  have HC := Lib.hid hc
  have HNIL := Lib.hid hA0
  have HS := Lib.hid hS
  have HQ := Lib.hid hq
  clear hs hn hc hS hA0 hq
  go_enter Try.func15, Try.ntmps15
  go_wp2_with fail
  have hA0 : At ((w.alloc (.cells #[.string s, .int .i64 b, .slice A n c] 24)).alloc (.cells #[.int .i64 x1, .int .i64 x2, .int .i64 x3] 84)) (w.heap.size) 24 #[.string s, .int .i64 b, .slice A n c] := ((at_new (by simp)).alloc _)
  have hF0 : At ((w.alloc (.cells #[.string s, .int .i64 b, .slice A n c] 24)).alloc (.cells #[.int .i64 x1, .int .i64 x2, .int .i64 x3] 84)) (w.heap.size + 1) 84 #[.int .i64 x1, .int .i64 x2, .int .i64 x3] := (at_new (by simp))
  have hB0 : Below w.heap.size w ((w.alloc (.cells #[.string s, .int .i64 b, .slice A n c] 24)).alloc (.cells #[.int .i64 x1, .int .i64 x2, .int .i64 x3] 84)) := by
    repeat (first | (with_reducible exact Below.refl _ _) | (with_reducible refine below_new ?_ (by first | omega | (simp; done) | (simp; omega))))
  generalize hW0 : ((w.alloc (.cells #[.string s, .int .i64 b, .slice A n c] 24)).alloc (.cells #[.int .i64 x1, .int .i64 x2, .int .i64 x3] 84)) = w0 at hA0 hF0 hB0 ⊢
  clear hW0
  have HA0 := Lib.hid hA0
  have HF0 := Lib.hid hF0
  have HB0 := Lib.hid hB0
  clear hA0 hF0 hB0
  refine (flown_ok _).mono ?_
  rintro e w1 ⟨rfl, hb1⟩
  have hA1 := HA0.out.keep hb1
  have hF1 := HF0.out.keep hb1
  have HB1 := Lib.hid (HB0.out.trans (hb1.mono HB0.out.size))
  clear hb1
  have a0 := hA1.cell 0
  have a1 := hA1.cell 1
  have a2 := hA1.cell 2
  have f0 := hF1.cell 0
  have f1 := hF1.cell 1
  have f2 := hF1.cell 2
  simp at a0 a1 a2 f0 f1 f2
  have HA1 := Lib.hid hA1
  have HF1 := Lib.hid hF1
  clear hA1 hF1
  go_wp2_with fail
  refine (brief_any s b A n c S w1 (HS.out.below HB1.out) H1.out HN.out HC.out).mono ?_
  rintro e w2 ⟨rfl, hb2⟩
  have hA2 := HA1.out.keep hb2
  have hF2 := HF1.out.keep hb2
  have HB2 := Lib.hid (HB1.out.trans (hb2.mono HB1.out.size))
  clear a0 a1 a2 f0 f1 f2 hb2
  have a0 := hA2.cell 0
  have a1 := hA2.cell 1
  have a2 := hA2.cell 2
  have f0 := hF2.cell 0
  have f1 := hF2.cell 1
  have f2 := hF2.cell 2
  simp at a0 a1 a2 f0 f1 f2
  have HA2 := Lib.hid hA2
  have HF2 := Lib.hid hF2
  clear hA2 hF2
  cases hf : briefB s b n S
  case false =>
    go_wp2
    go_ret
    exact ⟨rfl, HB2.out⟩
  case true =>
    have hfew : fewB s n = true := by
      unfold briefB at hf
      rw [Bool.and_eq_true] at hf
      exact hf.1
    have HFW := Lib.hid hfew
    clear hf hfew
    go_wp2_with fail
    refine (refErr_any s b A n c S w2 (HS.out.below HB2.out) H1.out HN.out HC.out).mono ?_
    rintro e w3 ⟨rfl, hb3⟩
    have hA3 := HA2.out.keep hb3
    have hF3 := HF2.out.keep hb3
    have HB3 := Lib.hid (HB2.out.trans (hb3.mono HB2.out.size))
    clear a0 a1 a2 f0 f1 f2 hb3
    have a0 := hA3.cell 0
    have a1 := hA3.cell 1
    have a2 := hA3.cell 2
    have f0 := hF3.cell 0
    have f1 := hF3.cell 1
    have f2 := hF3.cell 2
    simp at a0 a1 a2 f0 f1 f2
    have HA3 := Lib.hid hA3
    have HF3 := Lib.hid hF3
    clear hA3 hF3
    by_cases h0 : (oce (nmB s) b n S).2 = 0
    case neg =>
      have d0 : ((oce (nmB s) b n S).2 != 0) = true := by simpa using h0
      clear h0
      go_wp2
      go_ret
      exact ⟨rfl, HB3.out⟩
    case pos =>
      have HR := Lib.hid (oce_zero h0).2
      have HNM := Lib.hid (oce_zero h0).1
      rw [h0]
      clear h0
      by_cases hm0 : m = 0
      case pos =>
        subst hm0
        go_wp2
        go_ret
        exact ⟨rfl, HB3.out⟩
      case neg =>
      have g0 : ¬ (m : Int) = 0 := by omega
      by_cases hm1 : 50 < m
      case pos =>
        have g1 : (50 : Int) < (m : Int) := by omega
        go_wp2
        go_ret
        exact ⟨rfl, HB3.out⟩
      case neg =>
      have g1 : ¬ (50 : Int) < (m : Int) := by omega
      have e0 : ((m : Int) == 0) = false := by simpa using g0
      have e1 : decide ((50 : Int) < (m : Int)) = false := decide_eq_false g1
      have HM0 := Lib.hid (show 0 < m by omega)
      have HM1 := Lib.hid (show m ≤ 50 by omega)
      clear hm0 hm1
      go_wp2_with fail
      refine (copy_any s b A n c S w3 (HS.out.below HB3.out) (by have := few_size HFW.out; omega) HNIL.out).mono ?_
      rintro e w4 ⟨A4, c4, rfl, hst4, hn4, hc4, hnil4, hown4, hb4⟩
      clear g0 g1 e0 e1
      have hn2 : 2 ≤ n := HR.out.1
      obtain ⟨g, rfl⟩ : ∃ g, A4 = some ⟨g, 0, none⟩ := by
        rcases hown4.2 with ⟨_, h⟩ | ⟨g, cap, cur, h, _⟩
        · omega
        · cases h
          exact ⟨g, rfl⟩
      have HGL := Lib.hid (hown4.lt g rfl)
      have HN4 := Lib.hid hn4
      have HC4 := Lib.hid hc4
      have HOWN4 := Lib.hid hown4
      have hz3 : w3.heap.size ≤ g := HGL.out.1
      clear hst4 hn4 hc4 hnil4 hown4
      have HB34 := Lib.hid hb4
      have hA4 := HA3.out.keep hb4
      have hF4 := HF3.out.keep hb4
      have HB4 := Lib.hid (HB3.out.trans (hb4.mono HB3.out.size))
      clear a0 a1 a2 f0 f1 f2 hb4
      have a0 := hA4.cell 0
      have a1 := hA4.cell 1
      have a2 := hA4.cell 2
      have f0 := hF4.cell 0
      have f1 := hF4.cell 1
      have f2 := hF4.cell 2
      simp at a0 a1 a2 f0 f1 f2
      have HA4 := Lib.hid hA4
      have HF4 := Lib.hid hF4
      clear hA4 hF4
      go_wp2_with fail
      go_loopw [8] (fun i wr => ∃ k : Nat, k ≤ n ∧ i = .int .i64 (k : Int) ∧ At wr w4.heap.size 24 #[.string s, .int .i64 0, .slice (some ⟨g, 0, none⟩) n c4] ∧ wr.ownsRow w3.heap.size 56 5 (.slice (some ⟨g, 0, none⟩) n c4) n (stL (TS S (mvE S Q m) k) n) ∧ Below w3.heap.size w3 wr) (fun i _ => n - (intOf i).toNat)
      case atStart => exact ⟨0, Nat.zero_le _, rfl, At.new w4 _ _, by rw [TS_zero]; exact HOWN4.out.alloc _, below_new HB34.out HB34.out.size⟩
      case round =>
        obtain ⟨k, hk, rfl, hT5, hown5, hb5⟩ := hrel
        obtain ⟨w5, hw5⟩ : ∃ q, q = wr := ⟨_, rfl⟩
        rw [← hw5] at hT5 hown5 hb5 ⊢
        clear hw5 a0 a1 a2 f0 f1 f2
        have t0 := hT5.cell 0
        have t1 := hT5.cell 1
        have t2 := hT5.cell 2
        simp at t0 t1 t2
        have HT5 := Lib.hid hT5
        have HOWN5 := Lib.hid hown5
        have HB35 := Lib.hid hb5
        clear hT5 hown5 hb5
        by_cases hlt : k < n
        · skip
          obtain ⟨y0, z0⟩ := own_cell HOWN5.out hlt (c := 0) (by omega)
          obtain ⟨y1, z1⟩ := own_cell HOWN5.out hlt (c := 1) (by omega)
          obtain ⟨y2, z2⟩ := own_cell HOWN5.out hlt (c := 2) (by omega)
          obtain ⟨y3, z3⟩ := own_cell HOWN5.out hlt (c := 3) (by omega)
          obtain ⟨y4, z4⟩ := own_cell HOWN5.out hlt (c := 4) (by omega)
          rw [TS_past (by omega)] at y0 y1 y2 y3 y4
          simp only [Nat.add_zero] at y0 z0
          obtain ⟨r0, r1, r2, r3, r4⟩ := HR.out.2.2.2.1 k hlt
          have hq5 := HQ.out.below (HB3.out.trans (HB35.out.mono HB3.out.size))
          obtain ⟨bq, oq, hAP, hbq, hcq⟩ := hq5 HM0.out
          have hmo := Mo_range (a := (k : Int)) (m := (m : Int)) (by have := HM0.out; omega)
          obtain ⟨u, hu⟩ : ∃ u : Nat, Mo k m = (u : Int) := ⟨(Mo k m).toNat, by omega⟩
          have hum : u < m := by omega
          have E1 : Hid (mvE S Q m k 1 = Mo (Q u 0) (2 * S k 4 + 1) - S k 4) := by unfold mvE; rw [hu]; rfl
          have E2 : Hid (mvE S Q m k 2 = Mo (Q u 1) (2 * S k 4 + 1) - S k 4) := by unfold mvE; rw [hu]; rfl
          have E3 : Hid (mvE S Q m k 3 = Mo (Q u 2) (2 * S k 4 + 1) - S k 4) := by unfold mvE; rw [hu]; rfl
          have MK : Hid (∀ W : World, Calls Try.prog 48 #[.int .i64 (k : Int), .int .i64 (m : Int)] W fun e w' => e = .returned (.int .i64 (u : Int)) ∧ W = w') := fun W => by rw [← hu]; exact mod_any k m W (by have := HM0.out; omega) (by have := HM1.out; omega)
          have q0 : w5.cell? ⟨bq, oq + u * 3, none⟩ = some (.int .i64 (Q u 0)) := hcq u hum 0 (by omega)
          have q1 : w5.cell? ⟨bq, oq + u * 3 + 1, none⟩ = some (.int .i64 (Q u 1)) := hcq u hum 1 (by omega)
          have q2 : w5.cell? ⟨bq, oq + u * 3 + 2, none⟩ = some (.int .i64 (Q u 2)) := hcq u hum 2 (by omega)
          have p0 : (0 : Int) ≤ (k : Int) := by omega
          have p1 : (k : Int) < (n : Int) := by omega
          have p2 : (0 : Int) ≤ (u : Int) := by omega
          have p3 : (u : Int) < (m : Int) := by omega
          subst hAP
          clear hcq hmo hu z0 z1 z2 z3 z4
          go_wp2_with (go_at_call 48; (with_reducible refine (MK.out _).mono ?_); rintro e w' ⟨rfl, rfl⟩)
          have hG6 : At (((w5.alloc (.cells #[.int .i64 (S k 0), .int .i64 (S k 1), .int .i64 (S k 2), .int .i64 (S k 3), .int .i64 (S k 4)] 56)).alloc (.cells #[.int .i64 (Q u 0), .int .i64 (Q u 1), .int .i64 (Q u 2)] 84)).alloc (.cells #[.int .i64 0, .int .i64 0, .int .i64 0] 84)) (w5.heap.size) 56 #[.int .i64 (S k 0), .int .i64 (S k 1), .int .i64 (S k 2), .int .i64 (S k 3), .int .i64 (S k 4)] := (((at_new (by simp)).alloc _).alloc _)
          have hV6 : At (((w5.alloc (.cells #[.int .i64 (S k 0), .int .i64 (S k 1), .int .i64 (S k 2), .int .i64 (S k 3), .int .i64 (S k 4)] 56)).alloc (.cells #[.int .i64 (Q u 0), .int .i64 (Q u 1), .int .i64 (Q u 2)] 84)).alloc (.cells #[.int .i64 0, .int .i64 0, .int .i64 0] 84)) (w5.heap.size + 1) 84 #[.int .i64 (Q u 0), .int .i64 (Q u 1), .int .i64 (Q u 2)] := ((at_new (by simp)).alloc _)
          have hD6 : At (((w5.alloc (.cells #[.int .i64 (S k 0), .int .i64 (S k 1), .int .i64 (S k 2), .int .i64 (S k 3), .int .i64 (S k 4)] 56)).alloc (.cells #[.int .i64 (Q u 0), .int .i64 (Q u 1), .int .i64 (Q u 2)] 84)).alloc (.cells #[.int .i64 0, .int .i64 0, .int .i64 0] 84)) (w5.heap.size + 1 + 1) 84 #[.int .i64 0, .int .i64 0, .int .i64 0] := (at_new (by simp))
          have hB6 : Below w5.heap.size w5 (((w5.alloc (.cells #[.int .i64 (S k 0), .int .i64 (S k 1), .int .i64 (S k 2), .int .i64 (S k 3), .int .i64 (S k 4)] 56)).alloc (.cells #[.int .i64 (Q u 0), .int .i64 (Q u 1), .int .i64 (Q u 2)] 84)).alloc (.cells #[.int .i64 0, .int .i64 0, .int .i64 0] 84)) := by
            repeat (first | (with_reducible exact Below.refl _ _) | (with_reducible refine below_new ?_ (by first | omega | (simp; done) | (simp; omega))))
          generalize hW6 : (((w5.alloc (.cells #[.int .i64 (S k 0), .int .i64 (S k 1), .int .i64 (S k 2), .int .i64 (S k 3), .int .i64 (S k 4)] 56)).alloc (.cells #[.int .i64 (Q u 0), .int .i64 (Q u 1), .int .i64 (Q u 2)] 84)).alloc (.cells #[.int .i64 0, .int .i64 0, .int .i64 0] 84)) = w6 at hG6 hV6 hD6 hB6 ⊢
          clear hW6
          clear y0 y1 y2 y3 y4 q0 q1 q2 t0 t1 t2
          have MR := Lib.hid (mvE_range (S := S) (Q := Q) (m := m) (i := k) · r4.1)
          obtain ⟨e1, he1⟩ : ∃ e, e = mvE S Q m k 1 := ⟨_, rfl⟩
          obtain ⟨e2, he2⟩ : ∃ e, e = mvE S Q m k 2 := ⟨_, rfl⟩
          obtain ⟨e3, he3⟩ : ∃ e, e = mvE S Q m k 3 := ⟨_, rfl⟩
          have v1 := MR.out 1
          have v2 := MR.out 2
          have v3 := MR.out 3
          have F1 := E1.out
          have F2 := E2.out
          have F3 := E3.out
          rw [← he1] at v1 F1
          rw [← he2] at v2 F2
          rw [← he3] at v3 F3
          have HE := Lib.hid (And.intro he1 (And.intro he2 he3))
          clear he1 he2 he3 MR E1 E2 E3
          have m0 : 0 < 2 * S k 4 + 1 := by omega
          have m9 : 2 * S k 4 + 1 ≤ 4611686018427387904 := by omega
          obtain ⟨o1, ho1⟩ : ∃ e, e = Mo (Q u 0) (2 * S k 4 + 1) := ⟨_, rfl⟩
          obtain ⟨o2, ho2⟩ : ∃ e, e = Mo (Q u 1) (2 * S k 4 + 1) := ⟨_, rfl⟩
          obtain ⟨o3, ho3⟩ : ∃ e, e = Mo (Q u 2) (2 * S k 4 + 1) := ⟨_, rfl⟩
          have M1 : Hid (∀ W : World, Calls Try.prog 48 #[.int .i64 (Q u 0), .int .i64 (2 * S k 4 + 1)] W fun e w' => e = .returned (.int .i64 o1) ∧ w' = W) := fun W => by rw [ho1]; exact (mod_any _ _ W m0 m9).mono fun _ _ ⟨he, hw⟩ => ⟨he, hw.symm⟩
          have M2 : Hid (∀ W : World, Calls Try.prog 48 #[.int .i64 (Q u 1), .int .i64 (2 * S k 4 + 1)] W fun e w' => e = .returned (.int .i64 o2) ∧ w' = W) := fun W => by rw [ho2]; exact (mod_any _ _ W m0 m9).mono fun _ _ ⟨he, hw⟩ => ⟨he, hw.symm⟩
          have M3 : Hid (∀ W : World, Calls Try.prog 48 #[.int .i64 (Q u 2), .int .i64 (2 * S k 4 + 1)] W fun e w' => e = .returned (.int .i64 o3) ∧ w' = W) := fun W => by rw [ho3]; exact (mod_any _ _ W m0 m9).mono fun _ _ ⟨he, hw⟩ => ⟨he, hw.symm⟩
          rw [← ho1] at F1
          rw [← ho2] at F2
          rw [← ho3] at F3
          clear ho1 ho2 ho3 MK hbq
          have HF := Lib.hid (And.intro F1 (And.intro F2 F3))
          generalize Q u 0 = g1 at *
          generalize Q u 1 = g2 at *
          generalize Q u 2 = g3 at *
          have wm : IntKind.i64.wrap (2 * S k 4) = 2 * S k 4 := IntWalk.i64_in _ (by omega)
          have wm1 : IntKind.i64.wrap (2 * S k 4 + 1) = 2 * S k 4 + 1 := IntWalk.i64_in _ (by omega)
          have wo1 : IntKind.i64.wrap (o1 - S k 4) = e1 := by rw [← F1]; exact IntWalk.i64_in _ (by omega)
          have wo2 : IntKind.i64.wrap (o2 - S k 4) = e2 := by rw [← F2]; exact IntWalk.i64_in _ (by omega)
          have wo3 : IntKind.i64.wrap (o3 - S k 4) = e3 := by rw [← F3]; exact IntWalk.i64_in _ (by omega)
          clear F1 F2 F3 HF m0 m9
          have HG6 := Lib.hid hG6
          have HV6 := Lib.hid hV6
          have HB56 := Lib.hid hB6
          have HD6 := Lib.hid hD6
          clear hG6 hV6 hD6 hB6
          go_loopw [12] (fun i wx => ∃ j : Nat, j ≤ 3 ∧ i = .int .i64 (j : Int) ∧ At wx w5.heap.size 56 #[.int .i64 (S k 0), .int .i64 (S k 1), .int .i64 (S k 2), .int .i64 (S k 3), .int .i64 (S k 4)] ∧ At wx (w5.heap.size + 1) 84 #[.int .i64 g1, .int .i64 g2, .int .i64 g3] ∧ At wx (w5.heap.size + 1 + 1) 84 (dd e1 e2 e3 j) ∧ Below w5.heap.size w5 wx) (fun i _ => 3 - (intOf i).toNat)
          case atStart => exact ⟨0, by omega, rfl, HG6.out, HV6.out, HD6.out, HB56.out⟩
          case round =>
            clear HG6 HV6 HD6 HB56
            obtain ⟨j, hj, rfl, hG7, hV7, hD7, hb7⟩ := hrel
            obtain ⟨w7, hw7⟩ : ∃ q, q = wr := ⟨_, rfl⟩
            rw [← hw7] at hG7 hV7 hD7 hb7 ⊢
            clear hw7
            have HG7 := Lib.hid hG7
            have HV7 := Lib.hid hV7
            have HB57 := Lib.hid hb7
            have l1 : w5.heap.size < w7.heap.size := hG7.lt
            have l2 : w5.heap.size + 1 < w7.heap.size := hV7.lt
            have l3 : w5.heap.size + 1 + 1 < w7.heap.size := hD7.lt
            by_cases hj3 : j < 3
            · have h3 : j = 0 ∨ j = 1 ∨ j = 2 := by omega
              clear hG7 hV7 hb7
              rcases h3 with rfl | rfl | rfl
              · have hD7 : At w7 (w5.heap.size + 1 + 1) 84 #[.int .i64 0, .int .i64 0, .int .i64 0] := hD7
                have b4 := HG7.out.cell 4
                have c0 := HV7.out.cell 0
                have d0 := hD7.cell 0
                have d1 := hD7.cell 1
                have d2 := hD7.cell 2
                have dz := hD7.free 0
                simp at b4 c0 d0 d1 d2
                have HD7 := Lib.hid hD7
                clear hD7
                go_wp2_with fail
                refine wp_region_still_tail 13 (by kernel_rfl) (by kernel_rfl) ?_
                simp only [List.take_succ_cons, List.take_zero, List.drop_succ_cons, List.drop_zero]
                repeat (first | still_step | still_call (M1.out _))
                try refine wpStill_nil ?_
                change wpList _ _ _ _ _ w7.drew
                have hG8 : At w7.drew w5.heap.size 56 #[.int .i64 (S k 0), .int .i64 (S k 1), .int .i64 (S k 2), .int .i64 (S k 3), .int .i64 (S k 4)] := HG7.out
                have hV8 : At w7.drew (w5.heap.size + 1) 84 #[.int .i64 g1, .int .i64 g2, .int .i64 g3] := HV7.out
                have hD8 : At w7.drew (w5.heap.size + 1 + 1) 84 #[.int .i64 0, .int .i64 0, .int .i64 0] := HD7.out
                have hB8 : Below w5.heap.size w5 w7.drew := HB57.out.drew
                generalize hwz : w7.drew = w8 at hG8 hV8 hD8 hB8 ⊢
                clear hwz b4 c0 d0 d1 d2 dz
                have d0 := hD8.cell 0
                have dz := hD8.free 0
                simp at d0
                have HG8 := Lib.hid hG8
                have HV8 := Lib.hid hV8
                have HD8 := Lib.hid hD8
                have HB8 := Lib.hid hB8
                clear hG8 hV8 hD8 hB8
                go_wp2
                go_roundw
                case rel => exact ⟨1, by omega, rfl, HG8.out.far (by first | (simp; done) | (simp; omega)) _, HV8.out.far (by first | (simp; done) | (simp; omega)) _, HD8.out.put 0 _, below_set HB8.out (by omega)⟩
                case measure => simp [intOf]
              · have hD7 : At w7 (w5.heap.size + 1 + 1) 84 #[.int .i64 e1, .int .i64 0, .int .i64 0] := hD7
                have b4 := HG7.out.cell 4
                have c1 := HV7.out.cell 1
                have d0 := hD7.cell 0
                have d1 := hD7.cell 1
                have d2 := hD7.cell 2
                have dz := hD7.free 1
                simp at b4 c1 d0 d1 d2
                have HD7 := Lib.hid hD7
                clear hD7
                go_wp2_with fail
                refine wp_region_still_tail 13 (by kernel_rfl) (by kernel_rfl) ?_
                simp only [List.take_succ_cons, List.take_zero, List.drop_succ_cons, List.drop_zero]
                repeat (first | still_step | still_call (M2.out _))
                try refine wpStill_nil ?_
                change wpList _ _ _ _ _ w7.drew
                have hG8 : At w7.drew w5.heap.size 56 #[.int .i64 (S k 0), .int .i64 (S k 1), .int .i64 (S k 2), .int .i64 (S k 3), .int .i64 (S k 4)] := HG7.out
                have hV8 : At w7.drew (w5.heap.size + 1) 84 #[.int .i64 g1, .int .i64 g2, .int .i64 g3] := HV7.out
                have hD8 : At w7.drew (w5.heap.size + 1 + 1) 84 #[.int .i64 e1, .int .i64 0, .int .i64 0] := HD7.out
                have hB8 : Below w5.heap.size w5 w7.drew := HB57.out.drew
                generalize hwz : w7.drew = w8 at hG8 hV8 hD8 hB8 ⊢
                clear hwz b4 c1 d0 d1 d2 dz
                have d1 := hD8.cell 1
                have dz := hD8.free 1
                simp at d1
                have HG8 := Lib.hid hG8
                have HV8 := Lib.hid hV8
                have HD8 := Lib.hid hD8
                have HB8 := Lib.hid hB8
                clear hG8 hV8 hD8 hB8
                go_wp2
                go_roundw
                case rel => exact ⟨2, by omega, rfl, HG8.out.far (by first | (simp; done) | (simp; omega)) _, HV8.out.far (by first | (simp; done) | (simp; omega)) _, HD8.out.put 1 _, below_set HB8.out (by omega)⟩
                case measure => simp [intOf]
              · have hD7 : At w7 (w5.heap.size + 1 + 1) 84 #[.int .i64 e1, .int .i64 e2, .int .i64 0] := hD7
                have b4 := HG7.out.cell 4
                have c2 := HV7.out.cell 2
                have d0 := hD7.cell 0
                have d1 := hD7.cell 1
                have d2 := hD7.cell 2
                have dz := hD7.free 2
                simp at b4 c2 d0 d1 d2
                have HD7 := Lib.hid hD7
                clear hD7
                go_wp2_with fail
                refine wp_region_still_tail 13 (by kernel_rfl) (by kernel_rfl) ?_
                simp only [List.take_succ_cons, List.take_zero, List.drop_succ_cons, List.drop_zero]
                repeat (first | still_step | still_call (M3.out _))
                try refine wpStill_nil ?_
                change wpList _ _ _ _ _ w7.drew
                have hG8 : At w7.drew w5.heap.size 56 #[.int .i64 (S k 0), .int .i64 (S k 1), .int .i64 (S k 2), .int .i64 (S k 3), .int .i64 (S k 4)] := HG7.out
                have hV8 : At w7.drew (w5.heap.size + 1) 84 #[.int .i64 g1, .int .i64 g2, .int .i64 g3] := HV7.out
                have hD8 : At w7.drew (w5.heap.size + 1 + 1) 84 #[.int .i64 e1, .int .i64 e2, .int .i64 0] := HD7.out
                have hB8 : Below w5.heap.size w5 w7.drew := HB57.out.drew
                generalize hwz : w7.drew = w8 at hG8 hV8 hD8 hB8 ⊢
                clear hwz b4 c2 d0 d1 d2 dz
                have d2 := hD8.cell 2
                have dz := hD8.free 2
                simp at d2
                have HG8 := Lib.hid hG8
                have HV8 := Lib.hid hV8
                have HD8 := Lib.hid hD8
                have HB8 := Lib.hid hB8
                clear hG8 hV8 hD8 hB8
                go_wp2
                go_roundw
                case rel => exact ⟨3, by omega, rfl, HG8.out.far (by first | (simp; done) | (simp; omega)) _, HV8.out.far (by first | (simp; done) | (simp; omega)) _, HD8.out.put 2 _, below_set HB8.out (by omega)⟩
                case measure => simp [intOf]
            · obtain rfl : j = 3 := by omega
              have hD7 : At w7 (w5.heap.size + 1 + 1) 84 #[.int .i64 e1, .int .i64 e2, .int .i64 e3] := hD7
              clear M1 M2 M3 wo1 wo2 wo3 wm wm1
              have ws1 : IntKind.i64.wrap (S k 1 + e1) = S k 1 + e1 := IntWalk.i64_in _ (by omega)
              have ws2 : IntKind.i64.wrap (S k 2 + e2) = S k 2 + e2 := IntWalk.i64_in _ (by omega)
              have ws3 : IntKind.i64.wrap (S k 3 + e3) = S k 3 + e3 := IntWalk.i64_in _ (by omega)
              have b0 := hG7.cell 0
              have b1 := hG7.cell 1
              have b2 := hG7.cell 2
              have b3 := hG7.cell 3
              have b4 := hG7.cell 4
              have bz0 := hG7.free 0
              have bz1 := hG7.free 1
              have bz2 := hG7.free 2
              have bz3 := hG7.free 3
              have bz4 := hG7.free 4
              have d0 := hD7.cell 0
              have d1 := hD7.cell 1
              have d2 := hD7.cell 2
              simp at b0 b1 b2 b3 b4 d0 d1 d2
              clear hG7 hV7 hD7 hb7
              go_upto_region 18 with fail
              have hG8 : At ((((w7.setCell ⟨w5.heap.size, 1, none⟩ (.int .i64 (S k 1 + e1))).setCell ⟨w5.heap.size, 2, none⟩ (.int .i64 (S k 2 + e2))).setCell ⟨w5.heap.size, 3, none⟩ (.int .i64 (S k 3 + e3))).setCell ⟨w5.heap.size, 4, none⟩ (.int .i64 0)) w5.heap.size 56 #[.int .i64 (S k 0), .int .i64 (S k 1 + e1), .int .i64 (S k 2 + e2), .int .i64 (S k 3 + e3), .int .i64 0] := (((HG7.out.put 1 _).put 2 _).put 3 _).put 4 _
              have hB8 : Below w5.heap.size w5 ((((w7.setCell ⟨w5.heap.size, 1, none⟩ (.int .i64 (S k 1 + e1))).setCell ⟨w5.heap.size, 2, none⟩ (.int .i64 (S k 2 + e2))).setCell ⟨w5.heap.size, 3, none⟩ (.int .i64 (S k 3 + e3))).setCell ⟨w5.heap.size, 4, none⟩ (.int .i64 0)) := below_set (below_set (below_set (below_set HB57.out (Nat.le_refl _)) (Nat.le_refl _)) (Nat.le_refl _)) (Nat.le_refl _)
              generalize hwz : ((((w7.setCell ⟨w5.heap.size, 1, none⟩ (.int .i64 (S k 1 + e1))).setCell ⟨w5.heap.size, 2, none⟩ (.int .i64 (S k 2 + e2))).setCell ⟨w5.heap.size, 3, none⟩ (.int .i64 (S k 3 + e3))).setCell ⟨w5.heap.size, 4, none⟩ (.int .i64 0)) = w8 at hG8 hB8 ⊢
              clear hwz b0 b1 b2 b3 b4 bz0 bz1 bz2 bz3 bz4 d0 d1 d2 l1 l2 l3 ws1 ws2 ws3
              have hT8 := HT5.out.keep hB8
              have hown8 := own_kept5 HOWN5.out hB8
              obtain ⟨y0, z0⟩ := own_cell hown8 hlt (c := 0) (by omega)
              obtain ⟨y1, z1⟩ := own_cell hown8 hlt (c := 1) (by omega)
              obtain ⟨y2, z2⟩ := own_cell hown8 hlt (c := 2) (by omega)
              obtain ⟨y3, z3⟩ := own_cell hown8 hlt (c := 3) (by omega)
              obtain ⟨y4, z4⟩ := own_cell hown8 hlt (c := 4) (by omega)
              simp only [Nat.add_zero] at y0 z0
              have t0 := hT8.cell 0
              have t1 := hT8.cell 1
              have t2 := hT8.cell 2
              have b0 := hG8.cell 0
              have b1 := hG8.cell 1
              have b2 := hG8.cell 2
              have b3 := hG8.cell 3
              have b4 := hG8.cell 4
              simp at t0 t1 t2 b0 b1 b2 b3 b4
              have HT8 := Lib.hid hT8
              have HOWN8 := Lib.hid hown8
              have HB38 := Lib.hid (HB35.out.trans (hB8.mono HB35.out.size))
              obtain ⟨he1, he2, he3⟩ := HE.out
              clear hG8 hB8 hT8 hown8 HE
              have HX1 : Hid (S k 1 + e1 = S k 1 + mvE S Q m k 1) := by rw [he1]; rfl
              have HX2 : Hid (S k 2 + e2 = S k 2 + mvE S Q m k 2) := by rw [he2]; rfl
              have HX3 : Hid (S k 3 + e3 = S k 3 + mvE S Q m k 3) := by rw [he3]; rfl
              clear he1 he2 he3
              have hn40 : n ≤ 40 := HR.out.2.1
              go_wp2
              go_roundw
              case rel =>
                refine ⟨k + 1, by omega, by go_num, ?_, ?_, ?_⟩
                · have := HGL.out
                  exact ((((HT8.out.far (by simp; omega) _).far (by simp; omega) _).far (by simp; omega) _).far (by simp; omega) _).far (by simp; omega) _
                · rw [HX1.out, HX2.out, HX3.out]
                  exact own_moved HOWN8.out
                · exact below_set (below_set (below_set (below_set (below_set HB38.out hz3) hz3) hz3) hz3) hz3
              case measure => simp [intOf]; omega
        · obtain rfl : n = k := by omega
          have hst5 := st_of_own HOWN5.out
          obtain ⟨X, hX⟩ : ∃ X, X = TS S (mvE S Q m) n := ⟨_, rfl⟩
          rw [← hX] at hst5
          have HIN : Hid (∀ t, Go.Proofs.Ytnaanninmkplfaa.Has S n t → ∀ c, 1 ≤ c → c ≤ 3 → (lo S n b t c ≤ no X n t c ∧ no X n t c ≤ hi S n b t c) ∧ ((∀ i, i < n → S i 0 ≠ t) → lo S n b t c + b ≤ no X n t c ∧ no X n t c ≤ hi S n b t c - b)) := fun t ht c h1 h3 => by
            rw [hX]
            exact truth_in HR.out ht h1 h3 (fun i hi c _ _ => mvE_range c (HR.out.2.2.2.1 i hi).2.2.2.2.1)
          have HTK : Hid (∀ i, X i 0 = S i 0) := fun i => by rw [hX]; exact TS_tick S (mvE S Q m) n i
          have HX5 := Lib.hid hst5
          have hA5 := HA3.out.keep HB35.out
          have hF5 := HF3.out.keep HB35.out
          have hT5 := HT5.out
          have HB5 := Lib.hid (HB3.out.trans (HB35.out.mono HB3.out.size))
          clear hX hst5 t0 t1 t2 hlt hk HOWN5 HOWN4 HT5
          have a0 := hA5.cell 0
          have a1 := hA5.cell 1
          have a2 := hA5.cell 2
          have f0 := hF5.cell 0
          have f1 := hF5.cell 1
          have f2 := hF5.cell 2
          have t0 := hT5.cell 0
          have t1 := hT5.cell 1
          have t2 := hT5.cell 2
          simp at a0 a1 a2 f0 f1 f2 t0 t1 t2
          have HA5 := Lib.hid hA5
          have HF5 := Lib.hid hF5
          have HT5 := Lib.hid hT5
          clear hA5 hF5 hT5
          go_wp2_with fail
          refine (refErr_any s 0 _ n c4 X w5 HX5.out H1.out HN4.out HC4.out).mono ?_
          rintro e w6 ⟨rfl, hb6⟩
          have hA6 := HA5.out.keep hb6
          have hF6 := HF5.out.keep hb6
          have hT6 := HT5.out.keep hb6
          have HB6 := Lib.hid (HB5.out.trans (hb6.mono HB5.out.size))
          have HX6 := Lib.hid (HX5.out.below hb6)
          clear a0 a1 a2 f0 f1 f2 t0 t1 t2 hb6
          have a0 := hA6.cell 0
          have a1 := hA6.cell 1
          have a2 := hA6.cell 2
          have f0 := hF6.cell 0
          have f1 := hF6.cell 1
          have f2 := hF6.cell 2
          have t0 := hT6.cell 0
          have t1 := hT6.cell 1
          have t2 := hT6.cell 2
          simp at a0 a1 a2 f0 f1 f2 t0 t1 t2
          have HA6 := Lib.hid hA6
          have HF6 := Lib.hid hF6
          have HT6 := Lib.hid hT6
          clear hA6 hF6 hT6
          by_cases h0 : (oce (nmB s) 0 n X).2 = 0
          case neg =>
            have d0 : ((oce (nmB s) 0 n X).2 != 0) = true := by simpa using h0
            clear h0
            go_wp2
            go_ret
            exact ⟨rfl, HB6.out⟩
          case pos =>
            have HRX := Lib.hid (oce_zero h0).2
            rw [h0]
            clear h0
            go_wp2_with fail
            have hn0 : 0 < n := by omega
            have hmn := Nat.le_trans HN.out HC.out
            have F5 : Hid (∀ V : World, St V A n S → Calls Try.prog 47 #[.agg #[.string s, .int .i64 b, .slice A n c]] V fun e w' => e = .returned (.int .i64 (S (n - 1) 0)) ∧ Below V.heap.size V w') := fun V hV => refLast_any s b A n c S V hV hn0 hmn
            refine (refFirst_any s b A n c S w6 (HS.out.below HB6.out) hn0).mono ?_
            rintro e w7 ⟨rfl, hb7⟩
            have hA7 := HA6.out.keep hb7
            have hF7 := HF6.out.keep hb7
            have hT7 := HT6.out.keep hb7
            have HB7 := Lib.hid (HB6.out.trans (hb7.mono HB6.out.size))
            have HX7 := Lib.hid (HX6.out.below hb7)
            clear a0 a1 a2 f0 f1 f2 t0 t1 t2 hb7
            have a0 := hA7.cell 0
            have a1 := hA7.cell 1
            have a2 := hA7.cell 2
            have f0 := hF7.cell 0
            have f1 := hF7.cell 1
            have f2 := hF7.cell 2
            have t0 := hT7.cell 0
            have t1 := hT7.cell 1
            have t2 := hT7.cell 2
            simp at a0 a1 a2 f0 f1 f2 t0 t1 t2
            have HA7 := Lib.hid hA7
            have HF7 := Lib.hid hF7
            have HT7 := Lib.hid hT7
            clear hA7 hF7 hT7
            have y1 := (HR.out.2.2.2.1 0 hn0).1
            have y2 := (HR.out.2.2.2.1 (n - 1) (by omega)).1
            have HHS : Hid (∀ t, S 0 0 ≤ t → t ≤ S (n - 1) 0 → Go.Proofs.Ytnaanninmkplfaa.Has S n t) := fun t h1 h2 => ⟨h1, h2⟩
            have y3 := HR.out.2.2.2.2.1.le (Nat.zero_le (n - 1)) (by omega)
            have HHX : Hid (∀ t, S 0 0 ≤ t → t ≤ S (n - 1) 0 → Go.Proofs.Ytnaanninmkplfaa.Has X n t) := fun t h1 h2 => ⟨by rw [HTK.out]; exact h1, by rw [HTK.out]; exact h2⟩
            generalize S (n - 1) 0 = y at *
            generalize S 0 0 = z at *
            clear hn0 hmn
            go_wp2_with fail
            go_loopw [13] (fun i wr => ∃ t : Int, i = .int .i64 t ∧ z ≤ t ∧ t ≤ y + 1 ∧ Below w7.heap.size w7 wr) (fun i _ => (y + 1 - intOf i).toNat)
            case atStart => exact ⟨z, rfl, Int.le_refl _, by omega, Below.refl _ _⟩
            case round =>
              obtain ⟨t, rfl, ht1, ht2, hb8⟩ := hrel
              obtain ⟨w8, hw8⟩ : ∃ q, q = wr := ⟨_, rfl⟩
              rw [← hw8] at hb8 ⊢
              clear hw8
              have HB78 := Lib.hid hb8
              have hA8 := HA7.out.keep hb8
              have hF8 := HF7.out.keep hb8
              have hT8 := HT7.out.keep hb8
              have HB8 := Lib.hid (HB7.out.trans (hb8.mono HB7.out.size))
              have HX8 := Lib.hid (HX7.out.below hb8)
              clear a0 a1 a2 f0 f1 f2 t0 t1 t2 hb8
              have a0 := hA8.cell 0
              have a1 := hA8.cell 1
              have a2 := hA8.cell 2
              have f0 := hF8.cell 0
              have f1 := hF8.cell 1
              have f2 := hF8.cell 2
              have t0 := hT8.cell 0
              have t1 := hT8.cell 1
              have t2 := hT8.cell 2
              simp at a0 a1 a2 f0 f1 f2 t0 t1 t2
              have HA8 := Lib.hid hA8
              have HF8 := Lib.hid hF8
              have HT8 := Lib.hid hT8
              clear hA8 hF8 hT8
              go_wp2_with fail
              refine (F5.out w8 (HS.out.below HB8.out)).mono ?_
              rintro e w9 ⟨rfl, hb9⟩
              have HB79 := Lib.hid (HB78.out.trans (hb9.mono HB78.out.size))
              have hA9 := HA8.out.keep hb9
              have hF9 := HF8.out.keep hb9
              have hT9 := HT8.out.keep hb9
              have HB9 := Lib.hid (HB8.out.trans (hb9.mono HB8.out.size))
              have HX9 := Lib.hid (HX8.out.below hb9)
              clear a0 a1 a2 f0 f1 f2 t0 t1 t2 hb9
              have a0 := hA9.cell 0
              have a1 := hA9.cell 1
              have a2 := hA9.cell 2
              have f0 := hF9.cell 0
              have f1 := hF9.cell 1
              have f2 := hF9.cell 2
              have t0 := hT9.cell 0
              have t1 := hT9.cell 1
              have t2 := hT9.cell 2
              simp at a0 a1 a2 f0 f1 f2 t0 t1 t2
              have HA9 := Lib.hid hA9
              have HF9 := Lib.hid hF9
              have HT9 := Lib.hid hT9
              clear hA9 hF9 hT9
              by_cases hlt : t ≤ y
              case neg =>
                go_wp2
                go_ret
                exact ⟨rfl, HB9.out⟩
              case pos =>
                skip
                have HT := Lib.hid (HHS.out t ht1 hlt)
                have HTX := Lib.hid (HHX.out t ht1 hlt)
                have hno : noR (nmB s) 0 n X t = .tuple #[noV X n t, .int .i64 0] := if_pos (by rw [HNM.out]; exact e2_right HRX.out HTX.out)
                have hbox : boxR (nmB s) b n S t = .tuple #[boxV S n b t, .int .i64 0] := if_pos (by rw [HNM.out]; exact e2_right HR.out HT.out)
                have hsq : sqR (nmB s) b n S t 0 0 0 = .tuple #[.agg #[.int .i64 (sqL S n b t (P3 0 0 0)), .int .i64 (sqH S n b t (P3 0 0 0))], .int .i64 0] := if_pos (by rw [HNM.out]; exact e3_right HR.out HT.out rfl)
                unfold noV at hno
                unfold boxV at hbox
                obtain ⟨i1, j1⟩ := HIN.out t HT.out 1 (by omega) (by omega)
                obtain ⟨i2, j2⟩ := HIN.out t HT.out 2 (by omega) (by omega)
                obtain ⟨i3, j3⟩ := HIN.out t HT.out 3 (by omega) (by omega)
                have k1 := (box_facts HR.out HT.out (c := 1) (by omega)).1
                have k2 := (box_facts HR.out HT.out (c := 2) (by omega)).1
                have k3 := (box_facts HR.out HT.out (c := 3) (by omega)).1
                have ks : ∀ p q r : Int, _ := fun p q r (h1 : lo S n b t 1 ≤ p ∧ p ≤ hi S n b t 1) (h2 : lo S n b t 2 ≤ q ∧ q ≤ hi S n b t 2) (h3 : lo S n b t 3 ≤ r ∧ r ≤ hi S n b t 3) => sq_in h1 h2 h3 (P3 0 0 0) (fun i => by unfold P3; split <;> (try rfl); split <;> rfl)
                have hbb := HR.out.2.2.1
                generalize sqL S n b t (P3 0 0 0) = QL at *
                generalize sqH S n b t (P3 0 0 0) = QH at *
                generalize no X n t 1 = n1 at *
                generalize no X n t 2 = n2 at *
                generalize no X n t 3 = n3 at *
                generalize lo S n b t 1 = l1 at *
                generalize lo S n b t 2 = l2 at *
                generalize lo S n b t 3 = l3 at *
                generalize hi S n b t 1 = h1 at *
                generalize hi S n b t 2 = h2 at *
                generalize hi S n b t 3 = h3 at *
                have HNO := Lib.hid hno
                have HBX := Lib.hid hbox
                have HSQR := Lib.hid hsq
                have HKS := Lib.hid ks
                have HI := Lib.hid (And.intro i1 (And.intro i2 i3))
                have HJ := Lib.hid (And.intro j1 (And.intro j2 j3))
                have HK := Lib.hid (And.intro k1 (And.intro k2 k3))
                have HBB := Lib.hid hbb
                clear hno hbox hsq ks i1 i2 i3 j1 j2 j3 k1 k2 k3 hbb
                go_wp2_with fail
                refine (copy_any s 0 _ n c4 X w9 HX9.out (by have := few_size HFW.out; omega) (fun e => by cases e)).mono ?_
                rintro e w10 ⟨A10, c10, rfl, hst10, hn10, hc10, _, _, hb10⟩
                go_wp2_with fail
                refine (nominalAt_any s 0 A10 n c10 X t w10 hst10 H1.out hn10 hc10).mono ?_
                rw [HNO.out]
                rintro e w11 ⟨rfl, hb11⟩
                have hb911 := below_two hb10 hb11
                clear hst10 hn10 hc10 hb10 hb11
                have HB711 := Lib.hid (HB79.out.trans (hb911.mono HB79.out.size))
                have hA11 := HA9.out.keep hb911
                have hF11 := HF9.out.keep hb911
                have hT11 := HT9.out.keep hb911
                have HB11 := Lib.hid (HB9.out.trans (hb911.mono HB9.out.size))
                have HX11 := Lib.hid (HX9.out.below hb911)
                clear a0 a1 a2 f0 f1 f2 t0 t1 t2 hb911
                have a0 := hA11.cell 0
                have a1 := hA11.cell 1
                have a2 := hA11.cell 2
                have f0 := hF11.cell 0
                have f1 := hF11.cell 1
                have f2 := hF11.cell 2
                have t0 := hT11.cell 0
                have t1 := hT11.cell 1
                have t2 := hT11.cell 2
                simp at a0 a1 a2 f0 f1 f2 t0 t1 t2
                have HA11 := Lib.hid hA11
                have HF11 := Lib.hid hF11
                have HT11 := Lib.hid hT11
                clear hA11 hF11 hT11
                have HB1111 : Hid (Below w11.heap.size w11 w11) := Below.refl _ _
                have lA : w.heap.size < w11.heap.size := HA11.out.lt
                have lF : w.heap.size + 1 < w11.heap.size := HF11.out.lt
                have lT : w4.heap.size < w11.heap.size := HT11.out.lt
                go_wp2_with fail
                have hA12 : At (w11.alloc (.cells #[.int .i64 n1, .int .i64 n2, .int .i64 n3] 42)) (w.heap.size) 24 #[.string s, .int .i64 b, .slice A n c] := HA11.out.alloc _
                have hF12 : At (w11.alloc (.cells #[.int .i64 n1, .int .i64 n2, .int .i64 n3] 42)) (w.heap.size + 1) 84 #[.int .i64 x1, .int .i64 x2, .int .i64 x3] := HF11.out.alloc _
                have hT12 : At (w11.alloc (.cells #[.int .i64 n1, .int .i64 n2, .int .i64 n3] 42)) (w4.heap.size) 24 #[.string s, .int .i64 0, .slice (some ⟨g, 0, none⟩) n c4] := HT11.out.alloc _
                have hP12 : At (w11.alloc (.cells #[.int .i64 n1, .int .i64 n2, .int .i64 n3] 42)) (w11.heap.size) 42 #[.int .i64 n1, .int .i64 n2, .int .i64 n3] := At.new w11 _ _
                have hB12 : Below w.heap.size w (w11.alloc (.cells #[.int .i64 n1, .int .i64 n2, .int .i64 n3] 42)) := below_new HB11.out HB11.out.size
                have hX12 : St (w11.alloc (.cells #[.int .i64 n1, .int .i64 n2, .int .i64 n3] 42)) (some ⟨g, 0, none⟩) n X := HX11.out.alloc _
                have hB712 : Below w7.heap.size w7 (w11.alloc (.cells #[.int .i64 n1, .int .i64 n2, .int .i64 n3] 42)) := below_new HB711.out HB711.out.size
                have hB1112 : Below w11.heap.size w11 (w11.alloc (.cells #[.int .i64 n1, .int .i64 n2, .int .i64 n3] 42)) := below_new HB1111.out HB1111.out.size
                generalize hwz : (w11.alloc (.cells #[.int .i64 n1, .int .i64 n2, .int .i64 n3] 42)) = w12 at hA12 hF12 hT12 hP12 hB12 hB712 hB1112 hX12 ⊢
                clear hwz a0 a1 a2 f0 f1 f2 t0 t1 t2 lA lF lT
                have a0 := hA12.cell 0
                have a1 := hA12.cell 1
                have a2 := hA12.cell 2
                have f0 := hF12.cell 0
                have f1 := hF12.cell 1
                have f2 := hF12.cell 2
                have t0 := hT12.cell 0
                have t1 := hT12.cell 1
                have t2 := hT12.cell 2
                have p0 := hP12.cell 0
                have p1 := hP12.cell 1
                have p2 := hP12.cell 2
                simp at a0 a1 a2 f0 f1 f2 t0 t1 t2 p0 p1 p2
                have HA12 := Lib.hid hA12
                have HF12 := Lib.hid hF12
                have HT12 := Lib.hid hT12
                have HP12 := Lib.hid hP12
                have HB12 := Lib.hid hB12
                clear hA12 hF12 hT12 hP12 hB12
                have HB712 := Lib.hid hB712
                have HB1112 := Lib.hid hB1112
                have HX12 := Lib.hid hX12
                clear hB712 hB1112 hX12
                refine (copy_any s b A n c S w12 (HS.out.below HB12.out) (by have := few_size HFW.out; omega) HNIL.out).mono ?_
                rintro e w13 ⟨A13, c13, rfl, hst13, hn13, hc13, _, _, hb13⟩
                go_wp2_with fail
                refine (boxAt_any s b A13 n c13 S t w13 hst13 H1.out hn13 hc13).mono ?_
                rw [HBX.out]
                rintro e w14 ⟨rfl, hb14⟩
                have hb1214 := below_two hb13 hb14
                clear hst13 hn13 hc13 hb13 hb14
                have HB714 := Lib.hid (HB712.out.trans (hb1214.mono HB712.out.size))
                have HB1114 := Lib.hid (HB1112.out.trans (hb1214.mono HB1112.out.size))
                have hA14 := HA12.out.keep hb1214
                have hF14 := HF12.out.keep hb1214
                have hT14 := HT12.out.keep hb1214
                have hP14 := HP12.out.keep hb1214
                have HB14 := Lib.hid (HB12.out.trans (hb1214.mono HB12.out.size))
                have HX14 := Lib.hid (HX12.out.below hb1214)
                clear a0 a1 a2 f0 f1 f2 t0 t1 t2 p0 p1 p2 hb1214
                have a0 := hA14.cell 0
                have a1 := hA14.cell 1
                have a2 := hA14.cell 2
                have f0 := hF14.cell 0
                have f1 := hF14.cell 1
                have f2 := hF14.cell 2
                have t0 := hT14.cell 0
                have t1 := hT14.cell 1
                have t2 := hT14.cell 2
                have p0 := hP14.cell 0
                have p1 := hP14.cell 1
                have p2 := hP14.cell 2
                simp at a0 a1 a2 f0 f1 f2 t0 t1 t2 p0 p1 p2
                have HA14 := Lib.hid hA14
                have HF14 := Lib.hid hF14
                have HT14 := Lib.hid hT14
                have HP14 := Lib.hid hP14
                clear hA14 hF14 hT14 hP14
                have lA : w.heap.size < w14.heap.size := HA14.out.lt
                have lF : w.heap.size + 1 < w14.heap.size := HF14.out.lt
                have lT : w4.heap.size < w14.heap.size := HT14.out.lt
                have lP : w11.heap.size < w14.heap.size := HP14.out.lt
                go_wp2_with fail
                have hA15 : At (w14.alloc (.cells #[.int .i64 l1, .int .i64 h1, .int .i64 l2, .int .i64 h2, .int .i64 l3, .int .i64 h3] 47)) (w.heap.size) 24 #[.string s, .int .i64 b, .slice A n c] := HA14.out.alloc _
                have hF15 : At (w14.alloc (.cells #[.int .i64 l1, .int .i64 h1, .int .i64 l2, .int .i64 h2, .int .i64 l3, .int .i64 h3] 47)) (w.heap.size + 1) 84 #[.int .i64 x1, .int .i64 x2, .int .i64 x3] := HF14.out.alloc _
                have hT15 : At (w14.alloc (.cells #[.int .i64 l1, .int .i64 h1, .int .i64 l2, .int .i64 h2, .int .i64 l3, .int .i64 h3] 47)) (w4.heap.size) 24 #[.string s, .int .i64 0, .slice (some ⟨g, 0, none⟩) n c4] := HT14.out.alloc _
                have hP15 : At (w14.alloc (.cells #[.int .i64 l1, .int .i64 h1, .int .i64 l2, .int .i64 h2, .int .i64 l3, .int .i64 h3] 47)) (w11.heap.size) 42 #[.int .i64 n1, .int .i64 n2, .int .i64 n3] := HP14.out.alloc _
                have hK15 : At (w14.alloc (.cells #[.int .i64 l1, .int .i64 h1, .int .i64 l2, .int .i64 h2, .int .i64 l3, .int .i64 h3] 47)) (w14.heap.size) 47 #[.int .i64 l1, .int .i64 h1, .int .i64 l2, .int .i64 h2, .int .i64 l3, .int .i64 h3] := At.new w14 _ _
                have hB15 : Below w.heap.size w (w14.alloc (.cells #[.int .i64 l1, .int .i64 h1, .int .i64 l2, .int .i64 h2, .int .i64 l3, .int .i64 h3] 47)) := below_new HB14.out HB14.out.size
                have hX15 : St (w14.alloc (.cells #[.int .i64 l1, .int .i64 h1, .int .i64 l2, .int .i64 h2, .int .i64 l3, .int .i64 h3] 47)) (some ⟨g, 0, none⟩) n X := HX14.out.alloc _
                have hB715 : Below w7.heap.size w7 (w14.alloc (.cells #[.int .i64 l1, .int .i64 h1, .int .i64 l2, .int .i64 h2, .int .i64 l3, .int .i64 h3] 47)) := below_new HB714.out HB714.out.size
                have hB1115 : Below w11.heap.size w11 (w14.alloc (.cells #[.int .i64 l1, .int .i64 h1, .int .i64 l2, .int .i64 h2, .int .i64 l3, .int .i64 h3] 47)) := below_new HB1114.out HB1114.out.size
                generalize hwz : (w14.alloc (.cells #[.int .i64 l1, .int .i64 h1, .int .i64 l2, .int .i64 h2, .int .i64 l3, .int .i64 h3] 47)) = w15 at hA15 hF15 hT15 hP15 hK15 hB15 hB715 hB1115 hX15 ⊢
                clear hwz a0 a1 a2 f0 f1 f2 t0 t1 t2 p0 p1 p2 lA lF lT lP
                have a0 := hA15.cell 0
                have a1 := hA15.cell 1
                have a2 := hA15.cell 2
                have f0 := hF15.cell 0
                have f1 := hF15.cell 1
                have f2 := hF15.cell 2
                have t0 := hT15.cell 0
                have t1 := hT15.cell 1
                have t2 := hT15.cell 2
                have p0 := hP15.cell 0
                have p1 := hP15.cell 1
                have p2 := hP15.cell 2
                have k0 := hK15.cell 0
                have k1 := hK15.cell 1
                have k2 := hK15.cell 2
                have k3 := hK15.cell 3
                have k4 := hK15.cell 4
                have k5 := hK15.cell 5
                simp at a0 a1 a2 f0 f1 f2 t0 t1 t2 p0 p1 p2 k0 k1 k2 k3 k4 k5
                have HA15 := Lib.hid hA15
                have HF15 := Lib.hid hF15
                have HT15 := Lib.hid hT15
                have HP15 := Lib.hid hP15
                have HK15 := Lib.hid hK15
                have HB15 := Lib.hid hB15
                clear hA15 hF15 hT15 hP15 hK15 hB15
                have HB715 := Lib.hid hB715
                have HB1115 := Lib.hid hB1115
                have HX15 := Lib.hid hX15
                clear hB715 hB1115 hX15
                have HLT := Lib.hid hlt
                clear hlt
                go_loopw [18, 19] (fun q i wr => ∃ j : Nat, j ≤ n ∧ i = .int .i64 (j : Int) ∧ q = .bool (stTk S t j) ∧ Below w15.heap.size w15 wr) (fun _ i _ => n - (intOf i).toNat)
                case atStart => exact ⟨0, by omega, rfl, rfl, Below.refl _ _⟩
                case round =>
                  obtain ⟨j, hj, rfl, rfl, hb16⟩ := hrel
                  obtain ⟨w16, hw16⟩ : ∃ q, q = wr := ⟨_, rfl⟩
                  rw [← hw16] at hb16 ⊢
                  clear hw16
                  have HB1516 := Lib.hid hb16
                  have HB716 := Lib.hid (HB715.out.trans (hb16.mono HB715.out.size))
                  have HB1116 := Lib.hid (HB1115.out.trans (hb16.mono HB1115.out.size))
                  have hA16 := HA15.out.keep hb16
                  have hF16 := HF15.out.keep hb16
                  have hT16 := HT15.out.keep hb16
                  have hP16 := HP15.out.keep hb16
                  have hK16 := HK15.out.keep hb16
                  have HB16 := Lib.hid (HB15.out.trans (hb16.mono HB15.out.size))
                  have HX16 := Lib.hid (HX15.out.below hb16)
                  clear a0 a1 a2 f0 f1 f2 t0 t1 t2 p0 p1 p2 k0 k1 k2 k3 k4 k5 hb16
                  have a0 := hA16.cell 0
                  have a1 := hA16.cell 1
                  have a2 := hA16.cell 2
                  have f0 := hF16.cell 0
                  have f1 := hF16.cell 1
                  have f2 := hF16.cell 2
                  have t0 := hT16.cell 0
                  have t1 := hT16.cell 1
                  have t2 := hT16.cell 2
                  have p0 := hP16.cell 0
                  have p1 := hP16.cell 1
                  have p2 := hP16.cell 2
                  have k0 := hK16.cell 0
                  have k1 := hK16.cell 1
                  have k2 := hK16.cell 2
                  have k3 := hK16.cell 3
                  have k4 := hK16.cell 4
                  have k5 := hK16.cell 5
                  simp at a0 a1 a2 f0 f1 f2 t0 t1 t2 p0 p1 p2 k0 k1 k2 k3 k4 k5
                  have HA16 := Lib.hid hA16
                  have HF16 := Lib.hid hF16
                  have HT16 := Lib.hid hT16
                  have HP16 := Lib.hid hP16
                  have HK16 := Lib.hid hK16
                  clear hA16 hF16 hT16 hP16 hK16
                  by_cases hlt : j < n
                  · have p0 : (0 : Int) ≤ (j : Int) := by omega
                    have p1 : (j : Int) < (n : Int) := by omega
                    have hn40 : n ≤ 40 := HR.out.2.1
                    obtain ⟨bq, oq, hAq, hbq, hcq⟩ := (HS.out.below HB16.out).at (by omega)
                    have cq := (hcq j hlt).1
                    have HSB : Hid (stTk S t (j + 1) = (stTk S t j || decide (S j 0 = t))) := rfl
                    subst hAq
                    generalize stTk S t j = q at *
                    obtain ⟨x, hx⟩ : ∃ x, x = S j 0 := ⟨_, rfl⟩
                    rw [← hx] at cq HSB
                    clear hx hcq hbq
                    by_cases hxt : x = t
                    · have d1 : (x == t) = true := by simpa using hxt
                      rw [decide_eq_true hxt, Bool.or_true] at HSB
                      cases q
                      all_goals
                        go_wp2
                        go_roundw
                        case rel => exact ⟨j + 1, by omega, by go_num, by rw [HSB.out]; first | rfl | trace_state, HB1516.out⟩
                        case measure => simp [intOf]; omega
                    · have d1 : (x == t) = false := by simpa using hxt
                      rw [decide_eq_false hxt, Bool.or_false] at HSB
                      cases q
                      all_goals
                        go_wp2
                        go_roundw
                        case rel => exact ⟨j + 1, by omega, by go_num, by rw [HSB.out]; first | rfl | trace_state, HB1516.out⟩
                        case measure => simp [intOf]; omega
                  · obtain rfl : n = j := by omega
                    clear hlt hj
                    cases hq : stTk S t n
                    case true =>
                      have HPI := HI
                      clear hq
                      go_wp2_with fail
                      refine (inBox_ok w16 HPI.out.1 HPI.out.2.1 HPI.out.2.2).mono ?_
                      rintro e w17 ⟨rfl, hb⟩
                      have HB717 := Lib.hid (HB716.out.trans (hb.mono HB716.out.size))
                      have hA17 := HA16.out.keep hb
                      have hF17 := HF16.out.keep hb
                      have hT17 := HT16.out.keep hb
                      have hP17 := HP16.out.keep hb
                      have hK17 := HK16.out.keep hb
                      have HB17 := Lib.hid (HB16.out.trans (hb.mono HB16.out.size))
                      have HX17 := Lib.hid (HX16.out.below hb)
                      clear a0 a1 a2 f0 f1 f2 t0 t1 t2 p0 p1 p2 k0 k1 k2 k3 k4 k5 hb
                      have a0 := hA17.cell 0
                      have a1 := hA17.cell 1
                      have a2 := hA17.cell 2
                      have f0 := hF17.cell 0
                      have f1 := hF17.cell 1
                      have f2 := hF17.cell 2
                      have t0 := hT17.cell 0
                      have t1 := hT17.cell 1
                      have t2 := hT17.cell 2
                      have p0 := hP17.cell 0
                      have p1 := hP17.cell 1
                      have p2 := hP17.cell 2
                      have k0 := hK17.cell 0
                      have k1 := hK17.cell 1
                      have k2 := hK17.cell 2
                      have k3 := hK17.cell 3
                      have k4 := hK17.cell 4
                      have k5 := hK17.cell 5
                      simp at a0 a1 a2 f0 f1 f2 t0 t1 t2 p0 p1 p2 k0 k1 k2 k3 k4 k5
                      have HA17 := Lib.hid hA17
                      have HF17 := Lib.hid hF17
                      have HT17 := Lib.hid hT17
                      have HP17 := Lib.hid hP17
                      have HK17 := Lib.hid hK17
                      clear hA17 hF17 hT17 hP17 hK17
                      go_wp2_with fail
                      refine (copy_any s b A n c S w17 (HS.out.below HB17.out) (by have := few_size HFW.out; omega) HNIL.out).mono ?_
                      rintro e w18 ⟨A18, c18, rfl, hst, hn1, hc1, _, _, hb⟩
                      go_wp2_with fail
                      refine (squareAt_any s b A18 n c18 S t 0 0 0 w18 hst H1.out hn1 hc1).mono ?_
                      rw [HSQR.out]
                      rintro e w19 ⟨rfl, hb2⟩
                      have hb3 := below_two hb hb2
                      clear hst hn1 hc1 hb hb2
                      have HB719 := Lib.hid (HB717.out.trans (hb3.mono HB717.out.size))
                      have hA19 := HA17.out.keep hb3
                      have hF19 := HF17.out.keep hb3
                      have hT19 := HT17.out.keep hb3
                      have hP19 := HP17.out.keep hb3
                      have hK19 := HK17.out.keep hb3
                      have HB19 := Lib.hid (HB17.out.trans (hb3.mono HB17.out.size))
                      have HX19 := Lib.hid (HX17.out.below hb3)
                      clear a0 a1 a2 f0 f1 f2 t0 t1 t2 p0 p1 p2 k0 k1 k2 k3 k4 k5 hb3
                      have a0 := hA19.cell 0
                      have a1 := hA19.cell 1
                      have a2 := hA19.cell 2
                      have f0 := hF19.cell 0
                      have f1 := hF19.cell 1
                      have f2 := hF19.cell 2
                      have t0 := hT19.cell 0
                      have t1 := hT19.cell 1
                      have t2 := hT19.cell 2
                      have p0 := hP19.cell 0
                      have p1 := hP19.cell 1
                      have p2 := hP19.cell 2
                      have k0 := hK19.cell 0
                      have k1 := hK19.cell 1
                      have k2 := hK19.cell 2
                      have k3 := hK19.cell 3
                      have k4 := hK19.cell 4
                      have k5 := hK19.cell 5
                      simp at a0 a1 a2 f0 f1 f2 t0 t1 t2 p0 p1 p2 k0 k1 k2 k3 k4 k5
                      have HA19 := Lib.hid hA19
                      have HF19 := Lib.hid hF19
                      have HT19 := Lib.hid hT19
                      have HP19 := Lib.hid hP19
                      have HK19 := Lib.hid hK19
                      clear hA19 hF19 hT19 hP19 hK19
                      have lA : w.heap.size < w19.heap.size := HA19.out.lt
                      have lF : w.heap.size + 1 < w19.heap.size := HF19.out.lt
                      have lT : w4.heap.size < w19.heap.size := HT19.out.lt
                      have lP : w11.heap.size < w19.heap.size := HP19.out.lt
                      have lK : w14.heap.size < w19.heap.size := HK19.out.lt
                      obtain ⟨q0, q1⟩ := HKS.out _ _ _ HPI.out.1 HPI.out.2.1 HPI.out.2.2
                      have r1 := HK.out
                      have r2 := HPI.out
                      obtain ⟨w1', w2', w3', w4', w5', d1, d2⟩ := place_sums (x := n1) (y := n2) (z := n3) (by omega) (by omega) (by omega) q0 q1
                      have hlt := HLT.out
                      have w6' : IntKind.i64.wrap (t + 1) = t + 1 := IntWalk.i64_in _ (by omega)
                      clear q0 q1 r1 r2
                      go_wp2
                      go_roundw
                      case rel => exact ⟨t + 1, rfl, by omega, by omega, below_new HB719.out HB719.out.size⟩
                      case measure => simp [intOf]; omega
                    case false =>
                      obtain ⟨j1, j2, j3⟩ := HJ.out
                      have j1 := j1 (stTk_false hq)
                      have j2 := j2 (stTk_false hq)
                      have j3 := j3 (stTk_false hq)
                      have hbb := HBB.out
                      have v1 := Mo_range (a := x1) (m := 2 * b + 1) (by omega)
                      have v2 := Mo_range (a := x2) (m := 2 * b + 1) (by omega)
                      have v3 := Mo_range (a := x3) (m := 2 * b + 1) (by omega)
                      have M1 : Hid (∀ W : World, Calls Try.prog 48 #[.int .i64 x1, .int .i64 (2 * b + 1)] W fun e w' => e = .returned (.int .i64 (Mo x1 (2 * b + 1))) ∧ w' = W) := fun W => (mod_any _ _ W (by omega) (by omega)).mono fun _ _ ⟨he, hw⟩ => ⟨he, hw.symm⟩
                      have M2 : Hid (∀ W : World, Calls Try.prog 48 #[.int .i64 x2, .int .i64 (2 * b + 1)] W fun e w' => e = .returned (.int .i64 (Mo x2 (2 * b + 1))) ∧ w' = W) := fun W => (mod_any _ _ W (by omega) (by omega)).mono fun _ _ ⟨he, hw⟩ => ⟨he, hw.symm⟩
                      have M3 : Hid (∀ W : World, Calls Try.prog 48 #[.int .i64 x3, .int .i64 (2 * b + 1)] W fun e w' => e = .returned (.int .i64 (Mo x3 (2 * b + 1))) ∧ w' = W) := fun W => (mod_any _ _ W (by omega) (by omega)).mono fun _ _ ⟨he, hw⟩ => ⟨he, hw.symm⟩
                      generalize Mo x1 (2 * b + 1) = o1 at *
                      generalize Mo x2 (2 * b + 1) = o2 at *
                      generalize Mo x3 (2 * b + 1) = o3 at *
                      have r1 := HK.out
                      have wb1 : IntKind.i64.wrap (2 * b) = 2 * b := IntWalk.i64_in _ (by omega)
                      have wb2 : IntKind.i64.wrap (2 * b + 1) = 2 * b + 1 := IntWalk.i64_in _ (by omega)
                      have wn1 : IntKind.i64.wrap (n1 + o1) = n1 + o1 := IntWalk.i64_in _ (by omega)
                      have wn2 : IntKind.i64.wrap (n2 + o2) = n2 + o2 := IntWalk.i64_in _ (by omega)
                      have wn3 : IntKind.i64.wrap (n3 + o3) = n3 + o3 := IntWalk.i64_in _ (by omega)
                      obtain ⟨px1, hp1⟩ : ∃ q, q = n1 + o1 - b := ⟨_, rfl⟩
                      obtain ⟨px2, hp2⟩ : ∃ q, q = n2 + o2 - b := ⟨_, rfl⟩
                      obtain ⟨px3, hp3⟩ : ∃ q, q = n3 + o3 - b := ⟨_, rfl⟩
                      have wo1 : IntKind.i64.wrap (n1 + o1 - b) = px1 := by rw [hp1]; exact IntWalk.i64_in _ (by omega)
                      have wo2 : IntKind.i64.wrap (n2 + o2 - b) = px2 := by rw [hp2]; exact IntWalk.i64_in _ (by omega)
                      have wo3 : IntKind.i64.wrap (n3 + o3 - b) = px3 := by rw [hp3]; exact IntWalk.i64_in _ (by omega)
                      have HPI : Hid ((l1 ≤ px1 ∧ px1 ≤ h1) ∧ (l2 ≤ px2 ∧ px2 ≤ h2) ∧ (l3 ≤ px3 ∧ px3 ≤ h3)) := ⟨by omega, by omega, by omega⟩
                      clear j1 j2 j3 hq hbb v1 v2 v3 r1 hp1 hp2 hp3
                      go_wp2_with fail
                      refine wp_region_still_tail 14 (by kernel_rfl) (by kernel_rfl) ?_
                      simp only [List.take_succ_cons, List.take_zero, List.drop_succ_cons, List.drop_zero]
                      repeat (first | still_step | still_call (M1.out _))
                      try refine wpStill_nil ?_
                      change wpList _ _ _ _ _ w16.drew
                      have hP : At w16.drew w11.heap.size 42 #[.int .i64 n1, .int .i64 n2, .int .i64 n3] := HP16.out
                      have hK : At w16.drew w14.heap.size 47 #[.int .i64 l1, .int .i64 h1, .int .i64 l2, .int .i64 h2, .int .i64 l3, .int .i64 h3] := HK16.out
                      have hB : Below w11.heap.size w11 w16.drew := HB1116.out.drew
                      generalize hwz : w16.drew = wd at hP hK hB ⊢
                      clear hwz a0 a1 a2 f0 f1 f2 t0 t1 t2 p0 p1 p2 k0 k1 k2 k3 k4 k5
                      have p0 := hP.cell 0
                      have pz := hP.free 0
                      simp at p0
                      have HPd := Lib.hid hP
                      have HKd := Lib.hid hK
                      have HBd := Lib.hid hB
                      clear hP hK hB
                      go_upto_region 35 with fail
                      have hP17 : At (wd.setCell ⟨w11.heap.size, 0, none⟩ (.int .i64 px1)) w11.heap.size 42 #[.int .i64 px1, .int .i64 n2, .int .i64 n3] := HPd.out.put 0 _
                      have hK17 : At (wd.setCell ⟨w11.heap.size, 0, none⟩ (.int .i64 px1)) w14.heap.size 47 #[.int .i64 l1, .int .i64 h1, .int .i64 l2, .int .i64 h2, .int .i64 l3, .int .i64 h3] := HKd.out.far (by have := HP14.out.lt; simp; omega) _
                      have hb : Below w11.heap.size w11 (wd.setCell ⟨w11.heap.size, 0, none⟩ (.int .i64 px1)) := below_set HBd.out (Nat.le_refl _)
                      generalize hwz : (wd.setCell ⟨w11.heap.size, 0, none⟩ (.int .i64 px1)) = w17 at hP17 hK17 hb ⊢
                      clear hwz p0 pz
                      have hA17 := HA11.out.keep hb
                      have hF17 := HF11.out.keep hb
                      have hT17 := HT11.out.keep hb
                      have HB17 := Lib.hid (HB11.out.trans (hb.mono HB11.out.size))
                      have HB717 := Lib.hid (HB711.out.trans (hb.mono HB711.out.size))
                      have HX17 := Lib.hid (HX11.out.below hb)
                      have HB1117 := Lib.hid hb
                      clear hb HPd HKd HBd
                      have a0 := hA17.cell 0
                      have a1 := hA17.cell 1
                      have a2 := hA17.cell 2
                      have f0 := hF17.cell 0
                      have f1 := hF17.cell 1
                      have f2 := hF17.cell 2
                      have t0 := hT17.cell 0
                      have t1 := hT17.cell 1
                      have t2 := hT17.cell 2
                      have p0 := hP17.cell 0
                      have p1 := hP17.cell 1
                      have p2 := hP17.cell 2
                      have k0 := hK17.cell 0
                      have k1 := hK17.cell 1
                      have k2 := hK17.cell 2
                      have k3 := hK17.cell 3
                      have k4 := hK17.cell 4
                      have k5 := hK17.cell 5
                      simp at a0 a1 a2 f0 f1 f2 t0 t1 t2 p0 p1 p2 k0 k1 k2 k3 k4 k5
                      have HA17 := Lib.hid hA17
                      have HF17 := Lib.hid hF17
                      have HT17 := Lib.hid hT17
                      have HP17 := Lib.hid hP17
                      have HK17 := Lib.hid hK17
                      clear hA17 hF17 hT17 hP17 hK17
                      go_wp2_with fail
                      refine wp_region_still_tail 14 (by kernel_rfl) (by kernel_rfl) ?_
                      simp only [List.take_succ_cons, List.take_zero, List.drop_succ_cons, List.drop_zero]
                      repeat (first | still_step | still_call (M2.out _))
                      try refine wpStill_nil ?_
                      change wpList _ _ _ _ _ w17.drew
                      have hP : At w17.drew w11.heap.size 42 #[.int .i64 px1, .int .i64 n2, .int .i64 n3] := HP17.out
                      have hK : At w17.drew w14.heap.size 47 #[.int .i64 l1, .int .i64 h1, .int .i64 l2, .int .i64 h2, .int .i64 l3, .int .i64 h3] := HK17.out
                      have hB : Below w11.heap.size w11 w17.drew := HB1117.out.drew
                      generalize hwz : w17.drew = wd at hP hK hB ⊢
                      clear hwz a0 a1 a2 f0 f1 f2 t0 t1 t2 p0 p1 p2 k0 k1 k2 k3 k4 k5
                      have p1 := hP.cell 1
                      have pz := hP.free 1
                      simp at p1
                      have HPd := Lib.hid hP
                      have HKd := Lib.hid hK
                      have HBd := Lib.hid hB
                      clear hP hK hB
                      go_upto_region 36 with fail
                      have hP18 : At (wd.setCell ⟨w11.heap.size, 1, none⟩ (.int .i64 px2)) w11.heap.size 42 #[.int .i64 px1, .int .i64 px2, .int .i64 n3] := HPd.out.put 1 _
                      have hK18 : At (wd.setCell ⟨w11.heap.size, 1, none⟩ (.int .i64 px2)) w14.heap.size 47 #[.int .i64 l1, .int .i64 h1, .int .i64 l2, .int .i64 h2, .int .i64 l3, .int .i64 h3] := HKd.out.far (by have := HP14.out.lt; simp; omega) _
                      have hb : Below w11.heap.size w11 (wd.setCell ⟨w11.heap.size, 1, none⟩ (.int .i64 px2)) := below_set HBd.out (Nat.le_refl _)
                      generalize hwz : (wd.setCell ⟨w11.heap.size, 1, none⟩ (.int .i64 px2)) = w18 at hP18 hK18 hb ⊢
                      clear hwz p1 pz
                      have hA18 := HA11.out.keep hb
                      have hF18 := HF11.out.keep hb
                      have hT18 := HT11.out.keep hb
                      have HB18 := Lib.hid (HB11.out.trans (hb.mono HB11.out.size))
                      have HB718 := Lib.hid (HB711.out.trans (hb.mono HB711.out.size))
                      have HX18 := Lib.hid (HX11.out.below hb)
                      have HB1118 := Lib.hid hb
                      clear hb HPd HKd HBd
                      have a0 := hA18.cell 0
                      have a1 := hA18.cell 1
                      have a2 := hA18.cell 2
                      have f0 := hF18.cell 0
                      have f1 := hF18.cell 1
                      have f2 := hF18.cell 2
                      have t0 := hT18.cell 0
                      have t1 := hT18.cell 1
                      have t2 := hT18.cell 2
                      have p0 := hP18.cell 0
                      have p1 := hP18.cell 1
                      have p2 := hP18.cell 2
                      have k0 := hK18.cell 0
                      have k1 := hK18.cell 1
                      have k2 := hK18.cell 2
                      have k3 := hK18.cell 3
                      have k4 := hK18.cell 4
                      have k5 := hK18.cell 5
                      simp at a0 a1 a2 f0 f1 f2 t0 t1 t2 p0 p1 p2 k0 k1 k2 k3 k4 k5
                      have HA18 := Lib.hid hA18
                      have HF18 := Lib.hid hF18
                      have HT18 := Lib.hid hT18
                      have HP18 := Lib.hid hP18
                      have HK18 := Lib.hid hK18
                      clear hA18 hF18 hT18 hP18 hK18
                      go_wp2_with fail
                      refine wp_region_still_tail 14 (by kernel_rfl) (by kernel_rfl) ?_
                      simp only [List.take_succ_cons, List.take_zero, List.drop_succ_cons, List.drop_zero]
                      repeat (first | still_step | still_call (M3.out _))
                      try refine wpStill_nil ?_
                      change wpList _ _ _ _ _ w18.drew
                      have hP : At w18.drew w11.heap.size 42 #[.int .i64 px1, .int .i64 px2, .int .i64 n3] := HP18.out
                      have hK : At w18.drew w14.heap.size 47 #[.int .i64 l1, .int .i64 h1, .int .i64 l2, .int .i64 h2, .int .i64 l3, .int .i64 h3] := HK18.out
                      have hB : Below w11.heap.size w11 w18.drew := HB1118.out.drew
                      generalize hwz : w18.drew = wd at hP hK hB ⊢
                      clear hwz a0 a1 a2 f0 f1 f2 t0 t1 t2 p0 p1 p2 k0 k1 k2 k3 k4 k5
                      have p2 := hP.cell 2
                      have pz := hP.free 2
                      simp at p2
                      have HPd := Lib.hid hP
                      have HKd := Lib.hid hK
                      have HBd := Lib.hid hB
                      clear hP hK hB
                      go_upto_region 37 with fail
                      have hP19 : At (wd.setCell ⟨w11.heap.size, 2, none⟩ (.int .i64 px3)) w11.heap.size 42 #[.int .i64 px1, .int .i64 px2, .int .i64 px3] := HPd.out.put 2 _
                      have hK19 : At (wd.setCell ⟨w11.heap.size, 2, none⟩ (.int .i64 px3)) w14.heap.size 47 #[.int .i64 l1, .int .i64 h1, .int .i64 l2, .int .i64 h2, .int .i64 l3, .int .i64 h3] := HKd.out.far (by have := HP14.out.lt; simp; omega) _
                      have hb : Below w11.heap.size w11 (wd.setCell ⟨w11.heap.size, 2, none⟩ (.int .i64 px3)) := below_set HBd.out (Nat.le_refl _)
                      generalize hwz : (wd.setCell ⟨w11.heap.size, 2, none⟩ (.int .i64 px3)) = w19 at hP19 hK19 hb ⊢
                      clear hwz p2 pz
                      have hA19 := HA11.out.keep hb
                      have hF19 := HF11.out.keep hb
                      have hT19 := HT11.out.keep hb
                      have HB19 := Lib.hid (HB11.out.trans (hb.mono HB11.out.size))
                      have HB719 := Lib.hid (HB711.out.trans (hb.mono HB711.out.size))
                      have HX19 := Lib.hid (HX11.out.below hb)
                      have HB1119 := Lib.hid hb
                      clear hb HPd HKd HBd
                      have a0 := hA19.cell 0
                      have a1 := hA19.cell 1
                      have a2 := hA19.cell 2
                      have f0 := hF19.cell 0
                      have f1 := hF19.cell 1
                      have f2 := hF19.cell 2
                      have t0 := hT19.cell 0
                      have t1 := hT19.cell 1
                      have t2 := hT19.cell 2
                      have p0 := hP19.cell 0
                      have p1 := hP19.cell 1
                      have p2 := hP19.cell 2
                      have k0 := hK19.cell 0
                      have k1 := hK19.cell 1
                      have k2 := hK19.cell 2
                      have k3 := hK19.cell 3
                      have k4 := hK19.cell 4
                      have k5 := hK19.cell 5
                      simp at a0 a1 a2 f0 f1 f2 t0 t1 t2 p0 p1 p2 k0 k1 k2 k3 k4 k5
                      have HA19 := Lib.hid hA19
                      have HF19 := Lib.hid hF19
                      have HT19 := Lib.hid hT19
                      have HP19 := Lib.hid hP19
                      have HK19 := Lib.hid hK19
                      clear hA19 hF19 hT19 hP19 hK19
                      clear M1 M2 M3 wb1 wb2 wn1 wn2 wn3 wo1 wo2 wo3
                      go_wp2_with fail
                      refine (inBox_ok w19 HPI.out.1 HPI.out.2.1 HPI.out.2.2).mono ?_
                      rintro e w20 ⟨rfl, hb⟩
                      have HB720 := Lib.hid (HB719.out.trans (hb.mono HB719.out.size))
                      have hA20 := HA19.out.keep hb
                      have hF20 := HF19.out.keep hb
                      have hT20 := HT19.out.keep hb
                      have hP20 := HP19.out.keep hb
                      have hK20 := HK19.out.keep hb
                      have HB20 := Lib.hid (HB19.out.trans (hb.mono HB19.out.size))
                      have HX20 := Lib.hid (HX19.out.below hb)
                      clear a0 a1 a2 f0 f1 f2 t0 t1 t2 p0 p1 p2 k0 k1 k2 k3 k4 k5 hb
                      have a0 := hA20.cell 0
                      have a1 := hA20.cell 1
                      have a2 := hA20.cell 2
                      have f0 := hF20.cell 0
                      have f1 := hF20.cell 1
                      have f2 := hF20.cell 2
                      have t0 := hT20.cell 0
                      have t1 := hT20.cell 1
                      have t2 := hT20.cell 2
                      have p0 := hP20.cell 0
                      have p1 := hP20.cell 1
                      have p2 := hP20.cell 2
                      have k0 := hK20.cell 0
                      have k1 := hK20.cell 1
                      have k2 := hK20.cell 2
                      have k3 := hK20.cell 3
                      have k4 := hK20.cell 4
                      have k5 := hK20.cell 5
                      simp at a0 a1 a2 f0 f1 f2 t0 t1 t2 p0 p1 p2 k0 k1 k2 k3 k4 k5
                      have HA20 := Lib.hid hA20
                      have HF20 := Lib.hid hF20
                      have HT20 := Lib.hid hT20
                      have HP20 := Lib.hid hP20
                      have HK20 := Lib.hid hK20
                      clear hA20 hF20 hT20 hP20 hK20
                      go_wp2_with fail
                      refine (copy_any s b A n c S w20 (HS.out.below HB20.out) (by have := few_size HFW.out; omega) HNIL.out).mono ?_
                      rintro e w21 ⟨A21, c21, rfl, hst, hn1, hc1, _, _, hb⟩
                      go_wp2_with fail
                      refine (squareAt_any s b A21 n c21 S t 0 0 0 w21 hst H1.out hn1 hc1).mono ?_
                      rw [HSQR.out]
                      rintro e w22 ⟨rfl, hb2⟩
                      have hb3 := below_two hb hb2
                      clear hst hn1 hc1 hb hb2
                      have HB722 := Lib.hid (HB720.out.trans (hb3.mono HB720.out.size))
                      have hA22 := HA20.out.keep hb3
                      have hF22 := HF20.out.keep hb3
                      have hT22 := HT20.out.keep hb3
                      have hP22 := HP20.out.keep hb3
                      have hK22 := HK20.out.keep hb3
                      have HB22 := Lib.hid (HB20.out.trans (hb3.mono HB20.out.size))
                      have HX22 := Lib.hid (HX20.out.below hb3)
                      clear a0 a1 a2 f0 f1 f2 t0 t1 t2 p0 p1 p2 k0 k1 k2 k3 k4 k5 hb3
                      have a0 := hA22.cell 0
                      have a1 := hA22.cell 1
                      have a2 := hA22.cell 2
                      have f0 := hF22.cell 0
                      have f1 := hF22.cell 1
                      have f2 := hF22.cell 2
                      have t0 := hT22.cell 0
                      have t1 := hT22.cell 1
                      have t2 := hT22.cell 2
                      have p0 := hP22.cell 0
                      have p1 := hP22.cell 1
                      have p2 := hP22.cell 2
                      have k0 := hK22.cell 0
                      have k1 := hK22.cell 1
                      have k2 := hK22.cell 2
                      have k3 := hK22.cell 3
                      have k4 := hK22.cell 4
                      have k5 := hK22.cell 5
                      simp at a0 a1 a2 f0 f1 f2 t0 t1 t2 p0 p1 p2 k0 k1 k2 k3 k4 k5
                      have HA22 := Lib.hid hA22
                      have HF22 := Lib.hid hF22
                      have HT22 := Lib.hid hT22
                      have HP22 := Lib.hid hP22
                      have HK22 := Lib.hid hK22
                      clear hA22 hF22 hT22 hP22 hK22
                      have lA : w.heap.size < w22.heap.size := HA22.out.lt
                      have lF : w.heap.size + 1 < w22.heap.size := HF22.out.lt
                      have lT : w4.heap.size < w22.heap.size := HT22.out.lt
                      have lP : w11.heap.size < w22.heap.size := HP22.out.lt
                      have lK : w14.heap.size < w22.heap.size := HK22.out.lt
                      obtain ⟨q0, q1⟩ := HKS.out _ _ _ HPI.out.1 HPI.out.2.1 HPI.out.2.2
                      have r1 := HK.out
                      have r2 := HPI.out
                      obtain ⟨w1', w2', w3', w4', w5', d1, d2⟩ := place_sums (x := px1) (y := px2) (z := px3) (by omega) (by omega) (by omega) q0 q1
                      have hlt := HLT.out
                      have w6' : IntKind.i64.wrap (t + 1) = t + 1 := IntWalk.i64_in _ (by omega)
                      clear q0 q1 r1 r2
                      go_wp2
                      go_roundw
                      case rel => exact ⟨t + 1, rfl, by omega, by omega, below_new HB722.out HB722.out.size⟩
                      case measure => simp [intOf]; omega
end Go.Proofs.Ytnaanninmkplfaa
