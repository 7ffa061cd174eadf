/- Contract: what every law on orbits asks first, the examples of the document. -/
import Derived.Test.YtnaanninmkplfaaOne
import Derived.Test.YtnaanninmkplfaaOps
import Derived.Test.YtnaanninmkplfaaOfe
import Derived.Test.YtnaanninmkplfaaOrg
namespace Go.Proofs.Ytnaanninmkplfaa
open Go.RowKit
set_option maxHeartbeats 800000
set_option maxRecDepth 100000

theorem aw_box : boxR (nmB pN) 2 2 pS 3 = .tuple #[.agg #[.int .i64 11, .int .i64 19, .int .i64 2, .int .i64 10, .int .i64 96, .int .i64 104], .int .i64 0] := by kernel_rfl
theorem aw_sq : sqR (nmB pN) 2 2 pS 3 15 6 0 = .tuple #[.agg #[.int .i64 9216, .int .i64 10848], .int .i64 0] := by kernel_rfl
theorem aw_e0 : eP (nmB pN) 2 2 pS 30 12 0 = 0 := by kernel_rfl
theorem aw_e1 : eS (nmB pN) 2 2 pS 30 12 0 101 = 0 := by kernel_rfl
theorem aw_six : ∀ k : Fin 11, (k.val < 6 → sqN pS 2 6 (P3 30 12 0) < sqN pS 2 (k.val : Int) (P3 30 12 0)) ∧ (6 < k.val → sqN pS 2 6 (P3 30 12 0) ≤ sqN pS 2 (k.val : Int) (P3 30 12 0)) := by decide +kernel
theorem aw_val : sqN pS 2 6 (P3 30 12 0) = 10000 := by kernel_rfl
theorem aw_least {t : Int} (h : Least pS 2 (fun t => sqN pS 2 t (P3 30 12 0)) t) : t = 6 := by
  obtain ⟨⟨h1, h2⟩, h3, h4⟩ := h
  have e1 : pS 0 0 = 0 := rfl
  have e2 : pS (2 - 1) 0 = 10 := rfl
  rw [e1] at h1
  rw [e2] at h2
  have h6 : Go.Proofs.Ytnaanninmkplfaa.Has pS 2 6 := ⟨by rw [e1]; omega, by rw [e2]; omega⟩
  obtain ⟨k, rfl⟩ : ∃ k : Nat, t = (k : Int) := ⟨t.toNat, by omega⟩
  obtain ⟨a, b⟩ := aw_six ⟨k, by omega⟩
  have c := h3 6 h6
  have d := h4 6 h6
  simp only at a b c d
  rcases Nat.lt_trichotomy k 6 with g | g | g
  · have := a g
    omega
  · rw [g]; rfl
  · have := b g
    have := d (by omega)
    omega
theorem aw_pass : passK (nearB pS 2 (P3 30 12 0) 101) (pS 0 0) (nT pS 2) = [(4, 8)] := by kernel_rfl
theorem pN_size : pN.size ≤ maxLen := by unfold maxLen; decide

theorem rn_new (w : World) (L : List (Int × Int)) : Rn (w.alloc (.cells (cellsR L).toArray 46)) (some ⟨w.heap.size, 0, none⟩) L := fun _ => by
  refine ⟨w.heap.size, 0, rfl, by simp, fun i q hi => ?_⟩
  have hA := At.new w 46 (cellsR L).toArray
  obtain ⟨h1, h2⟩ := cellsR_get hi
  rw [Nat.zero_add]
  exact ⟨(hA.cell (i * 2)).trans (by simpa using h1), (hA.cell (i * 2 + 1)).trans (by simpa using h2)⟩
theorem awake_ok (w : World) : Calls Try.prog 16 #[] w fun e w' => e = .returned (.bool true) ∧ Below w.heap.size w w' := by
  go_enter Try.func16, Try.ntmps16
  go_wp2_with fail
  refine (pass_any w).mono ?_
  rintro e w1 ⟨g1, rfl, hs1, hb1⟩
  go_wp2_with fail
  refine (boxAt_any pN 2 _ 2 2 pS 3 w1 hs1 pN_size (by decide) (by decide)).mono ?_
  rw [aw_box]
  rintro e w2 ⟨rfl, hb2⟩
  have hB2 := hb1.trans (hb2.mono hb1.size)
  clear hs1 hb1 hb2
  go_wp2_with fail
  have hA3 := At.new w2 47 #[.int .i64 11, .int .i64 19, .int .i64 2, .int .i64 10, .int .i64 96, .int .i64 104]
  have hB3 := below_new hB2 hB2.size (o := .cells #[.int .i64 11, .int .i64 19, .int .i64 2, .int .i64 10, .int .i64 96, .int .i64 104] 47)
  generalize hW3 : w2.alloc (.cells #[.int .i64 11, .int .i64 19, .int .i64 2, .int .i64 10, .int .i64 96, .int .i64 104] 47) = w3 at hA3 hB3 ⊢
  clear hW3 hB2
  refine (pass_any w3).mono ?_
  rintro e w4 ⟨g4, rfl, hs4, hb4⟩
  go_wp2_with fail
  refine (squareAt_any pN 2 _ 2 2 pS 3 15 6 0 w4 hs4 pN_size (by decide) (by decide)).mono ?_
  rw [aw_sq]
  rintro e w5 ⟨rfl, hb5⟩
  have hA5 := (hA3.keep hb4).keep hb5
  have hB5 := (hB3.trans (hb4.mono hB3.size)).trans (hb5.mono (hB3.trans (hb4.mono hB3.size)).size)
  clear hs4 hb4 hb5 hA3 hB3
  go_wp2_with fail
  have hA6 := At.new w5 46 #[.int .i64 9216, .int .i64 10848]
  have hB6 := below_new hB5 hB5.size (o := .cells #[.int .i64 9216, .int .i64 10848] 46)
  have hC6 := hA5.alloc (.cells #[.int .i64 9216, .int .i64 10848] 46)
  generalize hW6 : w5.alloc (.cells #[.int .i64 9216, .int .i64 10848] 46) = w6 at hA6 hB6 hC6 ⊢
  clear hW6 hB5 hA5
  refine (pass_any w6).mono ?_
  rintro e w7 ⟨g7, rfl, hs7, hb7⟩
  go_wp2_with fail
  refine (nearest_any pN 2 _ 2 2 pS 30 12 0 w7 hs7 pN_size (by decide) (by decide)).mono ?_
  rintro e w8 ⟨hN, hb8⟩
  rcases hN with ⟨h, _⟩ | ⟨_, t, ht, rfl⟩
  · exact absurd aw_e0 h
  obtain rfl := aw_least ht
  rw [aw_val]
  have hA8 := (hA6.keep hb7).keep hb8
  have hC8 := (hC6.keep hb7).keep hb8
  have hB8 := (hB6.trans (hb7.mono hB6.size)).trans (hb8.mono (hB6.trans (hb7.mono hB6.size)).size)
  clear hs7 hb7 hb8 hA6 hB6 hC6 ht
  go_wp2_with fail
  refine (pass_any w8).mono ?_
  rintro e w9 ⟨g9, rfl, hs9, hb9⟩
  go_wp2_with fail
  refine (passes_any pN 2 _ 2 2 pS 30 12 0 101 w9 hs9 pN_size (by decide) (by decide)).mono ?_
  rintro e w10 ⟨hP, hb10⟩
  rcases hP with ⟨h, _⟩ | ⟨_, v, rfl, ho⟩
  · exact absurd aw_e1 h
  rw [aw_pass] at ho
  obtain ⟨A10, c10, rfl, hr⟩ := ho.rn
  have hA10 := (hA8.keep hb9).keep hb10
  have hC10 := (hC8.keep hb9).keep hb10
  have hB10 := (hB8.trans (hb9.mono hB8.size)).trans (hb10.mono (hB8.trans (hb9.mono hB8.size)).size)
  have k0 := hC10.cell 0
  have k1 := hC10.cell 1
  have k2 := hC10.cell 2
  have k3 := hC10.cell 3
  have k4 := hC10.cell 4
  have k5 := hC10.cell 5
  have j0 := hA10.cell 0
  have j1 := hA10.cell 1
  simp at k0 k1 k2 k3 k4 k5 j0 j1
  have HR := Lib.hid hr
  have HB10 := Lib.hid hB10
  clear hs9 hb9 hb10 hA8 hB8 hC8 ho hr hA10 hC10 hB10
  go_wp2_with fail
  have hn := rn_new w10 [(4, 8)]
  have hb11 := below_new HB10.out HB10.out.size (o := .cells #[.int .i64 4, .int .i64 8] 46)
  refine (ranges_any A10 (some ⟨w10.heap.size, 0, none⟩) c10 1 [(4, 8)] [(4, 8)] _ (HR.out.below ((Below.refl _ _).alloc (Nat.le_refl _) _)) hn (by decide) (by decide)).mono ?_
  rintro e w12 ⟨rfl, hb12⟩
  rw [decide_eq_true rfl]
  have hb13 := hb11.trans (hb12.mono hb11.size)
  clear hn hb11 hb12 k0 k1 k2 k3 k4 k5 j0 j1
  go_wp2
  go_ret
  exact ⟨rfl, hb13⟩
end Go.Proofs.Ytnaanninmkplfaa
