/- Contracts of package orbit: an orbit's check, walked. -/
import Derived.Test.YtnaanninmkplfaaOck
namespace Go.Proofs.Ytnaanninmkplfaa
open Go.RowKit
set_option maxHeartbeats 200000
set_option maxRecDepth 100000

/-- the check of an orbit: the number of a wrong state, and its error -/
theorem checkOrbit_any (s : ByteArray) (b : Int) (A : Option Addr) (n c : Nat) (S : Nat → Nat → Int) (w : World) (hS : St w A n S) (hs : s.size ≤ maxLen) (hn : n ≤ c) (hc : c ≤ maxLen) :
    Calls Try.prog 18 #[.agg #[.string s, .int .i64 b, .slice A n c]] w fun e w' =>
      e = .returned (.tuple #[.int .i64 ((oce (nmB s) b n S).1 : Int), .int .i64 (oce (nmB s) b n S).2]) ∧ Below w.heap.size w w' := by
  have HSZ := Lib.hid hs
  have HN := Lib.hid hn
  have HC := Lib.hid hc
  clear hs hn hc
  go_enter Try.func18, Try.ntmps18
  go_wp2_with fail
  have hA := At.new w 24 #[.string s, .int .i64 b, .slice A n c]
  have hb1 : Below w.heap.size w _ := below_new (Below.refl _ w) (Nat.le_refl _) (o := .cells #[.string s, .int .i64 b, .slice A n c] 24)
  obtain ⟨W1, hW1⟩ : ∃ W1, W1 = w.alloc (.cells #[.string s, .int .i64 b, .slice A n c] 24) := ⟨_, rfl⟩
  have hsz : W1.heap.size = w.heap.size + 1 := by rw [hW1]; simp
  rw [← hW1] at hA hb1
  have HW1 := Lib.hid hW1
  have HA := Lib.hid hA
  have HZ := Lib.hid hsz
  have HB1 := Lib.hid hb1
  have HS := Lib.hid hS
  clear hW1 hA hsz hb1 hS
  go_region_held3 (fun w' => w'.cell? ⟨w.heap.size, 0, none⟩ = some (.string s) ∧ w'.cell? ⟨w.heap.size, 1, none⟩ = some (.int .i64 b) ∧ w'.cell? ⟨w.heap.size, 2, none⟩ = some (.slice A n c)) (go_keep)
    (first
      | (go_at_call 72; refine (isName_any _ _ HSZ.out).mono ?_; rintro e w' ⟨rfl, rfl⟩)
      | (go_at_call 73; refine (isError_any _ _).mono ?_; rintro e w' ⟨rfl, rfl⟩)
      | (go_at_call 71; refine (errorIf_any _ _ _).mono ?_; rintro e w' ⟨rfl, rfl⟩)
      | (go_at_call 70; (with_reducible refine (firstError_any _ 4 4 (l4 _ _ _ _) _ (sl_new (by simp) (get_l4 _ _ _ _)) (by omega)).mono ?_); rintro e w' ⟨rfl, rfl⟩)
      | (go_at_call 70; (with_reducible refine (firstError_any _ 4 4 (l4 _ _ _ _) _ (sl_newd (by simp) (get_l4 _ _ _ _)) (by omega)).mono ?_); rintro e w' ⟨rfl, rfl⟩))
  rw [show fe (l4 (eif (!nmB s) 4) (eif (!inB b 0 100000) 2) (eif (decide ((n : Int) < 2)) 10) (eif (decide ((40 : Int) < (n : Int))) 8)) 4 = e0 (nmB s) b n from rfl]
  have hb2 : Below w.heap.size w ((w.alloc (.cells #[.string s, .int .i64 b, .slice A n c] 24)).alloc (.cells #[.int .i64 (eif (!nmB s) 4), .int .i64 (eif (!inB b 0 100000) 2), .int .i64 (eif (decide ((n : Int) < 2)) 10), .int .i64 (eif (decide ((40 : Int) < (n : Int))) 8)] 27)) := below_new (below_new (Below.refl _ w) (Nat.le_refl _)) (by simp)
  have hA2 : At ((w.alloc (.cells #[.string s, .int .i64 b, .slice A n c] 24)).alloc (.cells #[.int .i64 (eif (!nmB s) 4), .int .i64 (eif (!inB b 0 100000) 2), .int .i64 (eif (decide ((n : Int) < 2)) 10), .int .i64 (eif (decide ((40 : Int) < (n : Int))) 8)] 27)) w.heap.size 24 #[.string s, .int .i64 b, .slice A n c] := (At.new w _ _).alloc _
  generalize hW2 : (w.alloc (.cells #[.string s, .int .i64 b, .slice A n c] 24)).alloc (.cells #[.int .i64 (eif (!nmB s) 4), .int .i64 (eif (!inB b 0 100000) 2), .int .i64 (eif (decide ((n : Int) < 2)) 10), .int .i64 (eif (decide ((40 : Int) < (n : Int))) 8)] 27) = W2 at hb2 hA2 ⊢
  clear hW2
  by_cases he : e0 (nmB s) b n = 0
  · obtain ⟨⟨h2, h40⟩, hg⟩ := oce_good S he
    have d1 : (e0 (nmB s) b n != 0) = false := by rw [he]; rfl
    have HG := Lib.hid hg
    have hS2 := HS.out.below hb2
    have HS2 := Lib.hid hS2
    have c2 := hA2.cell 2
    simp at c2
    have HB2 := Lib.hid hb2
    have HA2 := Lib.hid hA2
    have z2 : w.heap.size < W2.heap.size := hA2.lt
    clear he hg hb2 hA2 hS2
    go_wp2
    go_loopw [36] (fun i wr => ∃ k : Nat, k ≤ n ∧ i = .int .i64 (k : Int) ∧ (∀ j, j < k → ste S j = 0) ∧ Below W2.heap.size W2 wr) (fun i _ => n - (intOf i).toNat)
    case atStart => exact ⟨0, Nat.zero_le _, rfl, fun j hj => absurd hj (by omega), (Below.refl _ _).drew⟩
    case round =>
      obtain ⟨k, hk, rfl, hz, hwr⟩ := hrel
      have HQ := Lib.hid hz
      clear hz
      by_cases hlt : k < n
      · have hwr3 := hwr
        obtain ⟨bk, off, rfl, hbk, hc⟩ := (HS2.out.below hwr).at (by omega)
        have c2' := ((HA2.out.keep hwr).cell 2)
        simp at c2'
        obtain ⟨k0, k1, k2, k3, k4⟩ := hc k hlt
        have u1 : (0 : Int) ≤ (k : Int) := by omega
        have u2 : (k : Int) < (n : Int) := by omega
        have u3 : (k : Int) ≤ (c : Int) := by have := HN.out; omega
        have HCC := Lib.hid hc
        have HHS := Lib.hid (ste_eq S k)
        have HWR := Lib.hid hwr
        obtain ⟨x0, hx0⟩ : ∃ x, x = S k 0 := ⟨_, rfl⟩
        obtain ⟨x1, hx1⟩ : ∃ x, x = S k 1 := ⟨_, rfl⟩
        obtain ⟨x2, hx2⟩ : ∃ x, x = S k 2 := ⟨_, rfl⟩
        obtain ⟨x3, hx3⟩ : ∃ x, x = S k 3 := ⟨_, rfl⟩
        obtain ⟨x4, hx4⟩ : ∃ x, x = S k 4 := ⟨_, rfl⟩
        have HT : Hid (fe (l2 (se x0 x1 x2 x3 x4) (cb S k x0)) 2 = ste S k) := by rw [hx0, hx1, hx2, hx3, hx4]; exact HHS.out
        rw [← hx0] at k0
        rw [← hx1] at k1
        rw [← hx2] at k2
        rw [← hx3] at k3
        rw [← hx4] at k4
        clear hc hx0 hx1 hx2 hx3 hx4 HHS
        go_wp2_with fail
        have hb3 : Below W2.heap.size W2 (wr.alloc (.cells #[.int .i64 x0, .int .i64 x1, .int .i64 x2, .int .i64 x3, .int .i64 x4] 56)) := below_new hwr hwr.size
        have hA3 : At (wr.alloc (.cells #[.int .i64 x0, .int .i64 x1, .int .i64 x2, .int .i64 x3, .int .i64 x4] 56)) wr.heap.size 56 _ := At.new wr _ _
        have hb34 : Below wr.heap.size wr (wr.alloc (.cells #[.int .i64 x0, .int .i64 x1, .int .i64 x2, .int .i64 x3, .int .i64 x4] 56)) := below_new (Below.refl _ _) (Nat.le_refl _)
        generalize hW3 : wr.alloc (.cells #[.int .i64 x0, .int .i64 x1, .int .i64 x2, .int .i64 x3, .int .i64 x4] 56) = W3 at hb3 hA3 hb34 ⊢
        have z3 : wr.heap.size < W3.heap.size := hA3.lt
        clear hW3
        have hSS : ∀ W, Below W3.heap.size W3 W → W.cell? ⟨wr.heap.size, 0, none⟩ = some (.int .i64 x0) ∧ W.cell? ⟨wr.heap.size, 1, none⟩ = some (.int .i64 x1) ∧ W.cell? ⟨wr.heap.size, 2, none⟩ = some (.int .i64 x2) ∧ W.cell? ⟨wr.heap.size, 3, none⟩ = some (.int .i64 x3) ∧ W.cell? ⟨wr.heap.size, 4, none⟩ = some (.int .i64 x4) ∧ W.cell? ⟨w.heap.size, 2, none⟩ = some (.slice (some ⟨bk, off, none⟩) n c) := fun W hW => by
          have q := hA3.keep hW
          have q2 := (HA2.out.keep (hb3.trans (hW.mono hb3.size))).cell 2
          exact ⟨q.cell 0, q.cell 1, q.cell 2, q.cell 3, q.cell 4, q2⟩
        have hP1 : ∀ W, Below W3.heap.size W3 W → Calls Try.prog 74 #[.agg #[.int .i64 x0, .int .i64 x1, .int .i64 x2, .int .i64 x3, .int .i64 x4]] W fun e w' => e = .returned (.int .i64 (se x0 x1 x2 x3 x4)) ∧ Below W3.heap.size W3 w' ∧
            w'.cell? ⟨wr.heap.size, 0, none⟩ = some (.int .i64 x0) ∧ w'.cell? ⟨wr.heap.size, 1, none⟩ = some (.int .i64 x1) ∧ w'.cell? ⟨wr.heap.size, 2, none⟩ = some (.int .i64 x2) ∧ w'.cell? ⟨wr.heap.size, 3, none⟩ = some (.int .i64 x3) ∧ w'.cell? ⟨wr.heap.size, 4, none⟩ = some (.int .i64 x4) ∧ w'.cell? ⟨w.heap.size, 2, none⟩ = some (.slice (some ⟨bk, off, none⟩) n c) := by
          intro W hW
          refine (checkState_any x0 x1 x2 x3 x4 W).mono ?_
          rintro e w' ⟨rfl, hb⟩
          have hB := hW.trans (hb.mono hW.size)
          exact ⟨rfl, hB, hSS _ hB⟩
        have hP2 : ∀ W, Below W3.heap.size W3 W → Calls Try.prog 75 #[.slice (some ⟨bk, off, none⟩) k c, .int .i64 x0] W fun e w' => e = .returned (.int .i64 (cb S k x0)) ∧ Below W3.heap.size W3 w' ∧
            w'.cell? ⟨wr.heap.size, 0, none⟩ = some (.int .i64 x0) ∧ w'.cell? ⟨wr.heap.size, 1, none⟩ = some (.int .i64 x1) ∧ w'.cell? ⟨wr.heap.size, 2, none⟩ = some (.int .i64 x2) ∧ w'.cell? ⟨wr.heap.size, 3, none⟩ = some (.int .i64 x3) ∧ w'.cell? ⟨wr.heap.size, 4, none⟩ = some (.int .i64 x4) ∧ w'.cell? ⟨w.heap.size, 2, none⟩ = some (.slice (some ⟨bk, off, none⟩) n c) := by
          intro W hW
          rcases Nat.eq_zero_or_pos k with hk0 | hk0
          · subst hk0
            refine (checkBehind_zero _ _ S x0 W).mono ?_
            rintro e w' ⟨rfl, rfl⟩
            exact ⟨rfl, hW, hSS _ hW⟩
          · obtain ⟨m, hm⟩ : ∃ m, k = m + 1 := ⟨k - 1, by omega⟩
            have hall := (hb3.trans (hW.mono hb3.size))
            have hs0 := (ste_zero (HQ.out 0 hk0)).1.1
            have q0 := (HCC.out 0 (by omega)).1
            have qm := (HCC.out m (by omega)).1
            rw [show off + 0 * 5 = off by omega] at q0
            have r0 := (hW.cell (p := ⟨bk, off, none⟩) (by show bk < W3.heap.size; omega)).trans ((hb34.cell (p := ⟨bk, off, none⟩) hbk).trans q0)
            have rm := (hW.cell (p := ⟨bk, off + m * 5, none⟩) (by show bk < W3.heap.size; omega)).trans ((hb34.cell (p := ⟨bk, off + m * 5, none⟩) hbk).trans qm)
            refine (checkBehind_more bk off k m c (S 0 0) (S m 0) x0 W r0 rm hs0 hm (by omega)).mono ?_
            rintro e w' ⟨rfl, hb⟩
            have hB := hW.trans (hb.mono hW.size)
            refine ⟨?_, hB, hSS _ hB⟩
            unfold cb
            rw [if_neg (by omega), show k - 1 = m by omega]
        have HP1 := Lib.hid hP1
        have HP2 := Lib.hid hP2
        have HB3 := Lib.hid hb3
        have s3 := hSS W3 (Below.refl _ _)
        obtain ⟨s30, s31, s32, s33, s34, s35⟩ := s3
        have HSS := Lib.hid hSS
        have HA3 := Lib.hid hA3
        clear hP1 hP2 hb3 hSS hA3 k0 k1 k2 k3 k4 c2' hwr3 hb34
        go_region_held3 (fun w' => w'.cell? ⟨wr.heap.size, 0, none⟩ = some (.int .i64 x0) ∧ w'.cell? ⟨wr.heap.size, 1, none⟩ = some (.int .i64 x1) ∧ w'.cell? ⟨wr.heap.size, 2, none⟩ = some (.int .i64 x2) ∧ w'.cell? ⟨wr.heap.size, 3, none⟩ = some (.int .i64 x3) ∧ w'.cell? ⟨wr.heap.size, 4, none⟩ = some (.int .i64 x4) ∧ w'.cell? ⟨w.heap.size, 2, none⟩ = some (.slice (some ⟨bk, off, none⟩) n c)) (go_keep)
          (first
            | (go_at_call 74; refine (HP1.out _ ?_).mono ?_; (repeat (first | assumption | (with_reducible exact Below.refl _ _) | (with_reducible refine Below.drew ?_) | (with_reducible refine below_drewNs ?_))); rintro e w4 ⟨rfl, hb4, hs0, hs1, hs2, hs3, hs4, hs5⟩)
            | (go_at_call 75; refine (HP2.out _ ?_).mono ?_; (repeat (first | assumption | (with_reducible exact Below.refl _ _) | (with_reducible refine Below.drew ?_) | (with_reducible refine below_drewNs ?_))); rintro e w5 ⟨rfl, hb5, ht0, ht1, ht2, ht3, ht4, ht5⟩)
            | (go_at_call 70; (with_reducible refine (firstError_any _ 2 2 (l2 _ _) _ (sl_new (by simp) (get_l2 _ _)) (by omega)).mono ?_); rintro e w' ⟨rfl, rfl⟩)
            | (go_at_call 70; (with_reducible refine (firstError_any _ 2 2 (l2 _ _) _ (sl_newd (by simp) (get_l2 _ _)) (by omega)).mono ?_); rintro e w' ⟨rfl, rfl⟩))
        rw [HT.out]
        have hE := below_new (HB3.out.trans (hb5.mono HB3.out.size)) (o := .cells #[.int .i64 (se x0 x1 x2 x3 x4), .int .i64 (cb S k x0)] 27) (by have := hb5.size; have := HB3.out.size; omega)
        have HE := Lib.hid hE
        clear hE hb5 ht0 ht1 ht2 ht3 ht4 ht5
        by_cases hst : ste S k = 0
        · have d2 : (ste S k != 0) = false := by rw [hst]; rfl
          have HST := Lib.hid hst
          clear hst
          go_wp2
          go_roundw
          case rel => exact ⟨k + 1, by omega, by go_num, fun j hj => by
            rcases Nat.lt_or_ge j k with g | g
            · exact HQ.out j g
            · obtain rfl : j = k := by omega
              exact HST.out, by first | exact HE.out | exact HE.out.drew⟩
          case measure => simp [intOf]; omega
        · have d2 : (ste S k != 0) = true := by simpa using hst
          have HF := Lib.hid (fst_hit (fun j hj => HQ.out j hj) hlt hst)
          clear hst
          go_wp2
          go_ret2
          rw [HG.out, HF.out, if_pos hlt]
          exact ⟨rfl, by first | exact HB2.out.trans (HE.out.mono HB2.out.size) | exact (HB2.out.trans (HE.out.mono HB2.out.size)).drew⟩
      · go_wp2
        go_ret2
        obtain rfl : k = n := by omega
        rw [HG.out, if_neg (by rw [fst_ok HQ.out]; omega)]
        exact ⟨rfl, HB2.out.trans (hwr.mono HB2.out.size)⟩
  · have d1 : (e0 (nmB s) b n != 0) = true := by simpa using he
    have HG := Lib.hid (oce_bad S he)
    clear he
    go_wp2
    go_ret2
    rw [HG.out]
    exact ⟨rfl, hb2.drew⟩
end Go.Proofs.Ytnaanninmkplfaa
