/- Contracts: the reference's roots, halves and directions. -/
import Derived.Test.YtdpoemhpmdahjaaDoorDir
import Derived.BigRegion
import Derived.Deep.LoopGhost
namespace Go.Proofs.YtdpoemhpmdahjaaDoor
open Go.RowKit
set_option maxHeartbeats 400000
set_option maxRecDepth 100000

theorem baseWithin_any (n lo hi : Int) (w : World) :
    Calls Tryd.prog 32 #[.int .i64 n, .int .i64 lo, .int .i64 hi] w fun e w' => e = .returned (.bool (inB n lo hi)) ∧ w = w' := by
  by_cases h : lo ≤ n
  · have hd : decide (lo ≤ n) = true := by simpa using h
    by_cases h2 : n ≤ hi
    · have hd2 : decide (n ≤ hi) = true := by simpa using h2
      have hf : inB n lo hi = true := by simp [inB, h, h2]
      have HF := Lib.hid hf
      clear hf
      go_enter Tryd.func32, Tryd.ntmps32
      go_wp2
      go_ret
      rw [HF.out]
      exact ⟨rfl, rfl⟩
    · have hd2 : decide (n ≤ hi) = false := by simpa using h2
      have hf : inB n lo hi = false := by simp [inB, h2]
      have HF := Lib.hid hf
      clear hf
      go_enter Tryd.func32, Tryd.ntmps32
      go_wp2
      go_ret
      rw [HF.out]
      exact ⟨rfl, rfl⟩
  · have hd : decide (lo ≤ n) = false := by simpa using h
    have hf : inB n lo hi = false := by simp [inB, h]
    have HF := Lib.hid hf
    clear hf
    go_enter Tryd.func32, Tryd.ntmps32
    go_wp2
    go_ret
    rw [HF.out]
    exact ⟨rfl, rfl⟩

def pw : Nat → Int
  | 0 => 0
  | j + 1 => 2 ^ j
theorem pw_half (j : Nat) : pw (j + 1) / 2 = pw j := by
  cases j with
  | zero => rfl
  | succ j =>
    show ((2 : Int) ^ (j + 1)) / 2 = 2 ^ j
    rw [Int.pow_succ]
    exact Int.mul_ediv_cancel _ (by decide)
theorem pw_le (j : Nat) (h : j ≤ 31) : pw (j + 1) ≤ 2147483648 ∧ 1 ≤ pw (j + 1) := by
  have h1 : (2 : Nat) ^ j ≤ 2 ^ 31 := Nat.pow_le_pow_right (by decide) h
  have h2 : 1 ≤ (2 : Nat) ^ j := Nat.one_le_two_pow
  have e : (2 : Nat) ^ 31 = 2147483648 := by decide
  rw [e] at h1
  have e2 : pw (j + 1) = ((2 ^ j : Nat) : Int) := by show (2 : Int) ^ j = _; rw [Int.natCast_pow]; rfl
  rw [e2]
  omega
theorem pw31 : pw (31 + 1) = 2147483648 := by decide

/-- the greatest number whose square is at most n -/
def IsRoot (n r : Int) : Prop := 0 ≤ r ∧ r * r ≤ n ∧ n < (r + 1) * (r + 1)
theorem IsRoot.same {n r q : Int} (h : IsRoot n r) (h2 : IsRoot n q) : r = q := by
  obtain ⟨a1, a2, a3⟩ := h
  obtain ⟨b1, b2, b3⟩ := h2
  have c1 : ¬ r + 1 ≤ q := fun h => by
    have := Int.mul_le_mul h h (by omega) (by omega)
    omega
  have c2 : ¬ q + 1 ≤ r := fun h => by
    have := Int.mul_le_mul h h (by omega) (by omega)
    omega
  omega

theorem rootB_any (n r : Int) (h0 : 0 ≤ n) (h1 : n ≤ 1152921504606846976) (hr : IsRoot n r) (w : World) :
    Calls Tryd.prog 124 #[.int .i64 n] w fun e w' => e = .returned (.int .i64 r) ∧ w = w' := by
  have HR := Lib.hid hr
  clear hr
  go_enter Tryd.func124, Tryd.ntmps124
  go_wp2
  go_loop [3, 4] (fun a b => ∃ (j : Nat) (x : Int), j ≤ 31 ∧ a = .int .i64 x ∧ b = .int .i64 (pw j) ∧ 0 ≤ x ∧ x + pw (j + 1) ≤ 2147483648 ∧ x * x ≤ n ∧ n < (x + pw (j + 1)) * (x + pw (j + 1))) (fun _ b => (intOf b).toNat)
  case atStart => exact ⟨31, 0, Nat.le_refl _, rfl, rfl, Int.le_refl _, by rw [pw31]; decide, by omega, by rw [pw31]; omega⟩
  case round =>
    obtain ⟨j, x, hj, rfl, rfl, hx0, hx1, hx2, hx3⟩ := hrel
    rcases j with _ | j
    · have e0 : pw 0 = 0 := rfl
      have e1 : pw (0 + 1) = 1 := rfl
      rw [e0]
      rw [e1] at hx3
      have hfin : x = r := IsRoot.same ⟨hx0, hx2, hx3⟩ HR.out
      have HF := Lib.hid hfin
      clear hfin e1 hx1 hx2 hx3
      go_wp2
      go_ret
      exact ⟨congrArg (fun n => Ending.returned (.int .i64 n)) HF.out, rfl⟩
    · obtain ⟨p1, p2⟩ := pw_le j (by omega)
      have ed : pw (j + 1 + 1) = pw (j + 1) * 2 := Int.pow_succ 2 j
      have eh := pw_half j
      have H2 := Lib.hid hx2
      have H3 := Lib.hid hx3
      have ED := Lib.hid ed
      rw [ed] at hx1
      obtain ⟨p, hp⟩ : ∃ p, p = pw (j + 1) := ⟨_, rfl⟩
      rw [← hp] at p1 p2 hx1 eh
      rw [← hp]
      have HP := Lib.hid hp
      have EH := Lib.hid eh
      have hpos : 0 < p := by omega
      have s0 : 0 ≤ (x + p) * (x + p) := Int.mul_nonneg (by omega) (by omega)
      have s1 : (x + p) * (x + p) ≤ 2147483648 * 2147483648 := Int.mul_le_mul (by omega) (by omega) (by omega) (by omega)
      clear hx2 hx3 ed hp eh
      by_cases hle : (x + p) * (x + p) ≤ n
      · have HL := Lib.hid hle
        go_wp2
        refine ⟨⟨j, x + p, by omega, rfl, by rw [EH.out], by omega, by rw [← HP.out]; omega, HL.out, ?_⟩, ?_⟩
        · have h3 := H3.out
          rw [ED.out, ← HP.out] at h3
          rw [← HP.out]
          rwa [show x + p + p = x + p * 2 from by omega]
        · simp [intOf]; omega
      · have HL := Lib.hid hle
        go_wp2
        refine ⟨⟨j, x, by omega, rfl, by rw [EH.out], by omega, by rw [← HP.out]; omega, H2.out, ?_⟩, ?_⟩
        · rw [← HP.out]
          exact Int.not_le.1 HL.out
        · simp [intOf]; omega

theorem ends_any (w : World) :
    Calls Tryd.prog 102 #[] w fun e w' => e = .returned (.tuple #[.agg #[.int .i64 16777216, .int .i64 0], .agg #[.int .i64 11863283, .int .i64 11863283]]) ∧ Below w.heap.size w w' := by
  have hr : IsRoot 140737488355328 11863283 := by unfold IsRoot; decide
  have HR := Lib.hid hr
  clear hr
  go_enter Tryd.func102, Tryd.ntmps102
  go_wp2_with (go_at_call 124; refine (rootB_any _ 11863283 (by decide) (by decide) HR.out _).mono ?_; rintro e w' ⟨rfl, rfl⟩)
  refine bodyPost_ret (v := .tuple #[.agg #[.int .i64 16777216, .int .i64 0], .agg #[.int .i64 11863283, .int .i64 11863283]]) (by simp [results, Tryd.results102, go_sem]) rfl ⟨rfl, ?_⟩
  exact ((Below.refl _ _).alloc (Nat.le_refl _) _).alloc (by simp) _

theorem half_any (a1 a2 b1 b2 r : Int) (ha : 0 ≤ a1 ∧ a1 ≤ 16777216 ∧ 0 ≤ a2 ∧ a2 ≤ 16777216) (hb : 0 ≤ b1 ∧ b1 ≤ 16777216 ∧ 0 ≤ b2 ∧ b2 ≤ 16777216) (hr : IsRoot ((a1 + b1) * (a1 + b1) + (a2 + b2) * (a2 + b2)) r) (h1 : 1 ≤ r) (w : World) :
    Calls Tryd.prog 103 #[.agg #[.int .i64 a1, .int .i64 a2], .agg #[.int .i64 b1, .int .i64 b2]] w fun e w' => e = .returned (.agg #[.int .i64 ((a1 + b1) * 16777216 / r), .int .i64 ((a2 + b2) * 16777216 / r)]) ∧ Below w.heap.size w w' := by
  have hx : (a1 + b1) * (a1 + b1) ≤ 33554432 * 33554432 := Int.mul_le_mul (by omega) (by omega) (by omega) (by omega)
  have hy : (a2 + b2) * (a2 + b2) ≤ 33554432 * 33554432 := Int.mul_le_mul (by omega) (by omega) (by omega) (by omega)
  have hx0 : 0 ≤ (a1 + b1) * (a1 + b1) := Int.mul_nonneg (by omega) (by omega)
  have hy0 : 0 ≤ (a2 + b2) * (a2 + b2) := Int.mul_nonneg (by omega) (by omega)
  obtain ⟨p1, p2, p3, p4⟩ := ha
  obtain ⟨q1, q2, q3, q4⟩ := hb
  have HR := Lib.hid hr
  clear hr
  go_enter Tryd.func103, Tryd.ntmps103
  go_wp2
  go_quiet (fail)
  go_wp2_with (go_at_call 124; refine (rootB_any _ r (by omega) (by omega) HR.out _).mono ?_; rintro e w' ⟨rfl, rfl⟩)
  go_region
  go_wp2
  refine bodyPost_ret (v := .agg #[.int .i64 ((a1 + b1) * 16777216 / r), .int .i64 ((a2 + b2) * 16777216 / r)]) (by simp [results, Tryd.results103, go_sem]) rfl ⟨rfl, ?_⟩
  repeat (first | (with_reducible exact Below.refl _ _) | (with_reducible refine Below.drew ?_) | (with_reducible refine below_drewNs ?_) | (with_reducible refine below_set ?_ (by first | omega | (simp; done) | (simp; omega))) | (with_reducible refine below_new ?_ (by first | omega | (simp; done) | (simp; omega))))

theorem nar_stay (m : Int) {k : Nat} : ∀ {a b : Mk}, tree k a b = true → a.1 = m → (nar k (fun c => decide (c.1 ≤ m)) a b).1 = a := by
  induction k with
  | zero => intro a b _ _; rfl
  | succ k ih =>
    intro a b ht ha
    obtain ⟨_, _, hd, _, h1, _⟩ := tree_facts ht
    have hp := two_le k
    have hm : (midM a b).1 = (a.1 + b.1) / 2 := rfl
    have hgt : ¬ (midM a b).1 ≤ m := by omega
    rw [nar, if_neg (by simpa using hgt)]
    exact ih h1 ha

theorem dirI_hit {m : Int} {k : Nat} {a b : Mk} (h : IsNar k (fun c => decide (c.1 ≤ m)) a b) (ha : a.1 = m) (hm : m < 1024) : dirI m = a := by
  unfold dirI
  rw [if_neg (by omega), ← h.1]
  exact nar_stay m h.2 ha
theorem dirI_last {a b : Mk} (h : IsNar 0 (fun c => decide (c.1 ≤ (1024 : Int))) a b) : dirI 1024 = b := by
  unfold dirI
  rw [if_pos rfl, ← h.1]
  rfl

set_option maxHeartbeats 4000000 in
theorem refDir_any (m : Int) (h0 : 0 ≤ m) (h1 : m ≤ 1024) (w : World) :
    Calls Tryd.prog 54 #[.int .i64 m] w fun e w' => e = .returned (.agg #[.int .i64 (dirI m).2.1, .int .i64 (dirI m).2.2]) ∧ Below w.heap.size w w' := by
  by_cases hm : m = 0
  · subst hm
    have hd := dirI_hit (IsNar.start (fun c => decide (c.1 ≤ (0 : Int)))) rfl (by decide)
    have HD := Lib.hid hd
    clear hd
    go_enter Tryd.func54, Tryd.ntmps54
    go_wp2_with fail
    refine (ends_any _).mono ?_
    rintro e w1 ⟨rfl, hb1⟩
    have A1 := (At.new w 51 #[.int .i64 0, .int .i64 0]).below hb1 (by simp)
    have hw1 : Below w.heap.size w w1 := (below_new (Below.refl _ _) (Nat.le_refl _)).trans (hb1.mono (by simp))
    have z1 := hb1.size
    simp at z1
    have c10 := A1.cell 0
    have c11 := A1.cell 1
    have f10 := A1.free 0
    have f11 := A1.free 1
    simp at c10 c11
    have z2 : w.heap.size < w1.heap.size + 1 := by omega
    clear A1 hb1
    have z3 : w.heap.size < w1.heap.size := by omega
    go_wp2
    refine bodyPost_ret (v := .agg #[.int .i64 16777216, .int .i64 0]) (by simp [results, Tryd.results54, go_sem, *]) rfl ⟨by rw [HD.out]; rfl, ?_⟩
    repeat (first | (with_reducible exact hw1) | (with_reducible refine Below.drew ?_) | (with_reducible refine below_drewNs ?_) | (with_reducible refine below_set ?_ (by first | omega | (simp; done) | (simp; omega))) | (with_reducible refine below_new ?_ (by first | omega | (simp; done) | (simp; omega))))
  · have he : (m == 0) = false := by simpa using hm
    have hpos : 0 < m := by omega
    clear hm
    go_enter Tryd.func54, Tryd.ntmps54
    go_wp2_with fail
    refine (ends_any _).mono ?_
    rintro e w1 ⟨rfl, hb1⟩
    have A1 := (At.new w 51 #[.int .i64 0, .int .i64 0]).below hb1 (by simp)
    have hw1 : Below w.heap.size w w1 := (below_new (Below.refl _ _) (Nat.le_refl _)).trans (hb1.mono (by simp))
    have z1 := hb1.size
    simp at z1
    have HA1 := Lib.hid A1
    clear A1 hb1
    go_wp2
    go_loopg [5, 6] 10 (fun k lo hi wr => ∃ a0 a1 a2 b0 b1 b2 : Int, IsNar k (fun c => decide (c.1 ≤ m)) (a0, a1, a2) (b0, b1, b2) ∧ lo = .int .i64 a0 ∧ hi = .int .i64 b0 ∧ a0 < m ∧ (m < b0 ∨ m = 1024) ∧ At wr w1.heap.size 51 #[.int .i64 a1, .int .i64 a2] ∧ At wr (w1.heap.size + 1) 51 #[.int .i64 b1, .int .i64 b2] ∧
      At wr w.heap.size 51 #[.int .i64 0, .int .i64 0] ∧ Below w.heap.size w wr)
    case atStart =>
      refine ⟨0, 16777216, 0, 1024, 11863283, 11863283, IsNar.start _, rfl, rfl, hpos, by omega, ?_, ?_, ?_, ?_⟩
      · exact (at_new (by simp)).alloc _
      · exact at_new (by simp)
      · exact (HA1.out.alloc _).alloc _
      · exact below_new (below_new hw1 (by omega)) (by simp; omega)
    case round =>
      obtain ⟨a0, a1, a2, b0, b1, b2, hn, rfl, rfl, ham, hmb, hA, hB, hR, hbel⟩ := hrel
      have r0 := hR.cell 0
      have r1 := hR.cell 1
      have f0 := hR.free 0
      have f1 := hR.free 1
      have ca0 := hA.cell 0
      have ca1 := hA.cell 1
      have cb0 := hB.cell 0
      have cb1 := hB.cell 1
      simp at r0 r1 ca0 ca1 cb0 cb1
      have HN := Lib.hid hn
      have HA := Lib.hid hA
      have HB := Lib.hid hB
      have HRR := Lib.hid hR
      rcases gk with _ | k
      · obtain ⟨oa, ob, hd, _⟩ := tree_zero hn.2
        obtain ⟨u1, u2, _, _, _, _⟩ := okMk_facts oa
        obtain ⟨u3, u4, _, _, _, _⟩ := okMk_facts ob
        simp only at hd u1 u2 u3 u4
        have hm : m = 1024 := by omega
        subst hm
        have hlast := dirI_last hn
        have HL := Lib.hid hlast
        have hlt : ¬ 1 < b0 - a0 := by omega
        clear hd hn hA hB hR oa ob hlast
        go_wp2
        refine bodyPost_ret (v := .agg #[.int .i64 b1, .int .i64 b2]) (by simp [results, Tryd.results54, go_sem, *]) rfl ⟨by rw [HL.out], ?_⟩
        repeat (first | (with_reducible exact hbel) | (with_reducible refine Below.drew ?_) | (with_reducible refine below_drewNs ?_) | (with_reducible refine below_set ?_ (by first | omega | (simp; done) | (simp; omega))) | (with_reducible refine below_new ?_ (by first | omega | (simp; done) | (simp; omega))))
      · obtain ⟨oa, ob, hd, hr, _, _⟩ := tree_facts hn.2
        obtain ⟨u1, u2, x1, x2, x3, x4⟩ := okMk_facts oa
        obtain ⟨u3, u4, y1, y2, y3, y4⟩ := okMk_facts ob
        simp only at hd u1 u2 u3 u4 x1 x2 x3 x4 y1 y2 y3 y4
        have hp := two_le k
        have hlt : 1 < b0 - a0 := by omega
        obtain ⟨q, _, _, hq1, hq2, hq3⟩ := rootOK_spec hr
        have hroot : IsRoot ((a1 + b1) * (a1 + b1) + (a2 + b2) * (a2 + b2)) (rootF (sqM (a0, a1, a2) (b0, b1, b2))) := ⟨by omega, hq2, hq3⟩
        have hc : midM (a0, a1, a2) (b0, b1, b2) = ((a0 + b0) / 2, (a1 + b1) * 16777216 / rootF (sqM (a0, a1, a2) (b0, b1, b2)), (a2 + b2) * 16777216 / rootF (sqM (a0, a1, a2) (b0, b1, b2))) := rfl
        obtain ⟨r, hrr⟩ : ∃ r, r = rootF (sqM (a0, a1, a2) (b0, b1, b2)) := ⟨_, rfl⟩
        rw [← hrr] at hroot hc hq1
        have HC := Lib.hid hc
        have HQ := Lib.hid hroot
        clear hd hn hA hB hR oa ob hc hr hp hroot hq2 hq3 hrr
        go_wp2_with fail
        refine (half_any a1 a2 b1 b2 r ⟨x1, x2, x3, x4⟩ ⟨y1, y2, y3, y4⟩ HQ.out hq1 _).mono ?_
        rintro e w2 ⟨rfl, hb2⟩
        obtain ⟨c0, hc0⟩ : ∃ c0, c0 = (a0 + b0) / 2 := ⟨_, rfl⟩
        obtain ⟨c1, hc1⟩ : ∃ c1, c1 = (a1 + b1) * 16777216 / r := ⟨_, rfl⟩
        obtain ⟨c2, hc2⟩ : ∃ c2, c2 = (a2 + b2) * 16777216 / r := ⟨_, rfl⟩
        have HC2 : Hid (midM (a0, a1, a2) (b0, b1, b2) = (c0, c1, c2)) := by show _ = _; rw [HC.out, hc0, hc1, hc2]
        have v1 : 0 ≤ c0 := by omega
        have v2 : c0 < 1024 := by omega
        rw [← hc0, ← hc1, ← hc2]
        have hs2 := hb2.size
        have hs0 := HB.out.lt
        have A2 := HA.out.below hb2 HA.out.lt
        have B2 := HB.out.below hb2 HB.out.lt
        have R2 := HRR.out.below hb2 HRR.out.lt
        have hw2 : Below w.heap.size w w2 := hbel.trans (hb2.mono hbel.size)
        have da0 := A2.cell 0
        have da1 := A2.cell 1
        have db0 := B2.cell 0
        have db1 := B2.cell 1
        have dr0 := R2.cell 0
        have dr1 := R2.cell 1
        simp at da0 da1 db0 db1 dr0 dr1
        have ga0 := A2.free 0
        have ga1 := A2.free 1
        have gb0 := B2.free 0
        have gb1 := B2.free 1
        have gr0 := R2.free 0
        have gr1 := R2.free 1
        have GA := Lib.hid A2
        have GB := Lib.hid B2
        have GR := Lib.hid R2
        have z4 : w.heap.size < w2.heap.size := by omega
        have z5 : w1.heap.size < w2.heap.size := by omega
        have z6 : w1.heap.size + 1 < w2.heap.size := by omega
        clear A2 B2 R2 hb2 hs2 hs0 ca0 ca1 cb0 cb1 r0 r1 f0 f1 HA HB HRR HC HQ hc0 hc1 hc2 u1 u2 u3 u4 x1 x2 x3 x4 y1 y2 y3 y4 hq1 hlt
        by_cases hcm : c0 = m
        · have hf := dirI_hit (HN.out.up (by rw [HC2.out]; simp; omega)) (by rw [HC2.out]; exact hcm) (by omega)
          rw [HC2.out] at hf
          have HF := Lib.hid hf
          have hcb : (c0 == m) = true := by simpa using hcm
          clear hf
          go_wp2
          refine bodyPost_ret (v := .agg #[.int .i64 c1, .int .i64 c2]) (by simp [results, Tryd.results54, go_sem, *]) rfl ⟨by rw [HF.out], ?_⟩
          repeat (first | (with_reducible exact hw2) | (with_reducible refine Below.drew ?_) | (with_reducible refine below_drewNs ?_) | (with_reducible refine below_set ?_ (by first | omega | (simp; done) | (simp; omega))) | (with_reducible refine below_new ?_ (by first | omega | (simp; done) | (simp; omega))))
        · have hcb : (c0 == m) = false := by simpa using hcm
          by_cases hlt : c0 < m
          · have hn2 := HN.out.up (by rw [HC2.out]; simp; omega)
            rw [HC2.out] at hn2
            have HN2 := Lib.hid hn2
            clear hn2
            go_wp2
            go_region
            go_wp2
            go_roundg k
            case measure => omega
            case rel =>
              refine ⟨c0, c1, c2, b0, b1, b2, HN2.out, rfl, rfl, hlt, hmb, ?_, ?_, ?_, ?_⟩
              · exact ((GA.out.put 0 _).put 1 _).alloc _
              · exact ((GB.out.far (by simp) _).far (by simp) _).alloc _
              · exact ((GR.out.far (by simp; omega) _).far (by simp; omega) _).alloc _
              · repeat (first | (with_reducible exact hw2) | (with_reducible refine Below.drew ?_) | (with_reducible refine below_drewNs ?_) | (with_reducible refine below_set ?_ (by first | omega | (simp; done) | (simp; omega))) | (with_reducible refine below_new ?_ (by first | omega | (simp; done) | (simp; omega))))
          · have hn2 := HN.out.down (by rw [HC2.out]; simp; omega)
            rw [HC2.out] at hn2
            have HN2 := Lib.hid hn2
            clear hn2
            go_wp2
            go_region
            go_wp2
            go_roundg k
            case measure => omega
            case rel =>
              refine ⟨a0, a1, a2, c0, c1, c2, HN2.out, rfl, rfl, ham, Or.inl (by omega), ?_, ?_, ?_, ?_⟩
              · exact ((GA.out.far (by simp) _).far (by simp) _).alloc _
              · exact ((GB.out.put 0 _).put 1 _).alloc _
              · exact ((GR.out.far (by simp; omega) _).far (by simp; omega) _).alloc _
              · repeat (first | (with_reducible exact hw2) | (with_reducible refine Below.drew ?_) | (with_reducible refine below_drewNs ?_) | (with_reducible refine below_set ?_ (by first | omega | (simp; done) | (simp; omega))) | (with_reducible refine below_new ?_ (by first | omega | (simp; done) | (simp; omega))))
end Go.Proofs.YtdpoemhpmdahjaaDoor
