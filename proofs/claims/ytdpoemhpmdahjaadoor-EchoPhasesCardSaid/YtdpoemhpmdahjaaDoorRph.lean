/- Contracts: the reference's phase. -/
import Derived.Test.YtdpoemhpmdahjaaDoorPer
import Derived.BigRegion
import Derived.Deep.LoopGhost
namespace Go.Proofs.YtdpoemhpmdahjaaDoor
open Go.RowKit
set_option maxHeartbeats 400000
set_option maxRecDepth 100000

set_option maxHeartbeats 4000000 in
theorem first_any (x y : Int) (hy0 : 0 ≤ y) (hyx : y ≤ x) (hx1 : x ≤ 100000000000) (w : World) :
    Calls Tryd.prog 114 #[.int .i64 x, .int .i64 y] w fun e w' => e = .returned (.int .i64 (ph1 x y)) ∧ Below w.heap.size w w' := by
  by_cases hxy : x = y
  · subst hxy
    have hf : ph1 x x = 512 := by unfold ph1 halvesI; simp
    rw [hf]
    go_enter Tryd.func114, Tryd.ntmps114
    go_wp2
    go_ret
    exact ⟨rfl, Below.refl _ _⟩
  · have he : (x == y) = false := by simpa using hxy
    have hf : ph1 x y = ((narAll (fun c => decide (c.2.2 * x ≤ c.2.1 * y))).1.1 + 1) / 2 := by unfold ph1 halvesI; rw [if_neg hxy]
    have HF := Lib.hid hf
    clear hf hxy
    go_enter Tryd.func114, Tryd.ntmps114
    go_wp2_with fail
    refine (ends_any _).mono ?_
    rintro e w1 ⟨rfl, hw1⟩
    have z1 := hw1.size
    go_wp2
    go_loopg [7, 8] 10 (fun k lo hi wr => ∃ a0 a1 a2 b0 b1 b2 : Int, IsNar k (fun c => decide (c.2.2 * x ≤ c.2.1 * y)) (a0, a1, a2) (b0, b1, b2) ∧ lo = .int .i64 a0 ∧ hi = .int .i64 b0 ∧ At wr w1.heap.size 51 #[.int .i64 a1, .int .i64 a2] ∧ At wr (w1.heap.size + 1) 51 #[.int .i64 b1, .int .i64 b2] ∧ Below w.heap.size w wr)
    case atStart =>
      refine ⟨0, 16777216, 0, 1024, 11863283, 11863283, IsNar.start _, rfl, rfl, ?_, ?_, ?_⟩
      · exact (at_new (by simp)).alloc _
      · exact at_new (by simp)
      · exact below_new (below_new hw1 (by omega)) (by simp; omega)
    case round =>
      obtain ⟨a0, a1, a2, b0, b1, b2, hn, rfl, rfl, hA, hB, hbel⟩ := hrel
      have ca0 := hA.cell 0
      have ca1 := hA.cell 1
      have cb0 := hB.cell 0
      have cb1 := hB.cell 1
      simp at ca0 ca1 cb0 cb1
      have HN := Lib.hid hn
      have HA := Lib.hid hA
      have HB := Lib.hid hB
      rcases gk with _ | k
      · obtain ⟨oa, ob, hd, _⟩ := tree_zero hn.2
        obtain ⟨u1, u2, _, _, _, _⟩ := okMk_facts oa
        obtain ⟨u3, u4, _, _, _, _⟩ := okMk_facts ob
        simp only at hd u1 u2 u3 u4
        have hlt : ¬ 1 < b0 - a0 := by omega
        have h1 : (narAll (fun c => decide (c.2.2 * x ≤ c.2.1 * y))).1.1 = a0 := by rw [← hn.1]; rfl
        have H1 := Lib.hid h1
        clear hd hn hA hB oa ob h1
        go_wp2
        go_ret
        exact ⟨congrArg (fun n => Ending.returned (.int .i64 n)) (by rw [HF.out, H1.out]), hbel⟩
      · obtain ⟨oa, ob, hd, hr, _, _⟩ := tree_facts hn.2
        obtain ⟨u1, u2, x1, x2, x3, x4⟩ := okMk_facts oa
        obtain ⟨u3, u4, y1, y2, y3, y4⟩ := okMk_facts ob
        simp only at hd u1 u2 u3 u4 x1 x2 x3 x4 y1 y2 y3 y4
        have hp := two_le k
        have hlt : 1 < b0 - a0 := by omega
        obtain ⟨q, _, _, hq1, hq2, hq3⟩ := rootOK_spec hr
        have hroot : IsRoot ((a1 + b1) * (a1 + b1) + (a2 + b2) * (a2 + b2)) (rootF (sqM (a0, a1, a2) (b0, b1, b2))) := ⟨by omega, hq2, hq3⟩
        have hc : midM (a0, a1, a2) (b0, b1, b2) = ((a0 + b0) / 2, (a1 + b1) * 16777216 / rootF (sqM (a0, a1, a2) (b0, b1, b2)), (a2 + b2) * 16777216 / rootF (sqM (a0, a1, a2) (b0, b1, b2))) := rfl
        have hmid : okMk (midM (a0, a1, a2) (b0, b1, b2)) = true := tree_ok (tree_facts hn.2).2.2.2.2.1
        obtain ⟨r, hrr⟩ : ∃ r, r = rootF (sqM (a0, a1, a2) (b0, b1, b2)) := ⟨_, rfl⟩
        rw [← hrr] at hroot hc hq1
        have HC := Lib.hid hc
        have HQ := Lib.hid hroot
        have HM := Lib.hid hmid
        clear hd hn hA hB oa ob hc hr hp hroot hq2 hq3 hrr hmid
        go_wp2_with fail
        refine (half_any a1 a2 b1 b2 r ⟨x1, x2, x3, x4⟩ ⟨y1, y2, y3, y4⟩ HQ.out hq1 _).mono ?_
        rintro e w2 ⟨rfl, hb2⟩
        obtain ⟨c0, hc0⟩ : ∃ c0, c0 = (a0 + b0) / 2 := ⟨_, rfl⟩
        obtain ⟨c1, hc1⟩ : ∃ c1, c1 = (a1 + b1) * 16777216 / r := ⟨_, rfl⟩
        obtain ⟨c2, hc2⟩ : ∃ c2, c2 = (a2 + b2) * 16777216 / r := ⟨_, rfl⟩
        have HC2 : Hid (midM (a0, a1, a2) (b0, b1, b2) = (c0, c1, c2)) := by show _ = _; rw [HC.out, hc0, hc1, hc2]
        have hk := HM.out
        rw [HC2.out] at hk
        obtain ⟨_, _, v1, v2, v3, v4⟩ := okMk_facts hk
        simp only at v1 v2 v3 v4
        rw [← hc0, ← hc1, ← hc2]
        have hs2 := hb2.size
        have hs0 := HB.out.lt
        have A2 := HA.out.below hb2 HA.out.lt
        have B2 := HB.out.below hb2 HB.out.lt
        have hw2 : Below w.heap.size w w2 := hbel.trans (hb2.mono hbel.size)
        have da0 := A2.cell 0
        have da1 := A2.cell 1
        have db0 := B2.cell 0
        have db1 := B2.cell 1
        simp at da0 da1 db0 db1
        have ga0 := A2.free 0
        have ga1 := A2.free 1
        have gb0 := B2.free 0
        have gb1 := B2.free 1
        have GA := Lib.hid A2
        have GB := Lib.hid B2
        have z4 : w1.heap.size < w2.heap.size := by omega
        have z5 : w1.heap.size + 1 < w2.heap.size := by omega
        have g1 := Int.mul_nonneg v1 hy0
        have g2 := Int.mul_le_mul v2 (by omega : y ≤ 100000000000) hy0 (by omega)
        have g3 := Int.mul_nonneg v3 (by omega : 0 ≤ x)
        have g4 := Int.mul_le_mul v4 hx1 (by omega) (by omega)
        clear A2 B2 hb2 hs2 hs0 ca0 ca1 cb0 cb1 HA HB HC HQ HM hk hc0 hc1 hc2 u1 u2 u3 u4 x1 x2 x3 x4 y1 y2 y3 y4 hq1 hlt
        by_cases hcm : c2 * x ≤ c1 * y
        · have hn2 := HN.out.up (by rw [HC2.out]; simpa using hcm)
          rw [HC2.out] at hn2
          have HN2 := Lib.hid hn2
          clear hn2
          go_wp2
          go_region
          go_wp2
          go_roundg k
          case measure => omega
          case rel =>
            refine ⟨c0, c1, c2, b0, b1, b2, HN2.out, rfl, rfl, ?_, ?_, ?_⟩
            · exact ((GA.out.put 0 _).put 1 _).alloc _
            · exact ((GB.out.far (by simp) _).far (by simp) _).alloc _
            · repeat (first | (with_reducible exact hw2) | (with_reducible refine Below.drew ?_) | (with_reducible refine below_drewNs ?_) | (with_reducible refine below_set ?_ (by first | omega | (simp; done) | (simp; omega))) | (with_reducible refine below_new ?_ (by first | omega | (simp; done) | (simp; omega))))
        · have hn2 := HN.out.down (by rw [HC2.out]; simpa using hcm)
          rw [HC2.out] at hn2
          have HN2 := Lib.hid hn2
          clear hn2
          go_wp2
          go_region
          go_wp2
          go_roundg k
          case measure => omega
          case rel =>
            refine ⟨a0, a1, a2, c0, c1, c2, HN2.out, rfl, rfl, ?_, ?_, ?_⟩
            · exact ((GA.out.far (by simp) _).far (by simp) _).alloc _
            · exact ((GB.out.put 0 _).put 1 _).alloc _
            · repeat (first | (with_reducible exact hw2) | (with_reducible refine Below.drew ?_) | (with_reducible refine below_drewNs ?_) | (with_reducible refine below_set ?_ (by first | omega | (simp; done) | (simp; omega))) | (with_reducible refine below_new ?_ (by first | omega | (simp; done) | (simp; omega))))
end Go.Proofs.YtdpoemhpmdahjaaDoor
