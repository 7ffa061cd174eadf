/- Contracts: the halving for a number's phase; the phase of a whole complex number; the direction of a number. -/
import Derived.Test.YtdpoemhpmdahjaaDoorMid
namespace Go.Proofs.YtdpoemhpmdahjaaDoor
open Go.RowKit
set_option maxHeartbeats 400000
set_option maxRecDepth 100000

theorem tree_ok {k : Nat} {a b : Mk} (h : tree k a b = true) : okMk b = true := by
  cases k with
  | zero => exact (tree_zero h).2.1
  | succ k => exact (tree_facts h).2.1

theorem mul_range {a x : Int} (ha0 : 0 ≤ a) (ha1 : a ≤ 16777216) (hx0 : 0 ≤ x) (hx1 : x ≤ 100000000000) : 0 ≤ a * x ∧ a * x ≤ 1677721600000000000 := by
  refine ⟨Int.mul_nonneg ha0 hx0, ?_⟩
  have := Int.mul_le_mul ha1 hx1 hx0 (by omega)
  omega

theorem closH_any (c0 c1 c2 : Int) (gy gx : Addr) (x y : Int) (w : World) (hc : okMk (c0, c1, c2) = true) (hx0 : 0 ≤ x) (hx1 : x ≤ 100000000000) (hy0 : 0 ≤ y) (hy1 : y ≤ 100000000000)
    (hg : gy.block < w.heap.size) (hg2 : gx.block < w.heap.size) (hm : w.cell? gy = some (.int .i64 y)) (hm2 : w.cell? gx = some (.int .i64 x)) :
    Calls Tryd.prog 133 #[.agg #[.int .i64 c0, .int .i64 c1, .int .i64 c2], .pointer (some gy), .pointer (some gx)] w fun e w' => e = .returned (.bool (decide (c2 * x ≤ c1 * y))) ∧ Below w.heap.size w w' := by
  obtain ⟨_, _, p3, p4, p5, p6⟩ := okMk_facts hc
  obtain ⟨q1, q2⟩ := mul_range p3 p4 hy0 hy1
  obtain ⟨q3, q4⟩ := mul_range p5 p6 hx0 hx1
  simp only at q1 q2 q3 q4
  have hmy : (w.alloc (.cells #[.int .i64 c0, .int .i64 c1, .int .i64 c2] 136)).cell? gy = some (.int .i64 y) := by
    rw [World.cell?_alloc_lt w _ gy hg]; exact hm
  have hmx : (w.alloc (.cells #[.int .i64 c0, .int .i64 c1, .int .i64 c2] 136)).cell? gx = some (.int .i64 x) := by
    rw [World.cell?_alloc_lt w _ gx hg2]; exact hm2
  clear hc hm hm2 p3 p4 p5 p6
  go_enter Tryd.func133, Tryd.ntmps133
  go_wp2
  go_ret
  exact ⟨rfl, (Below.refl _ _).alloc (Nat.le_refl _) _⟩

set_option maxHeartbeats 4000000 in
theorem narrowH_any (w : World) (gy gx : Addr) (x y : Int) (hx0 : 0 ≤ x) (hx1 : x ≤ 100000000000) (hy0 : 0 ≤ y) (hy1 : y ≤ 100000000000) (hg : gy.block < w.heap.size) (hg2 : gx.block < w.heap.size) (hm : w.cell? gy = some (.int .i64 y)) (hm2 : w.cell? gx = some (.int .i64 x)) :
    Calls Tryd.prog 100 #[.func (.func 133) #[] #[.pointer (some gy), .pointer (some gx)]] w fun e w' =>
      ∃ a b : Mk, e = .returned (.tuple #[mkV a, mkV b]) ∧ IsNar 0 (fun c => decide (c.2.2 * x ≤ c.2.1 * y)) a b ∧ Below w.heap.size w w' := by
  have HM := Lib.hid hm
  have HM2 := Lib.hid hm2
  clear hm hm2
  go_enter Tryd.func100, Tryd.ntmps100
  go_wp2_with (go_at_call 122; refine (root_any _ 11863283 root_side.1 root_side.2 _).mono ?_; rintro e w' ⟨rfl, rfl⟩)
  go_loopg [7] 10 (fun k v wr => ∃ a0 a1 a2 b0 b1 b2 : Int, IsNar k (fun c => decide (c.2.2 * x ≤ c.2.1 * y)) (a0, a1, a2) (b0, b1, b2) ∧ At wr (w.heap.size + 1 + 1) 136 #[.int .i64 a0, .int .i64 a1, .int .i64 a2] ∧ At wr (w.heap.size + 1 + 1 + 1) 136 #[.int .i64 b0, .int .i64 b1, .int .i64 b2] ∧
    At wr w.heap.size 136 #[.int .i64 0, .int .i64 0, .int .i64 0] ∧ At wr (w.heap.size + 1) 136 #[.int .i64 0, .int .i64 0, .int .i64 0] ∧ Below w.heap.size w wr)
  case atStart =>
    refine ⟨0, 16777216, 0, 1024, 11863283, 11863283, IsNar.start _, ?_, ?_, ?_, ?_, ?_⟩
    · exact (at_new (by simp)).alloc _
    · exact at_new (by simp)
    · exact (((at_new (by simp)).alloc _).alloc _).alloc _
    · exact ((at_new (by simp)).alloc _).alloc _
    · exact ((((Below.refl _ _).alloc (Nat.le_refl _) _).alloc (by simp) _).alloc (by simp; omega) _).alloc (by simp; omega) _
  case round =>
    obtain ⟨a0, a1, a2, b0, b1, b2, hn, hA, hB, hR1, hR2, hbel⟩ := hrel
    have ca0 := hA.cell 0
    have ca1 := hA.cell 1
    have ca2 := hA.cell 2
    have cb0 := hB.cell 0
    have cb1 := hB.cell 1
    have cb2 := hB.cell 2
    simp at ca0 ca1 ca2 cb0 cb1 cb2
    have r10 := hR1.cell 0
    have r11 := hR1.cell 1
    have r12 := hR1.cell 2
    have r20 := hR2.cell 0
    have r21 := hR2.cell 1
    have r22 := hR2.cell 2
    simp at r10 r11 r12 r20 r21 r22
    have f10 := hR1.free 0
    have f11 := hR1.free 1
    have f12 := hR1.free 2
    have f20 := hR2.free 0
    have f21 := hR2.free 1
    have f22 := hR2.free 2
    have HN := Lib.hid hn
    have HA := Lib.hid hA
    have HB := Lib.hid hB
    have H1 := Lib.hid hR1
    have H2 := Lib.hid hR2
    rcases gk with _ | k
    · obtain ⟨oa, ob, hd, _⟩ := tree_zero hn.2
      obtain ⟨u1, u2, _, _, _, _⟩ := okMk_facts oa
      obtain ⟨u3, u4, _, _, _, _⟩ := okMk_facts ob
      simp only at hd u1 u2 u3 u4
      have hlt : ¬ 1 < b0 - a0 := by omega
      clear hd hn hA hB hR1 hR2 oa ob
      go_wp2
      go_region
      go_wp2
      refine bodyPost_ret (v := .tuple #[.agg #[.int .i64 a0, .int .i64 a1, .int .i64 a2], .agg #[.int .i64 b0, .int .i64 b1, .int .i64 b2]]) (by simp [results, Tryd.results100, go_sem, *]) rfl ⟨(a0, a1, a2), (b0, b1, b2), rfl, HN.out, ?_⟩
      repeat (first | (with_reducible refine Below.drew ?_) | (with_reducible refine below_drewNs ?_) | (with_reducible refine below_set ?_ (by first | omega | (simp; omega))) | (with_reducible refine below_new ?_ (by first | omega | (simp; omega))) | (with_reducible exact hbel))
    · obtain ⟨oa, ob, hd, hr, hc1, _⟩ := tree_facts hn.2
      obtain ⟨u1, u2, _, _, _, _⟩ := okMk_facts oa
      obtain ⟨u3, u4, _, _, _, _⟩ := okMk_facts ob
      simp only at hd u1 u2 u3 u4
      have hp := two_le k
      have hlt : 1 < b0 - a0 := by omega
      obtain ⟨⟨c0, c1, c2⟩, hc⟩ : ∃ c, midM (a0, a1, a2) (b0, b1, b2) = c := ⟨_, rfl⟩
      have oc : okMk (c0, c1, c2) = true := by rw [← hc]; exact tree_ok hc1
      have HC := Lib.hid hc
      have OC := Lib.hid oc
      have HR := Lib.hid hr
      have OA := Lib.hid oa
      have OB := Lib.hid ob
      clear hd hn hA hB hR1 hR2 oa ob hc hr hp oc hc1
      go_wp2_with fail
      refine (between_c a0 a1 a2 b0 b1 b2 c0 c1 c2 OA.out OB.out HR.out HC.out _).mono ?_
      rintro e w1 ⟨rfl, hb1⟩
      have hs1 := hb1.size
      have hs0 := HB.out.lt
      have A1 := HA.out.below hb1 HA.out.lt
      have B1 := HB.out.below hb1 HB.out.lt
      have M1 : w1.cell? gy = some (.int .i64 y) := ((hbel.trans (hb1.mono hbel.size)).cell hg).trans HM.out
      have M2 : w1.cell? gx = some (.int .i64 x) := ((hbel.trans (hb1.mono hbel.size)).cell hg2).trans HM2.out
      have hw1 : Below w.heap.size w w1 := hbel.trans (hb1.mono hbel.size)
      clear ca0 ca1 ca2 cb0 cb1 cb2 r10 r11 r12 r20 r21 r22 f10 f11 f12 f20 f21 f22
      have hgs : gy.block < w1.heap.size := by have := hbel.size; omega
      have hgs2 : gx.block < w1.heap.size := by have := hbel.size; omega
      have M1' : (w1.alloc (.cells #[.int .i64 c0, .int .i64 c1, .int .i64 c2] 136)).cell? gy = some (.int .i64 y) := by
        rw [World.cell?_alloc_lt w1 _ gy hgs]; exact M1
      have M2' : (w1.alloc (.cells #[.int .i64 c0, .int .i64 c1, .int .i64 c2] 136)).cell? gx = some (.int .i64 x) := by
        rw [World.cell?_alloc_lt w1 _ gx hgs2]; exact M2
      have R1 := H1.out.below hb1 H1.out.lt
      have R2 := H2.out.below hb1 H2.out.lt
      have HA1 := Lib.hid (A1.alloc (.cells #[.int .i64 c0, .int .i64 c1, .int .i64 c2] 136))
      have HB1 := Lib.hid (B1.alloc (.cells #[.int .i64 c0, .int .i64 c1, .int .i64 c2] 136))
      have HR1 := Lib.hid (R1.alloc (.cells #[.int .i64 c0, .int .i64 c1, .int .i64 c2] 136))
      have HR2 := Lib.hid (R2.alloc (.cells #[.int .i64 c0, .int .i64 c1, .int .i64 c2] 136))
      have HM1 := Lib.hid M1'
      have HM3 := Lib.hid M2'
      clear A1 B1 R1 R2 M1 M1' M2 M2'
      go_wp2_with fail
      refine (closH_any c0 c1 c2 gy gx x y _ OC.out hx0 hx1 hy0 hy1 (by simp; omega) (by simp; omega) HM1.out HM3.out).mono ?_
      rintro e w2 ⟨rfl, hb2⟩
      have hs2 := hb2.size
      simp at hs2
      have A2 := HA1.out.below hb2 HA1.out.lt
      have B2 := HB1.out.below hb2 HB1.out.lt
      have R12 := HR1.out.below hb2 HR1.out.lt
      have R22 := HR2.out.below hb2 HR2.out.lt
      have C2 := (At.new w1 136 #[.int .i64 c0, .int .i64 c1, .int .i64 c2]).below hb2 (by simp)
      have hw2 : Below w.heap.size w w2 := (hw1.alloc hw1.size _).trans (hb2.mono (by simp; have := hw1.size; omega))
      have cc0 := C2.cell 0
      have cc1 := C2.cell 1
      have cc2 := C2.cell 2
      have ca0 := A2.cell 0
      have ca1 := A2.cell 1
      have ca2 := A2.cell 2
      have cb0 := B2.cell 0
      have cb1 := B2.cell 1
      have cb2 := B2.cell 2
      simp at cc0 cc1 cc2 ca0 ca1 ca2 cb0 cb1 cb2
      have fa0 := A2.free 0
      have fa1 := A2.free 1
      have fa2 := A2.free 2
      have fb0 := B2.free 0
      have fb1 := B2.free 1
      have fb2 := B2.free 2
      have GA := Lib.hid A2
      have GB := Lib.hid B2
      have G1 := Lib.hid R12
      have G2 := Lib.hid R22
      clear A2 B2 R12 R22 C2 HA HB H1 H2 HA1 HB1 HR1 HR2
      by_cases hcm : c2 * x ≤ c1 * y
      · go_wp2
        go_roundg k
        case measure => omega
        case rel =>
          refine ⟨c0, c1, c2, b0, b1, b2, ?_, ?_, ?_, ?_, ?_, ?_⟩
          · have h := HN.out.up (by rw [HC.out]; simpa using hcm)
            rw [HC.out] at h
            exact h
          · exact ((GA.out.put 0 _).put 1 _).put 2 _
          · exact ((GB.out.far (by simp) _).far (by simp) _).far (by simp) _
          · exact ((G1.out.far (by simp; omega) _).far (by simp; omega) _).far (by simp; omega) _
          · exact ((G2.out.far (by simp) _).far (by simp) _).far (by simp) _
          · exact below_set (below_set (below_set hw2 (by omega)) (by omega)) (by omega)
      · go_wp2
        go_roundg k
        case measure => omega
        case rel =>
          refine ⟨a0, a1, a2, c0, c1, c2, ?_, ?_, ?_, ?_, ?_, ?_⟩
          · have h := HN.out.down (by rw [HC.out]; simpa using hcm)
            rw [HC.out] at h
            exact h
          · exact ((GA.out.far (by simp) _).far (by simp) _).far (by simp) _
          · exact ((GB.out.put 0 _).put 1 _).put 2 _
          · exact ((G1.out.far (by simp; omega) _).far (by simp; omega) _).far (by simp; omega) _
          · exact ((G2.out.far (by simp) _).far (by simp) _).far (by simp) _
          · exact below_set (below_set (below_set hw2 (by omega)) (by omega)) (by omega)
end Go.Proofs.YtdpoemhpmdahjaaDoor
