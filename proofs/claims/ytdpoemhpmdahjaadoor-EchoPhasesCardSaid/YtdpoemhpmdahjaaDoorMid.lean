/- Contracts: parts of numbers, roots, marks, the halving of the eighth of a turn. -/
import Derived.Test.YtdpoemhpmdahjaaDoorLow
import Derived.Test.YtdpoemhpmdahjaaDoorMrk
import Derived.StillTailTactics
import Derived.BigRegion
import Derived.Deep.RegionHeld3
import Derived.Deep.Draws
import Derived.Deep.LoopGhost
namespace Go.Proofs.YtdpoemhpmdahjaaDoor
open Go.RowKit
set_option maxHeartbeats 400000
set_option maxRecDepth 100000

def mkV (a : Mk) : Value := .agg #[.int .i64 a.1, .int .i64 a.2.1, .int .i64 a.2.2]

theorem mathSqrt_any (b r : Nat) (hr : FloatKind.f64.format.sqrt b = some r) (w : World) :
    Calls Tryd.prog 130 #[.float .f64 b] w fun e w' => e = .returned (.float .f64 r) ∧ w = w' := by
  have h1 := fun w => run_sqrt b r hr w
  clear hr
  go_enter Tryd.func130, Tryd.ntmps130
  go_wp2
  go_ret
  exact ⟨rfl, rfl⟩

theorem root_any (n r : Int) (h : rootOK n = true) (hr : rootF n = r) (w : World) :
    Calls Tryd.prog 122 #[.int .i64 n] w fun e w' => e = .returned (.int .i64 r) ∧ w = w' := by
  subst hr
  obtain ⟨q, h1, h2, _⟩ := rootOK_spec h
  have hc : ∀ w, (convert 86 3 (.float .f64 q)).run Tryd.prog w = .ok (.int .i64 (rootF n)) w := fun w => run_convert_float_int w _ _ _ _ _ _ (by kernel_rfl) Tryd.underlying3 h2
  have H1 := Lib.hid h1
  clear h h1 h2
  obtain ⟨m, hm⟩ : ∃ m, m = rootF n := ⟨_, rfl⟩
  rw [← hm] at hc ⊢
  clear hm
  go_enter Tryd.func122, Tryd.ntmps122
  go_wp2_with (go_at_call 130; refine (mathSqrt_any _ q H1.out _).mono ?_; rintro e w' ⟨rfl, rfl⟩)
  go_ret
  exact ⟨rfl, rfl⟩

theorem between_any (a b : Mk) (ha : okMk a = true) (hb : okMk b = true) (hr : rootOK (sqM a b) = true) (w : World) :
    Calls Tryd.prog 123 #[mkV a, mkV b] w fun e w' => e = .returned (mkV (midM a b)) ∧ Below w.heap.size w w' := by
  obtain ⟨a0, a1, a2⟩ := a
  obtain ⟨b0, b1, b2⟩ := b
  obtain ⟨q, h1, h2, hq, _⟩ := rootOK_spec hr
  simp only [okMk, Bool.and_eq_true, decide_eq_true_eq] at ha hb
  obtain ⟨⟨⟨⟨⟨⟨⟨p1, p2⟩, p3⟩, p4⟩, p5⟩, p6⟩, _⟩, _⟩ := ha
  obtain ⟨⟨⟨⟨⟨⟨⟨q1, q2⟩, q3⟩, q4⟩, q5⟩, q6⟩, _⟩, _⟩ := hb
  have hx : (a1 + b1) * (a1 + b1) ≤ 33554432 * 33554432 := Int.mul_le_mul (by omega) (by omega) (by omega) (by omega)
  have hy : (a2 + b2) * (a2 + b2) ≤ 33554432 * 33554432 := Int.mul_le_mul (by omega) (by omega) (by omega) (by omega)
  have hx0 : 0 ≤ (a1 + b1) * (a1 + b1) := Int.mul_nonneg (by omega) (by omega)
  have hy0 : 0 ≤ (a2 + b2) * (a2 + b2) := Int.mul_nonneg (by omega) (by omega)
  obtain ⟨r, hrr⟩ : ∃ r, r = rootF (sqM (a0, a1, a2) (b0, b1, b2)) := ⟨_, rfl⟩
  have hfin : mkV (midM (a0, a1, a2) (b0, b1, b2)) = .agg #[.int .i64 ((a0 + b0) / 2), .int .i64 ((a1 + b1) * 16777216 / r), .int .i64 ((a2 + b2) * 16777216 / r)] := by rw [hrr]; rfl
  rw [hfin]
  have HR := Lib.hid hr
  have HQ := Lib.hid hrr.symm
  rw [← hrr] at hq
  clear h1 h2 hr hfin hrr
  show Calls Tryd.prog 123 #[.agg #[.int .i64 a0, .int .i64 a1, .int .i64 a2], .agg #[.int .i64 b0, .int .i64 b1, .int .i64 b2]] w _
  go_enter Tryd.func123, Tryd.ntmps123
  go_wp2
  go_quiet (fail)
  go_wp2_with (go_at_call 122; refine (root_any _ r HR.out HQ.out _).mono ?_; rintro e w' ⟨rfl, rfl⟩)
  go_region
  go_wp2
  refine bodyPost_ret (v := .agg #[.int .i64 ((a0 + b0) / 2), .int .i64 ((a1 + b1) * 16777216 / r), .int .i64 ((a2 + b2) * 16777216 / r)]) (by simp [results, Tryd.results123, go_sem]) rfl ⟨rfl, ?_⟩
  repeat (first | exact Below.refl _ _ | refine Below.setCell ?_ (by simp; try omega) _ | refine Below.alloc ?_ (by simp; try omega) _ | refine below_drewN ?_ _)

def nar : Nat → (Mk → Bool) → Mk → Mk → Mk × Mk
  | 0, _, a, b => (a, b)
  | k + 1, f, a, b => if f (midM a b) then nar k f (midM a b) b else nar k f a (midM a b)

theorem tree_facts {k : Nat} {a b : Mk} (h : tree (k + 1) a b = true) : okMk a = true ∧ okMk b = true ∧ b.1 = a.1 + 2 ^ (k + 1) ∧ rootOK (sqM a b) = true ∧ tree k a (midM a b) = true ∧ tree k (midM a b) b = true := by
  simp only [tree, Bool.and_eq_true, decide_eq_true_eq] at h
  exact ⟨h.1.1.1.1.1, h.1.1.1.1.2, h.1.1.1.2, h.1.1.2, h.1.2, h.2⟩
theorem tree_zero {a b : Mk} (h : tree 0 a b = true) : okMk a = true ∧ okMk b = true ∧ b.1 = a.1 + 1 ∧ a.2.2 * b.2.1 < a.2.1 * b.2.2 := by
  simp only [tree, Bool.and_eq_true, decide_eq_true_eq] at h
  exact ⟨h.1.1.1, h.1.1.2, h.1.2, h.2⟩
theorem okMk_facts {a : Mk} (h : okMk a = true) : 0 ≤ a.1 ∧ a.1 ≤ 1024 ∧ 0 ≤ a.2.1 ∧ a.2.1 ≤ 16777216 ∧ 0 ≤ a.2.2 ∧ a.2.2 ≤ 16777216 := by
  simp only [okMk, Bool.and_eq_true, decide_eq_true_eq] at h
  exact ⟨h.1.1.1.1.1.1.1, h.1.1.1.1.1.1.2, h.1.1.1.1.1.2, h.1.1.1.1.2, h.1.1.1.2, h.1.1.2⟩

theorem between_c (a0 a1 a2 b0 b1 b2 c0 c1 c2 : Int) (ha : okMk (a0, a1, a2) = true) (hb : okMk (b0, b1, b2) = true) (hr : rootOK (sqM (a0, a1, a2) (b0, b1, b2)) = true) (hc : midM (a0, a1, a2) (b0, b1, b2) = (c0, c1, c2)) (w : World) :
    Calls Tryd.prog 123 #[.agg #[.int .i64 a0, .int .i64 a1, .int .i64 a2], .agg #[.int .i64 b0, .int .i64 b1, .int .i64 b2]] w fun e w' => e = .returned (.agg #[.int .i64 c0, .int .i64 c1, .int .i64 c2]) ∧ Below w.heap.size w w' := by
  have h := between_any (a0, a1, a2) (b0, b1, b2) ha hb hr w
  rw [hc] at h
  exact h

theorem closD_any (c0 c1 c2 : Int) (g : Addr) (m : Int) (w : World) (hg : g.block < w.heap.size) (hm : w.cell? g = some (.int .i64 m)) :
    Calls Tryd.prog 101 #[.agg #[.int .i64 c0, .int .i64 c1, .int .i64 c2], .pointer (some g)] w fun e w' => e = .returned (.bool (decide (c0 ≤ m))) ∧ Below w.heap.size w w' := by
  have hm2 : (w.alloc (.cells #[.int .i64 c0, .int .i64 c1, .int .i64 c2] 136)).cell? g = some (.int .i64 m) := by
    rw [World.cell?_alloc_lt w _ g hg]; exact hm
  go_enter Tryd.func101, Tryd.ntmps101
  go_wp2
  go_ret
  exact ⟨rfl, (Below.refl _ _).alloc (Nat.le_refl _) _⟩

theorem two_le (k : Nat) : (2 : Int) ≤ 2 ^ (k + 1) := by
  have h : (2 : Nat) ^ 1 ≤ 2 ^ (k + 1) := Nat.pow_le_pow_right (by decide) (by omega)
  exact_mod_cast h

def narAll (f : Mk → Bool) : Mk × Mk := nar 10 f m0 m1
def IsNar (k : Nat) (f : Mk → Bool) (a b : Mk) : Prop := nar k f a b = narAll f ∧ tree k a b = true
theorem IsNar.start (f : Mk → Bool) : IsNar 10 f m0 m1 := ⟨rfl, tree_all⟩
theorem IsNar.up {k : Nat} {f : Mk → Bool} {a b : Mk} (h : IsNar (k + 1) f a b) (hf : f (midM a b) = true) : IsNar k f (midM a b) b := by
  refine ⟨?_, (tree_facts h.2).2.2.2.2.2⟩
  rw [← h.1, nar, if_pos hf]
theorem IsNar.down {k : Nat} {f : Mk → Bool} {a b : Mk} (h : IsNar (k + 1) f a b) (hf : f (midM a b) = false) : IsNar k f a (midM a b) := by
  refine ⟨?_, (tree_facts h.2).2.2.2.2.1⟩
  rw [← h.1, nar, if_neg (by rw [hf]; simp)]

set_option maxHeartbeats 4000000 in
theorem narrowD_any (w : World) (g : Addr) (m : Int) (hg : g.block < w.heap.size) (hm : w.cell? g = some (.int .i64 m)) :
    Calls Tryd.prog 100 #[.func (.func 101) #[] #[.pointer (some g)]] w fun e w' =>
      ∃ a b : Mk, e = .returned (.tuple #[mkV a, mkV b]) ∧ IsNar 0 (fun c => decide (c.1 ≤ m)) a b ∧ Below w.heap.size w w' := by
  have HM := Lib.hid hm
  clear hm
  go_enter Tryd.func100, Tryd.ntmps100
  go_wp2_with (go_at_call 122; refine (root_any _ 11863283 root_side.1 root_side.2 _).mono ?_; rintro e w' ⟨rfl, rfl⟩)
  go_loopg [7] 10 (fun k v wr => ∃ a0 a1 a2 b0 b1 b2 : Int, IsNar k (fun c => decide (c.1 ≤ m)) (a0, a1, a2) (b0, b1, b2) ∧ At wr (w.heap.size + 1 + 1) 136 #[.int .i64 a0, .int .i64 a1, .int .i64 a2] ∧ At wr (w.heap.size + 1 + 1 + 1) 136 #[.int .i64 b0, .int .i64 b1, .int .i64 b2] ∧
    At wr w.heap.size 136 #[.int .i64 0, .int .i64 0, .int .i64 0] ∧ At wr (w.heap.size + 1) 136 #[.int .i64 0, .int .i64 0, .int .i64 0] ∧ Below w.heap.size w wr)
  case atStart =>
    refine ⟨0, 16777216, 0, 1024, 11863283, 11863283, IsNar.start _, ?_, ?_, ?_, ?_, ?_⟩
    · exact (at_new (by simp)).alloc _
    · exact at_new (by simp)
    · exact (((at_new (by simp)).alloc _).alloc _).alloc _
    · exact ((at_new (by simp)).alloc _).alloc _
    · exact ((((Below.refl _ _).alloc (Nat.le_refl _) _).alloc (by simp) _).alloc (by simp; omega) _).alloc (by simp; omega) _
  case round =>
    obtain ⟨a0, a1, a2, b0, b1, b2, hn, hA, hB, hR1, hR2, hbel⟩ := hrel
    have ca0 := hA.cell 0
    have ca1 := hA.cell 1
    have ca2 := hA.cell 2
    have cb0 := hB.cell 0
    have cb1 := hB.cell 1
    have cb2 := hB.cell 2
    simp at ca0 ca1 ca2 cb0 cb1 cb2
    have r10 := hR1.cell 0
    have r11 := hR1.cell 1
    have r12 := hR1.cell 2
    have r20 := hR2.cell 0
    have r21 := hR2.cell 1
    have r22 := hR2.cell 2
    simp at r10 r11 r12 r20 r21 r22
    have f10 := hR1.free 0
    have f11 := hR1.free 1
    have f12 := hR1.free 2
    have f20 := hR2.free 0
    have f21 := hR2.free 1
    have f22 := hR2.free 2
    have HN := Lib.hid hn
    have HA := Lib.hid hA
    have HB := Lib.hid hB
    have H1 := Lib.hid hR1
    have H2 := Lib.hid hR2
    rcases gk with _ | k
    · obtain ⟨oa, ob, hd, _⟩ := tree_zero hn.2
      obtain ⟨u1, u2, _, _, _, _⟩ := okMk_facts oa
      obtain ⟨u3, u4, _, _, _, _⟩ := okMk_facts ob
      simp only at hd u1 u2 u3 u4
      have hlt : ¬ 1 < b0 - a0 := by omega
      clear hd hn hA hB hR1 hR2 oa ob
      go_wp2
      go_region
      go_wp2
      refine bodyPost_ret (v := .tuple #[.agg #[.int .i64 a0, .int .i64 a1, .int .i64 a2], .agg #[.int .i64 b0, .int .i64 b1, .int .i64 b2]]) (by simp [results, Tryd.results100, go_sem, *]) rfl ⟨(a0, a1, a2), (b0, b1, b2), rfl, HN.out, ?_⟩
      repeat (first | (with_reducible refine Below.drew ?_) | (with_reducible refine below_drewNs ?_) | (with_reducible refine below_set ?_ (by first | omega | (simp; omega))) | (with_reducible refine below_new ?_ (by first | omega | (simp; omega))) | (with_reducible exact hbel))
    · obtain ⟨oa, ob, hd, hr, _, _⟩ := tree_facts hn.2
      obtain ⟨u1, u2, _, _, _, _⟩ := okMk_facts oa
      obtain ⟨u3, u4, _, _, _, _⟩ := okMk_facts ob
      simp only at hd u1 u2 u3 u4
      have hp := two_le k
      have hlt : 1 < b0 - a0 := by omega
      obtain ⟨⟨c0, c1, c2⟩, hc⟩ : ∃ c, midM (a0, a1, a2) (b0, b1, b2) = c := ⟨_, rfl⟩
      have HC := Lib.hid hc
      have HR := Lib.hid hr
      have OA := Lib.hid oa
      have OB := Lib.hid ob
      clear hd hn hA hB hR1 hR2 oa ob hc hr hp
      go_wp2_with fail
      refine (between_c a0 a1 a2 b0 b1 b2 c0 c1 c2 OA.out OB.out HR.out HC.out _).mono ?_
      rintro e w1 ⟨rfl, hb1⟩
      have hs1 := hb1.size
      have hs0 := HB.out.lt
      have A1 := HA.out.below hb1 HA.out.lt
      have B1 := HB.out.below hb1 HB.out.lt
      have M1 : w1.cell? g = some (.int .i64 m) := ((hbel.trans (hb1.mono hbel.size)).cell hg).trans HM.out
      have hw1 : Below w.heap.size w w1 := hbel.trans (hb1.mono hbel.size)
      clear ca0 ca1 ca2 cb0 cb1 cb2 r10 r11 r12 r20 r21 r22 f10 f11 f12 f20 f21 f22
      have hgs : g.block < w1.heap.size := by have := hbel.size; omega
      have M1' : (w1.alloc (.cells #[.int .i64 c0, .int .i64 c1, .int .i64 c2] 136)).cell? g = some (.int .i64 m) := by
        rw [World.cell?_alloc_lt w1 _ g hgs]; exact M1
      have R1 := H1.out.below hb1 H1.out.lt
      have R2 := H2.out.below hb1 H2.out.lt
      have HA1 := Lib.hid (A1.alloc (.cells #[.int .i64 c0, .int .i64 c1, .int .i64 c2] 136))
      have HB1 := Lib.hid (B1.alloc (.cells #[.int .i64 c0, .int .i64 c1, .int .i64 c2] 136))
      have HR1 := Lib.hid (R1.alloc (.cells #[.int .i64 c0, .int .i64 c1, .int .i64 c2] 136))
      have HR2 := Lib.hid (R2.alloc (.cells #[.int .i64 c0, .int .i64 c1, .int .i64 c2] 136))
      have HM1 := Lib.hid M1'
      clear A1 B1 R1 R2 M1 M1'
      go_wp2_with fail
      refine (closD_any c0 c1 c2 g m _ (by simp; omega) HM1.out).mono ?_
      rintro e w2 ⟨rfl, hb2⟩
      have hs2 := hb2.size
      simp at hs2
      have A2 := HA1.out.below hb2 HA1.out.lt
      have B2 := HB1.out.below hb2 HB1.out.lt
      have R12 := HR1.out.below hb2 HR1.out.lt
      have R22 := HR2.out.below hb2 HR2.out.lt
      have C2 := (At.new w1 136 #[.int .i64 c0, .int .i64 c1, .int .i64 c2]).below hb2 (by simp)
      have hw2 : Below w.heap.size w w2 := (hw1.alloc hw1.size _).trans (hb2.mono (by simp; have := hw1.size; omega))
      have cc0 := C2.cell 0
      have cc1 := C2.cell 1
      have cc2 := C2.cell 2
      have ca0 := A2.cell 0
      have ca1 := A2.cell 1
      have ca2 := A2.cell 2
      have cb0 := B2.cell 0
      have cb1 := B2.cell 1
      have cb2 := B2.cell 2
      simp at cc0 cc1 cc2 ca0 ca1 ca2 cb0 cb1 cb2
      have fa0 := A2.free 0
      have fa1 := A2.free 1
      have fa2 := A2.free 2
      have fb0 := B2.free 0
      have fb1 := B2.free 1
      have fb2 := B2.free 2
      have GA := Lib.hid A2
      have GB := Lib.hid B2
      have G1 := Lib.hid R12
      have G2 := Lib.hid R22
      clear A2 B2 R12 R22 C2 HA HB H1 H2 HA1 HB1 HR1 HR2
      by_cases hcm : c0 ≤ m
      · go_wp2
        go_roundg k
        case measure => omega
        case rel =>
          refine ⟨c0, c1, c2, b0, b1, b2, ?_, ?_, ?_, ?_, ?_, ?_⟩
          · have h := HN.out.up (by rw [HC.out]; simpa using hcm)
            rw [HC.out] at h
            exact h
          · exact ((GA.out.put 0 _).put 1 _).put 2 _
          · exact ((GB.out.far (by simp) _).far (by simp) _).far (by simp) _
          · exact ((G1.out.far (by simp; omega) _).far (by simp; omega) _).far (by simp; omega) _
          · exact ((G2.out.far (by simp) _).far (by simp) _).far (by simp) _
          · exact below_set (below_set (below_set hw2 (by omega)) (by omega)) (by omega)
      · go_wp2
        go_roundg k
        case measure => omega
        case rel =>
          refine ⟨a0, a1, a2, c0, c1, c2, ?_, ?_, ?_, ?_, ?_, ?_⟩
          · have h := HN.out.down (by rw [HC.out]; simpa using hcm)
            rw [HC.out] at h
            exact h
          · exact ((GA.out.far (by simp) _).far (by simp) _).far (by simp) _
          · exact ((GB.out.put 0 _).put 1 _).put 2 _
          · exact ((G1.out.far (by simp; omega) _).far (by simp; omega) _).far (by simp; omega) _
          · exact ((G2.out.far (by simp) _).far (by simp) _).far (by simp) _
          · exact below_set (below_set (below_set hw2 (by omega)) (by omega)) (by omega)
end Go.Proofs.YtdpoemhpmdahjaaDoor
