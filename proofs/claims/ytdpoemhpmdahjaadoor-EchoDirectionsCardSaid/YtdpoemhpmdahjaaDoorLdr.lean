/- The law on directions. -/
import Derived.Test.YtdpoemhpmdahjaaDoorRef
import Derived.Test.YtdpoemhpmdahjaaDoorAwk
import Derived.Deep.RegionHeld3
import Derived.Laws.StructEq
namespace Go.Proofs.YtdpoemhpmdahjaaDoor
open Go.RowKit
set_option maxHeartbeats 400000
set_option maxRecDepth 100000

theorem nar_next (m : Int) {k : Nat} : ∀ {a b : Mk}, tree k a b = true → a.1 ≤ m → m < b.1 →
    (nar k (fun c => decide (c.1 ≤ m)) a b).1.1 = m ∧ (m + 1 = b.1 → (nar k (fun c => decide (c.1 ≤ m)) a b).2 = b) ∧
      (m + 1 < b.1 → (nar k (fun c => decide (c.1 ≤ m + 1)) a b).1 = (nar k (fun c => decide (c.1 ≤ m)) a b).2) := by
  induction k with
  | zero =>
    intro a b ht ha hb
    obtain ⟨_, _, hd, _⟩ := tree_zero ht
    exact ⟨by show a.1 = m; omega, fun _ => rfl, fun h => by omega⟩
  | succ k ih =>
    intro a b ht ha hb
    obtain ⟨_, _, hd, _, h1, h2⟩ := tree_facts ht
    have hp := two_le k
    have hm : (midM a b).1 = (a.1 + b.1) / 2 := rfl
    by_cases hc : (midM a b).1 ≤ m
    · rw [nar, if_pos (by simpa using hc), nar, if_pos (by simp; omega)]
      exact ih h2 hc hb
    · obtain ⟨i1, i2, i3⟩ := ih h1 ha (by omega)
      rw [nar, if_neg (by simpa using hc)]
      refine ⟨i1, fun h => by omega, fun _ => ?_⟩
      rw [nar]
      by_cases he : m + 1 = (midM a b).1
      · rw [if_pos (by simp; omega), i2 he]
        exact nar_stay (m + 1) h2 he.symm
      · rw [if_neg (by simp; omega)]
        exact i3 (by omega)

theorem last_top : (narAll (fun c => decide (c.1 ≤ (1024 : Int)))).2 = m1 := by decide +kernel

theorem dirI_next {m : Int} (h0 : 0 ≤ m) (h1 : m < 1024) : dirI (m + 1) = (narAll (fun c => decide (c.1 ≤ m))).2 := by
  obtain ⟨_, i2, i3⟩ := nar_next m tree_all h0 h1
  by_cases h : m + 1 = 1024
  · rw [h]
    unfold dirI
    rw [if_pos rfl, last_top]
    exact (i2 h).symm
  · unfold dirI
    rw [if_neg h]
    exact i3 (by show m + 1 < 1024; omega)

theorem okMk_len {a : Mk} (h : okMk a = true) : 281474842492944 ≤ a.2.1 * a.2.1 + a.2.2 * a.2.2 ∧ a.2.1 * a.2.1 + a.2.2 * a.2.2 ≤ 281475010265089 := by
  simp only [okMk, Bool.and_eq_true, decide_eq_true_eq] at h
  exact ⟨h.1.2, h.2⟩

theorem dirI_ok {m : Int} : okMk (dirI m) = true := by
  obtain ⟨h1, h2, _, _⟩ := tree_zero (narAll_tree (fun c => decide (c.1 ≤ m)))
  unfold dirI
  split
  · exact h2
  · exact h1

theorem dirI_turn {m : Int} (h0 : 0 ≤ m) (h1 : m < 1024) : (dirI m).2.2 * (dirI (m + 1)).2.1 < (dirI m).2.1 * (dirI (m + 1)).2.2 := by
  obtain ⟨_, _, _, h⟩ := tree_zero (narAll_tree (fun c => decide (c.1 ≤ m)))
  rw [dirI_next h0 h1]
  have e : dirI m = (narAll (fun c => decide (c.1 ≤ m))).1 := by unfold dirI; rw [if_neg (by omega)]
  rw [e]
  exact h

/-- two arrays of two numbers are compared -/
@[go_sem] theorem eq_two (a b c d : Int) (w : World) : (Op.equalIn 10000 51 (.agg #[.int .i64 a, .int .i64 b]) (.agg #[.int .i64 c, .int .i64 d])).run Tryd.prog w = .ok (a == c && b == d) w := by
  have i1 := Tryd.underlying3
  have i2 := Tryd.isAgg3
  have i3 := Tryd.sizeOf3
  have e : (10000 : Nat) = 9999 + 1 := rfl
  rw [e, Op.equalIn]
  simp only [Sem.run_bind, run_underlying Tryd.underlying51, Result.andThen_ok, Std.Legacy.Range.forIn_eq_forIn_range', Std.Legacy.Range.size, Nat.sub_zero, Nat.add_sub_cancel, Nat.div_one, List.range'_succ, List.range'_zero, List.forIn_cons, List.forIn_nil]
  go_simp
  by_cases h1 : a = c
  · by_cases h2 : b = d
    · simp [h1, h2]
    · simp [h1, h2]
  · simp [h1]

theorem directions_no (m : Int) (h : ¬ (0 ≤ m ∧ m ≤ 1024)) (w : World) (ht : Tab w) :
    Calls Tryd.prog 9 #[.int .i64 m] w fun e w' => e = .returned (.bool true) ∧ Below w.heap.size w w' := by
  have HT := Lib.hid ht
  have H := Lib.hid h
  have hi := inB_f h
  clear ht h
  go_enter Tryd.func9, Tryd.ntmps9
  go_wp2_with fail
  refine (awake_ok w HT.out).mono ?_
  rintro e w1 ⟨rfl, hb1⟩
  go_wp2_with fail
  refine (direction_no m H.out w1).mono ?_
  rintro e w2 ⟨rfl, hb2⟩
  have hw2 : Below w.heap.size w w2 := hb1.trans (hb2.mono hb1.size)
  have z2 := hw2.size
  clear hb1 hb2
  go_wp2_with (go_at_call 32; refine (baseWithin_any _ _ _ _).mono ?_; rintro e w' ⟨rfl, rfl⟩)
  go_ret
  refine ⟨rfl, below_new hw2 z2⟩

theorem directions_in (m : Int) (h0 : 0 ≤ m) (h1 : m ≤ 1024) (w : World) (ht : Tab w) :
    Calls Tryd.prog 9 #[.int .i64 m] w fun e w' => e = .returned (.bool true) ∧ Below w.heap.size w w' := by
  have HT := Lib.hid ht
  have hi := inB_t ⟨h0, h1⟩
  have hok := dirI_ok (m := m)
  obtain ⟨_, _, d1, d2, d3, d4⟩ := okMk_facts hok
  obtain ⟨d5, d6⟩ := okMk_len hok
  obtain ⟨x, hx⟩ : ∃ x, x = (dirI m).2.1 := ⟨_, rfl⟩
  obtain ⟨y, hy⟩ : ∃ y, y = (dirI m).2.2 := ⟨_, rfl⟩
  rw [← hx] at d1 d2 d5 d6
  rw [← hy] at d3 d4 d5 d6
  have HX := Lib.hid hx
  have HY := Lib.hid hy
  clear ht hok hx hy
  have s1 : 0 ≤ x * x := Int.mul_nonneg d1 d1
  have s2 : 0 ≤ y * y := Int.mul_nonneg d3 d3
  have s3 : x * x ≤ 281475010265089 := by omega
  have s4 : y * y ≤ 281475010265089 := by omega
  have hl := inB_t (n := x * x + y * y) (lo := 281474842492944) (hi := 281475010265089) ⟨d5, d6⟩
  go_enter Tryd.func9, Tryd.ntmps9
  go_wp2_with fail
  refine (awake_ok w HT.out).mono ?_
  rintro e w1 ⟨rfl, hb1⟩
  go_wp2_with fail
  refine (direction_ok m h0 h1 w1).mono ?_
  rw [← HX.out, ← HY.out]
  rintro e w2 ⟨rfl, hb2⟩
  have hw2 : Below w.heap.size w w2 := hb1.trans (hb2.mono hb1.size)
  have z2 := hw2.size
  clear hb1 hb2
  go_wp2_with (go_at_call 32; refine (baseWithin_any _ _ _ _).mono ?_; rintro e w' ⟨rfl, rfl⟩)
  have hA := At.new w2 51 #[.int .i64 x, .int .i64 y]
  have hb3 := below_new hw2 z2 (o := .cells #[.int .i64 x, .int .i64 y] 51)
  obtain ⟨W3, hW3⟩ : ∃ W3, W3 = w2.alloc (.cells #[.int .i64 x, .int .i64 y] 51) := ⟨_, rfl⟩
  rw [← hW3] at hA hb3
  have hW3s : W3.heap.size = w2.heap.size + 1 := by rw [hW3]; simp
  have hd : ∀ W, Below W3.heap.size W3 W → Calls Tryd.prog 54 #[.int .i64 m] W fun e w' => e = .returned (.agg #[.int .i64 x, .int .i64 y]) ∧ Below W3.heap.size W3 w' ∧
      w'.cell? ⟨w2.heap.size, 0, none⟩ = some (.int .i64 x) ∧ w'.cell? ⟨w2.heap.size, 1, none⟩ = some (.int .i64 y) := by
    intro W hW
    refine (refDir_any m h0 h1 W).mono ?_
    rw [← HX.out, ← HY.out]
    rintro e w' ⟨rfl, hb⟩
    have hB : Below W3.heap.size W3 w' := hW.trans (hb.mono hW.size)
    have q := hA.below hB (by omega)
    have q0 := q.cell 0
    have q1 := q.cell 1
    simp at q0 q1
    exact ⟨rfl, hB, q0, q1⟩
  have HW3 := Lib.hid hW3
  have HD := Lib.hid hd
  have HA := Lib.hid hA
  clear hW3 hd hA
  have e1 : (x != x) = false := by simp
  have e2 : (y != y) = false := by simp
  go_region_held3 (fun w' => w'.cell? ⟨w2.heap.size, 0, none⟩ = some (.int .i64 x) ∧ w'.cell? ⟨w2.heap.size, 1, none⟩ = some (.int .i64 y)) (go_keep)
    (first | (go_at_call 54; refine (HD.out _ ?_).mono ?_; (rw [HW3.out]; repeat (first | (with_reducible exact Below.refl _ _) | (with_reducible refine Below.drew ?_) | (with_reducible refine below_drewNs ?_))); rintro e w4 ⟨rfl, hb4, hs41, hs42⟩))
  have hw4 : Below w.heap.size w w4 := hb3.trans (hb4.mono hb3.size)
  have A4 := HA.out.below hb4 (by omega)
  have z4 := hb4.size
  have HA4 := Lib.hid A4
  have HB4 := Lib.hid hw4
  have z5 : w2.heap.size < w4.heap.size := by omega
  clear hb4 hb3 A4 hw4 HD HA HW3 hW3s z4
  by_cases hm : m = 1024
  · have e3 : (m == 1024) = true := by simpa using hm
    clear hm
    go_wp2_with (go_at_call 32; refine (baseWithin_any _ _ _ _).mono ?_; rintro e w' ⟨rfl, rfl⟩)
    go_ret
    exact ⟨rfl, HB4.out⟩
  · have e3 : (m == 1024) = false := by simpa using hm
    have hmlt : m < 1024 := by omega
    have hturn := dirI_turn h0 (by omega : m < 1024)
    have hok2 := dirI_ok (m := m + 1)
    obtain ⟨_, _, f1, f2, f3, f4⟩ := okMk_facts hok2
    obtain ⟨x', hx'⟩ : ∃ x', x' = (dirI (m + 1)).2.1 := ⟨_, rfl⟩
    obtain ⟨y', hy'⟩ : ∃ y', y' = (dirI (m + 1)).2.2 := ⟨_, rfl⟩
    rw [← HX.out, ← HY.out, ← hx', ← hy'] at hturn
    rw [← hx'] at f1 f2
    rw [← hy'] at f3 f4
    have HX2 := Lib.hid hx'
    have HY2 := Lib.hid hy'
    have i1 := inB_t (n := x') (lo := 0) (hi := 16777216) ⟨f1, f2⟩
    have i2 := inB_t (n := y') (lo := 0) (hi := 16777216) ⟨f3, f4⟩
    have g1 := Int.mul_nonneg d1 f3
    have g2 := Int.mul_le_mul d2 f4 f3 (by omega)
    have g3 := Int.mul_nonneg d3 f1
    have g4 := Int.mul_le_mul d4 f2 f1 (by omega)
    clear hok2 hx' hy' hm
    go_wp2_with (go_at_call 32; refine (baseWithin_any _ _ _ _).mono ?_; rintro e w' ⟨rfl, rfl⟩)
    refine (direction_ok (m + 1) (by omega) (by omega) w4).mono ?_
    rw [← HX2.out, ← HY2.out]
    rintro e w5 ⟨rfl, hb5⟩
    have hw5 : Below w.heap.size w w5 := HB4.out.trans (hb5.mono HB4.out.size)
    have A5 := HA4.out.below hb5 z5
    have z6 := hb5.size
    have k0 := A5.cell 0
    have k1 := A5.cell 1
    simp at k0 k1
    have z7 : w2.heap.size < w5.heap.size := by omega
    have z8 := hw5.size
    clear hb5 A5 HA4 hs41 hs42
    go_wp2_with (go_at_call 32; refine (baseWithin_any _ _ _ _).mono ?_; rintro e w' ⟨rfl, rfl⟩)
    go_ret
    exact ⟨rfl, below_new hw5 z8⟩

theorem directions_all (m : Int) (w : World) (ht : Tab w) :
    Calls Tryd.prog 9 #[.int .i64 m] w fun e w' => e = .returned (.bool true) ∧ Below w.heap.size w w' := by
  by_cases h : 0 ≤ m ∧ m ≤ 1024
  · exact directions_in m h.1 h.2 w ht
  · exact directions_no m h w ht
end Go.Proofs.YtdpoemhpmdahjaaDoor
