/- Contracts: the phase of a whole complex number, and the direction of a number. -/
import Derived.Test.YtdpoemhpmdahjaaDoorNrh
namespace Go.Proofs.YtdpoemhpmdahjaaDoor
open Go.RowKit
set_option maxHeartbeats 400000
set_option maxRecDepth 100000

theorem checkParts_ok (a b l : Nat) (x y m : Int) (ha : Is .f64 a x) (hb : Is .f64 b y) (hl : Is .f64 l m) (hx : x.natAbs ≤ m) (hy : y.natAbs ≤ m) (hm : m ≤ 1000000000000) (w : World) :
    Calls Tryd.prog 104 #[.complex .f64 a b, .float .f64 l] w fun e w' => e = .returned (.int .i64 0) ∧ w = w' := by
  have HA := Lib.hid ha
  have HB := Lib.hid hb
  have HL := Lib.hid hl
  have HX := Lib.hid hx
  have HY := Lib.hid hy
  have HM := Lib.hid hm
  clear ha hb hl hx hy hm
  go_enter Tryd.func104, Tryd.ntmps104
  go_wp2_with fail
  refine (isWhole_ok a x HA.out (by have := HX.out; have := HM.out; omega) _).mono ?_
  rintro e w' ⟨rfl, rfl⟩
  go_wp2_with fail
  refine (isWhole_ok b y HB.out (by have := HY.out; have := HM.out; omega) _).mono ?_
  rintro e w' ⟨rfl, rfl⟩
  go_wp2_with fail
  refine (exceeds_no a b l x y m HA.out HB.out HL.out HX.out HY.out _).mono ?_
  rintro e w' ⟨rfl, rfl⟩
  go_wp2_with fail
  go_ret
  exact ⟨rfl, rfl⟩

theorem parts_ok (a b : Nat) (x y : Int) (ha : Is .f64 a x) (hb : Is .f64 b y) (hx : x.natAbs ≤ 1000000000000) (hy : y.natAbs ≤ 1000000000000) (w : World) :
    Calls Tryd.prog 106 #[.complex .f64 a b] w fun e w' => e = .returned (.tuple #[.int .i64 x, .int .i64 y]) ∧ w = w' := by
  have h1 := toInt64_is ha (by omega) (by omega)
  have h2 := toInt64_is hb (by omega) (by omega)
  have c1 : ∀ w, (convert 86 3 (.float .f64 a)).run Tryd.prog w = .ok (.int .i64 x) w := fun w => run_convert_float_int w _ _ _ _ _ _ (by kernel_rfl) Tryd.underlying3 h1
  have c2 : ∀ w, (convert 86 3 (.float .f64 b)).run Tryd.prog w = .ok (.int .i64 y) w := fun w => run_convert_float_int w _ _ _ _ _ _ (by kernel_rfl) Tryd.underlying3 h2
  clear ha hb hx hy h1 h2
  go_enter Tryd.func106, Tryd.ntmps106
  go_wp2
  go_ret2
  exact ⟨rfl, rfl⟩

/-- the number of halves that is reached by x + y i, 0 ≤ y ≤ x -/
def halvesI (x y : Int) : Int := if x = y then 1024 else (narAll (fun c => decide (c.2.2 * x ≤ c.2.1 * y))).1.1

theorem halves_any (x y : Int) (hx0 : 0 ≤ x) (hx1 : x ≤ 100000000000) (hy0 : 0 ≤ y) (hy1 : y ≤ 100000000000) (w : World) :
    Calls Tryd.prog 126 #[.int .i64 x, .int .i64 y] w fun e w' => e = .returned (.int .i64 (halvesI x y)) ∧ Below w.heap.size w w' := by
  by_cases hxy : x = y
  · subst hxy
    have hf : halvesI x x = 1024 := if_pos rfl
    have HF := Lib.hid hf
    clear hf
    go_enter Tryd.func126, Tryd.ntmps126
    go_wp2
    go_ret
    refine ⟨congrArg (fun n => Ending.returned (Value.int .i64 n)) HF.out.symm, ((Below.refl _ _).alloc (Nat.le_refl _) _).alloc (by simp) _⟩
  · have hne : (x == y) = false := by simpa using hxy
    have hf : halvesI x y = (narAll (fun c => decide (c.2.2 * x ≤ c.2.1 * y))).1.1 := if_neg hxy
    have HF := Lib.hid hf
    clear hf hxy
    go_enter Tryd.func126, Tryd.ntmps126
    go_wp2_with fail
    refine (narrowH_any _ ⟨w.heap.size + 1, 0, none⟩ ⟨w.heap.size, 0, none⟩ x y hx0 hx1 hy0 hy1 (by simp) (by simp; omega) (by simp [go_sem]) (by simp [go_sem])).mono ?_
    rintro e w1 ⟨⟨a0, a1, a2⟩, ⟨b0, b1, b2⟩, rfl, hn, hb1⟩
    have HN := Lib.hid hn
    clear hn
    have hs := hb1.size
    simp at hs
    unfold mkV
    simp only
    go_wp2_with fail
    go_ret
    refine ⟨?_, ?_⟩
    · rw [HF.out]
      have h : ((a0, a1, a2), (b0, b1, b2)) = narAll (fun c => decide (c.2.2 * x ≤ c.2.1 * y)) := HN.out.1
      have e : a0 = (narAll (fun c => decide (c.2.2 * x ≤ c.2.1 * y))).1.1 := by rw [← h]
      exact congrArg (fun n => Ending.returned (Value.int .i64 n)) e
    · refine below_new (below_new (Below.trans ?_ (hb1.mono (by simp; omega))) (by omega)) (by simp; omega)
      exact ((Below.refl _ _).alloc (Nat.le_refl _) _).alloc (by simp) _

theorem nar_tree {k : Nat} {f : Mk → Bool} : ∀ {a b : Mk}, tree k a b = true → tree 0 (nar k f a b).1 (nar k f a b).2 = true := by
  induction k with
  | zero => exact fun h => h
  | succ k ih =>
    intro a b h
    rw [nar]
    split
    · exact ih (tree_facts h).2.2.2.2.2
    · exact ih (tree_facts h).2.2.2.2.1
theorem narAll_tree (f : Mk → Bool) : tree 0 (narAll f).1 (narAll f).2 = true := nar_tree tree_all

theorem halves_range (x y : Int) : 0 ≤ halvesI x y ∧ halvesI x y ≤ 1024 := by
  unfold halvesI
  split
  · omega
  · obtain ⟨h, _⟩ := tree_zero (narAll_tree (fun c => decide (c.2.2 * x ≤ c.2.1 * y)))
    obtain ⟨h1, h2, _⟩ := okMk_facts h
    exact ⟨h1, h2⟩

def ph1 (x y : Int) : Int := (halvesI x y + 1) / 2
def ph2 (x y : Int) : Int := if x < y then 1024 - ph1 y x else ph1 x y
def ph3 (x y : Int) : Int := if x < 0 then 2048 - ph2 (-x) y else ph2 x y
def ph4 (x y : Int) : Int := if y < 0 then -ph3 x (-y) else ph3 x y
theorem ph1_range (x y : Int) : 0 ≤ ph1 x y ∧ ph1 x y ≤ 512 := by
  have := halves_range x y
  unfold ph1; omega
theorem ph2_range (x y : Int) : 0 ≤ ph2 x y ∧ ph2 x y ≤ 1024 := by
  have := ph1_range x y
  have := ph1_range y x
  unfold ph2; split <;> omega
theorem ph3_range (x y : Int) : 0 ≤ ph3 x y ∧ ph3 x y ≤ 2048 := by
  have := ph2_range x y
  have := ph2_range (-x) y
  unfold ph3; split <;> omega
theorem ph4_range (x y : Int) : -2048 ≤ ph4 x y ∧ ph4 x y ≤ 2048 := by
  have := ph3_range x y
  have := ph3_range x (-y)
  unfold ph4; split <;> omega

theorem php1 (x y : Int) (hyx : y ≤ x) (hx1 : x ≤ 100000000000) (hy0 : 0 ≤ y) (w : World) :
    Calls Tryd.prog 105 #[.int .i64 x, .int .i64 y] w fun e w' => e = .returned (.int .i64 (ph1 x y)) ∧ Below w.heap.size w w' := by
  obtain ⟨h0, h1⟩ := halves_range x y
  have hf : ph1 x y = (halvesI x y + 1) / 2 := rfl
  have HF := Lib.hid hf
  obtain ⟨q, hq⟩ : ∃ q, q = halvesI x y := ⟨_, rfl⟩
  have HQ := Lib.hid hq
  rw [← hq] at h0 h1
  clear hf hq
  have e1 : ¬ y < 0 := by omega
  have e2 : ¬ x < 0 := by omega
  have e3 : ¬ x < y := by omega
  go_enter Tryd.func105, Tryd.ntmps105
  go_wp2_with fail
  refine (halves_any x y (by omega) hx1 hy0 (by omega) _).mono ?_
  rintro e w1 ⟨rfl, hb1⟩
  rw [← HQ.out]
  go_wp2_with fail
  go_ret
  exact ⟨congrArg (fun n => Ending.returned (Value.int .i64 n)) (by rw [HF.out, ← HQ.out]), hb1⟩

theorem php2 (x y : Int) (hx0 : 0 ≤ x) (hx1 : x ≤ 100000000000) (hy0 : 0 ≤ y) (hy1 : y ≤ 100000000000) (w : World) :
    Calls Tryd.prog 105 #[.int .i64 x, .int .i64 y] w fun e w' => e = .returned (.int .i64 (ph2 x y)) ∧ Below w.heap.size w w' := by
  by_cases hxy : x < y
  · have hf : ph2 x y = 1024 - ph1 y x := if_pos hxy
    rw [hf]
    obtain ⟨h0, h1⟩ := ph1_range y x
    have e1 : ¬ y < 0 := by omega
    have e2 : ¬ x < 0 := by omega
    have HP := fun w => php1 y x (by omega) hy1 hx0 w
    have HQ := Lib.hid HP
    clear HP hf
    obtain ⟨q, hq⟩ : ∃ q, q = ph1 y x := ⟨_, rfl⟩
    have HE := Lib.hid hq
    rw [← hq] at h0 h1 ⊢
    clear hq
    go_enter Tryd.func105, Tryd.ntmps105
    go_wp2_with fail
    refine (HQ.out _).mono ?_
    rintro e w1 ⟨rfl, hb1⟩
    rw [← HE.out]
    go_wp2_with fail
    go_ret
    exact ⟨rfl, hb1⟩
  · have hf : ph2 x y = ph1 x y := if_neg hxy
    rw [hf]
    exact php1 x y (by omega) hx1 hy0 w

theorem php3 (x y : Int) (hx0 : -100000000000 ≤ x) (hx1 : x ≤ 100000000000) (hy0 : 0 ≤ y) (hy1 : y ≤ 100000000000) (w : World) :
    Calls Tryd.prog 105 #[.int .i64 x, .int .i64 y] w fun e w' => e = .returned (.int .i64 (ph3 x y)) ∧ Below w.heap.size w w' := by
  by_cases hxy : x < 0
  · have hf : ph3 x y = 2048 - ph2 (-x) y := if_pos hxy
    rw [hf]
    obtain ⟨h0, h1⟩ := ph2_range (-x) y
    have e1 : ¬ y < 0 := by omega
    have HP := fun w => php2 (-x) y (by omega) (by omega) hy0 hy1 w
    have HQ := Lib.hid HP
    clear HP hf
    obtain ⟨q, hq⟩ : ∃ q, q = ph2 (-x) y := ⟨_, rfl⟩
    have HE := Lib.hid hq
    rw [← hq] at h0 h1 ⊢
    clear hq
    go_enter Tryd.func105, Tryd.ntmps105
    go_wp2_with fail
    refine (HQ.out _).mono ?_
    rintro e w1 ⟨rfl, hb1⟩
    rw [← HE.out]
    go_wp2_with fail
    go_ret
    exact ⟨rfl, hb1⟩
  · have hf : ph3 x y = ph2 x y := if_neg hxy
    rw [hf]
    exact php2 x y (by omega) hx1 hy0 hy1 w

theorem php4 (x y : Int) (hx0 : -100000000000 ≤ x) (hx1 : x ≤ 100000000000) (hy0 : -100000000000 ≤ y) (hy1 : y ≤ 100000000000) (w : World) :
    Calls Tryd.prog 105 #[.int .i64 x, .int .i64 y] w fun e w' => e = .returned (.int .i64 (ph4 x y)) ∧ Below w.heap.size w w' := by
  by_cases hxy : y < 0
  · have hf : ph4 x y = -ph3 x (-y) := if_pos hxy
    rw [hf]
    obtain ⟨h0, h1⟩ := ph3_range x (-y)
    have HP := fun w => php3 x (-y) hx0 hx1 (by omega) (by omega) w
    have HQ := Lib.hid HP
    clear HP hf
    obtain ⟨q, hq⟩ : ∃ q, q = ph3 x (-y) := ⟨_, rfl⟩
    have HE := Lib.hid hq
    rw [← hq] at h0 h1 ⊢
    clear hq
    go_enter Tryd.func105, Tryd.ntmps105
    go_wp2_with fail
    refine (HQ.out _).mono ?_
    rintro e w1 ⟨rfl, hb1⟩
    rw [← HE.out]
    go_wp2_with fail
    go_ret
    exact ⟨rfl, hb1⟩
  · have hf : ph4 x y = ph3 x y := if_neg hxy
    rw [hf]
    exact php3 x y hx0 hx1 (by omega) hy1 w
end Go.Proofs.YtdpoemhpmdahjaaDoor
