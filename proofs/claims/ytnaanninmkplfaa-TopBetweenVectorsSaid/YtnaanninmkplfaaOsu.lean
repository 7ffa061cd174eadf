/- Where a satellite may be: a point of each box, its square; the base's Mod. -/
import Derived.Test.YtnaanninmkplfaaOcn
import Derived.Test.YtnaanninmkplfaaOrf
namespace Go.Proofs.Ytnaanninmkplfaa
open Go.RowKit
set_option maxHeartbeats 400000
set_option maxRecDepth 100000

def Mo (a m : Int) : Int := if a.tmod m < 0 then a.tmod m + m else a.tmod m
theorem Mo_range {a m : Int} (hm : 0 < m) : 0 ≤ Mo a m ∧ Mo a m < m := by
  obtain ⟨r1, r2⟩ := tmod_range (a := a) hm
  unfold Mo
  split <;> omega
theorem mod_any (a b : Int) (w : World) (hb : 0 < b) (hb2 : b ≤ 4611686018427387904) :
    Calls Try.prog 48 #[.int .i64 a, .int .i64 b] w fun e w' => e = .returned (.int .i64 (Mo a b)) ∧ w = w' := by
  obtain ⟨r1, r2⟩ := tmod_range (a := a) hb
  have hne : ¬ b = 0 := by omega
  have wr : IntKind.i64.wrap (a.tmod b) = a.tmod b := IntWalk.i64_in _ (by omega)
  by_cases h : a.tmod b < 0
  · have hv : Mo a b = a.tmod b + b := by unfold Mo; rw [if_pos h]
    have wr2 : IntKind.i64.wrap (a.tmod b + b) = a.tmod b + b := IntWalk.i64_in _ (by omega)
    have HV := Lib.hid hv
    clear hv
    go_enter Try.func48, Try.ntmps48
    go_wp2
    go_ret
    rw [HV.out]
    exact ⟨rfl, rfl⟩
  · have hv : Mo a b = a.tmod b := by unfold Mo; rw [if_neg h]
    have HV := Lib.hid hv
    clear hv
    go_enter Try.func48, Try.ntmps48
    go_wp2
    go_ret
    rw [HV.out]
    exact ⟨rfl, rfl⟩

theorem idx3 (x y z : Int) (k : Nat) (hk : k < 3) (w : World) : (Instr.index 84 (.agg #[.int .i64 x, .int .i64 y, .int .i64 z]) (.int .i64 (k : Int))).run Try.prog w = .ok (.int .i64 (nth x y z k)) w := by
  match k, hk with
  | 0, _ => simp [Instr.index, run_underlying Try.underlying84, asIntOf, go_sem, nth]
  | 1, _ => simp [Instr.index, run_underlying Try.underlying84, asIntOf, go_sem, nth]
  | 2, _ => simp [Instr.index, run_underlying Try.underlying84, asIntOf, go_sem, nth]

/-- the place on one side of a box that a part tells -/
def spot (l h q : Int) : Int := l + (h - l) * Mo q 1001 / 1000
theorem spot_range {l h : Int} (q : Int) (hlh : l ≤ h) : l ≤ spot l h q ∧ spot l h q ≤ h ∧ 0 ≤ (h - l) * Mo q 1001 ∧ (h - l) * Mo q 1001 ≤ (h - l) * 1000 ∧ 0 ≤ (h - l) * Mo q 1001 / 1000 ∧ (h - l) * Mo q 1001 / 1000 ≤ h - l := by
  obtain ⟨m1, m2⟩ := Mo_range (a := q) (m := 1001) (by decide)
  have a1 := Int.mul_nonneg (show 0 ≤ h - l by omega) m1
  have a2 := Int.mul_le_mul_of_nonneg_left (show Mo q 1001 ≤ 1000 by omega) (show 0 ≤ h - l by omega)
  obtain ⟨b1, b2⟩ := ediv_range (a := (h - l) * Mo q 1001) (d := 1000) (l := 0) (m := h - l) (by decide) (by omega) (by omega)
  unfold spot
  refine ⟨by omega, by omega, a1, a2, b1, b2⟩

def dT (S : Nat → Nat → Int) (n : Nat) (b : Int) (Q : Nat → Nat → Int) (m : Nat) (p1 p2 p3 t : Int) (k : Nat) : Int :=
  spot (nth (lo S n b t 1) (lo S n b t 2) (lo S n b t 3) k) (nth (hi S n b t 1) (hi S n b t 2) (hi S n b t 3) k) (nth (Q (Mo t m).toNat 0) (Q (Mo t m).toNat 1) (Q (Mo t m).toNat 2) k) - nth p1 p2 p3 k
/-- the square at a tick -/
def sT (S : Nat → Nat → Int) (n : Nat) (b : Int) (Q : Nat → Nat → Int) (m : Nat) (p1 p2 p3 t : Int) : Int := sqS (dT S n b Q m p1 p2 p3 t) 3
theorem sT_between {S : Nat → Nat → Int} {n : Nat} {b : Int} {Q : Nat → Nat → Int} {m : Nat} {p1 p2 p3 t : Int} (hR : Right S n b) (hT : Has S n t) : sqL S n b t (P3 p1 p2 p3) ≤ sT S n b Q m p1 p2 p3 t ∧ sT S n b Q m p1 p2 p3 t ≤ sqH S n b t (P3 p1 p2 p3) := by
  have side (c k : Nat) (hc : 1 ≤ c ∧ c ≤ 3) (q : Int) (p : Int) := spot_range q (box_facts hR hT hc).1.2.1
  have e1 := side 1 0 (by omega) (Q (Mo t m).toNat 0) p1
  have e2 := side 2 0 (by omega) (Q (Mo t m).toNat 1) p2
  have e3 := side 3 0 (by omega) (Q (Mo t m).toNat 2) p3
  have hs : sT S n b Q m p1 p2 p3 t = (spot (lo S n b t 1) (hi S n b t 1) (Q (Mo t m).toNat 0) - p1) * (spot (lo S n b t 1) (hi S n b t 1) (Q (Mo t m).toNat 0) - p1) + (spot (lo S n b t 2) (hi S n b t 2) (Q (Mo t m).toNat 1) - p2) * (spot (lo S n b t 2) (hi S n b t 2) (Q (Mo t m).toNat 1) - p2) + (spot (lo S n b t 3) (hi S n b t 3) (Q (Mo t m).toNat 2) - p3) * (spot (lo S n b t 3) (hi S n b t 3) (Q (Mo t m).toNat 2) - p3) := by
    simp [sT, sqS, dT, nth]
  rw [hs]
  have n1 := near_le (p := p1) e1.1 e1.2.1
  have n2 := near_le (p := p2) e2.1 e2.2.1
  have n3 := near_le (p := p3) e3.1 e3.2.1
  have f1 := le_far (p := p1) e1.1 e1.2.1
  have f2 := le_far (p := p2) e2.1 e2.2.1
  have f3 := le_far (p := p3) e3.1 e3.2.1
  unfold sqL sqH
  rw [show P3 p1 p2 p3 1 = p1 from rfl, show P3 p1 p2 p3 2 = p2 from rfl, show P3 p1 p2 p3 3 = p3 from rfl]
  omega
/-- a best tick lies among the accepted ones -/
theorem best_in {S : Nat → Nat → Int} {n : Nat} {b : Int} {Q : Nat → Nat → Int} {m : Nat} {p1 p2 p3 xl xh xw t : Int} (hR : Right S n b) (hW : Has S n xw) (hT : Has S n t) (hok : okT S n b (P3 p1 p2 p3) xl xh xw t)
    (hle : sT S n b Q m p1 p2 p3 t ≤ sT S n b Q m p1 p2 p3 xw) : xl ≤ t ∧ t ≤ xh := by
  rcases hok with h | h
  · exact h
  · have h1 := (sT_between (Q := Q) (m := m) (p1 := p1) (p2 := p2) (p3 := p3) hR hT).1
    have h2 := (sT_between (Q := Q) (m := m) (p1 := p1) (p2 := p2) (p3 := p3) hR hW).2
    omega
/-- the numbers of one side -/
theorem dT_nums {S : Nat → Nat → Int} {n : Nat} {b : Int} {Q : Nat → Nat → Int} {m : Nat} {p1 p2 p3 t : Int} (hR : Right S n b) (hT : Has S n t) (hp : (-100000000 ≤ p1 ∧ p1 ≤ 100000000) ∧ (-100000000 ≤ p2 ∧ p2 ≤ 100000000) ∧ (-100000000 ≤ p3 ∧ p3 ≤ 100000000)) :
    ∀ k, k < 3 → (-100200000 ≤ nth (lo S n b t 1) (lo S n b t 2) (lo S n b t 3) k ∧ nth (lo S n b t 1) (lo S n b t 2) (lo S n b t 3) k ≤ nth (hi S n b t 1) (hi S n b t 2) (hi S n b t 3) k ∧ nth (hi S n b t 1) (hi S n b t 2) (hi S n b t 3) k ≤ 100200000) ∧ (-100000000 ≤ nth p1 p2 p3 k ∧ nth p1 p2 p3 k ≤ 100000000) ∧ (-300000000 ≤ dT S n b Q m p1 p2 p3 t k ∧ dT S n b Q m p1 p2 p3 t k ≤ 300000000) := by
  intro k hk
  obtain ⟨base, _, _⟩ := sq_nums (box_facts hR hT (c := 1) (by omega)).1 (box_facts hR hT (c := 2) (by omega)).1 (box_facts hR hT (c := 3) (by omega)).1 hp.1 hp.2.1 hp.2.2
  obtain ⟨b1, b2⟩ := base k hk
  obtain ⟨s1, s2, _⟩ := spot_range (nth (Q (Mo t m).toNat 0) (Q (Mo t m).toNat 1) (Q (Mo t m).toNat 2) k) b1.2.1
  refine ⟨b1, b2, ?_⟩
  unfold dT
  omega
theorem sqS_small {F : Nat → Int} (h : ∀ k, k < 3 → -300000000 ≤ F k ∧ F k ≤ 300000000) : ∀ k, k ≤ 3 → 0 ≤ sqS F k ∧ sqS F k ≤ k * 90000000000000000
  | 0, _ => by simp [sqS]
  | k + 1, hk => by
    obtain ⟨a, b⟩ := sqS_small h k (by omega)
    obtain ⟨c, d⟩ := h k (by omega)
    have e := sq_nonneg (F k)
    have f := sq_le (a := F k) (b := 300000000) (by omega) (by omega)
    rw [sqS]
    omega
end Go.Proofs.Ytnaanninmkplfaa
