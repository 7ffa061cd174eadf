/- Contracts of package orbit: a state among those before it. -/
import Derived.Test.YtnaanninmkplfaaOch
import Derived.IntWalk
namespace Go.Proofs.Ytnaanninmkplfaa
open Go.RowKit
set_option maxHeartbeats 400000
set_option maxRecDepth 100000

/-- the error of a tick behind k states -/
def cb (S : Nat → Nat → Int) (k : Nat) (t : Int) : Int := if k = 0 then 0 else fe (l2 (eif (decide (t ≤ S (k - 1) 0)) 9) (eif (decide (S 0 0 + 20000 < t)) 8)) 2

theorem checkBehind_zero (A : Option Addr) (c : Nat) (S : Nat → Nat → Int) (t : Int) (w : World) :
    Calls Try.prog 75 #[.slice A 0 c, .int .i64 t] w fun en w' => en = .returned (.int .i64 (cb S 0 t)) ∧ w = w' := by
  go_enter Try.func75, Try.ntmps75
  go_wp2
  go_ret
  exact ⟨rfl, rfl⟩

theorem checkBehind_more (b off n m c : Nat) (s0 sm t : Int) (w : World) (h0 : w.cell? ⟨b, off, none⟩ = some (.int .i64 s0)) (hm : w.cell? ⟨b, off + m * 5, none⟩ = some (.int .i64 sm)) (hs : 0 ≤ s0 ∧ s0 ≤ 1000000000) (hn : n = m + 1) (hmb : m ≤ 1000) :
    Calls Try.prog 75 #[.slice (some ⟨b, off, none⟩) n c, .int .i64 t] w fun en w' =>
      en = .returned (.int .i64 (fe (l2 (eif (decide (t ≤ sm)) 9) (eif (decide (s0 + 20000 < t)) 8)) 2)) ∧ Below w.heap.size w w' := by
  have hb : b < w.heap.size := by
    rcases Nat.lt_or_ge b w.heap.size with g | g
    · exact g
    · have : w.heap[b]? = none := Array.getElem?_eq_none g
      simp [World.cell?, this] at h0
  obtain ⟨hs1, hs2⟩ := hs
  have hk := fun W (hW : Below w.heap.size w W) => (show W.cell? ⟨b, off, none⟩ = some (.int .i64 s0) ∧ W.cell? ⟨b, off + m * 5, none⟩ = some (.int .i64 sm) from ⟨(hW.cell (p := ⟨b, off, none⟩) hb).trans h0, (hW.cell (p := ⟨b, off + m * 5, none⟩) hb).trans hm⟩)
  have e1 : ((n : Int) == 0) = false := by rw [beq_eq_false_iff_ne]; omega
  have i1 : (0 : Int) ≤ (m : Int) := by omega
  have i2 : (m : Int) < (n : Int) := by omega
  have i3 : 0 < n := by omega
  have w1 : IntKind.i64.wrap ((n : Int) - 1) = (m : Int) := by rw [IntWalk.i64_in _ (by omega)]; omega
  have w2 : IntKind.i64.wrap (s0 + 20000) = s0 + 20000 := IntWalk.i64_in _ (by omega)
  have HK := Lib.hid hk
  clear hk hn
  go_enter Try.func75, Try.ntmps75
  go_wp2_with fail
  go_region_held3 (fun w' => w'.cell? ⟨b, off, none⟩ = some (.int .i64 s0) ∧ w'.cell? ⟨b, off + m * 5, none⟩ = some (.int .i64 sm)) (go_keep)
    (first
      | (go_at_call 71; refine (errorIf_any _ _ _).mono ?_; rintro e w' ⟨rfl, rfl⟩)
      | (go_at_call 70; (with_reducible refine (firstError_any _ 2 2 (l2 _ _) _ (sl_new (by simp) (get_l2 _ _)) (by omega)).mono ?_); rintro e w' ⟨rfl, rfl⟩)
      | (go_at_call 70; (with_reducible refine (firstError_any _ 2 2 (l2 _ _) _ (sl_newd (by simp) (get_l2 _ _)) (by omega)).mono ?_); rintro e w' ⟨rfl, rfl⟩))
  go_wp2
  go_ret
  exact ⟨rfl, (below_new (Below.refl _ _) (Nat.le_refl _)).drew⟩
end Go.Proofs.Ytnaanninmkplfaa
