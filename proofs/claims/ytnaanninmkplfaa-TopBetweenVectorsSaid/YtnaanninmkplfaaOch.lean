/- Contracts of package orbit: a state's error. -/
import Derived.Test.YtnaanninmkplfaaOlo
namespace Go.Proofs.Ytnaanninmkplfaa
open Go.RowKit
set_option maxHeartbeats 400000
set_option maxRecDepth 100000

def l3 (a b c : Int) (i : Nat) : Int := if i = 0 then a else if i = 1 then b else c
def l2 (a b : Int) (i : Nat) : Int := if i = 0 then a else b
theorem get_l3 (a b c : Int) : ∀ i, i < 3 → #[Value.int .i64 a, .int .i64 b, .int .i64 c][i]? = some (.int .i64 (l3 a b c i)) := by
  intro i hi
  match i, hi with
  | 0, _ => rfl
  | 1, _ => rfl
  | 2, _ => rfl
theorem get_l2 (a b : Int) : ∀ i, i < 2 → #[Value.int .i64 a, .int .i64 b][i]? = some (.int .i64 (l2 a b i)) := by
  intro i hi
  match i, hi with
  | 0, _ => rfl
  | 1, _ => rfl

/-- the error of a state alone, by its five numbers -/
def se (t x y z e : Int) : Int := fe (l3 (eif (!inB t 0 1000000000) 2) (pe x y z) (eif (!inB e 0 100000) 2)) 3

theorem checkState_any (t x y z e : Int) (w : World) : Calls Try.prog 74 #[.agg #[.int .i64 t, .int .i64 x, .int .i64 y, .int .i64 z, .int .i64 e]] w fun en w' => en = .returned (.int .i64 (se t x y z e)) ∧ Below w.heap.size w w' := by
  go_enter Try.func74, Try.ntmps74
  go_wp2_with fail
  have hA := At.new w 56 #[.int .i64 t, .int .i64 x, .int .i64 y, .int .i64 z, .int .i64 e]
  have hb1 : Below w.heap.size w _ := below_new (Below.refl _ w) (Nat.le_refl _) (o := .cells #[.int .i64 t, .int .i64 x, .int .i64 y, .int .i64 z, .int .i64 e] 56)
  obtain ⟨W1, hW1⟩ : ∃ W1, W1 = w.alloc (.cells #[.int .i64 t, .int .i64 x, .int .i64 y, .int .i64 z, .int .i64 e] 56) := ⟨_, rfl⟩
  rw [← hW1] at hA hb1
  have hp : ∀ W, Below W1.heap.size W1 W → Calls Try.prog 92 #[.agg #[.int .i64 x, .int .i64 y, .int .i64 z]] W fun en w' => en = .returned (.int .i64 (pe x y z)) ∧ Below W1.heap.size W1 w' ∧
      w'.cell? ⟨w.heap.size, 0, none⟩ = some (.int .i64 t) ∧ w'.cell? ⟨w.heap.size, 1, none⟩ = some (.int .i64 x) ∧ w'.cell? ⟨w.heap.size, 2, none⟩ = some (.int .i64 y) ∧ w'.cell? ⟨w.heap.size, 3, none⟩ = some (.int .i64 z) ∧ w'.cell? ⟨w.heap.size, 4, none⟩ = some (.int .i64 e) := by
    intro W hW
    refine (checkPlace_any x y z W).mono ?_
    rintro en w' ⟨rfl, hb⟩
    have hB := hW.trans (hb.mono hW.size)
    have q := hA.keep hB
    exact ⟨rfl, hB, q.cell 0, q.cell 1, q.cell 2, q.cell 3, q.cell 4⟩
  have HP := Lib.hid hp
  have HW1 := Lib.hid hW1
  have HA := Lib.hid hA
  clear hp hW1 hA
  go_region_held3 (fun w' => w'.cell? ⟨w.heap.size, 0, none⟩ = some (.int .i64 t) ∧ w'.cell? ⟨w.heap.size, 1, none⟩ = some (.int .i64 x) ∧ w'.cell? ⟨w.heap.size, 2, none⟩ = some (.int .i64 y) ∧ w'.cell? ⟨w.heap.size, 3, none⟩ = some (.int .i64 z) ∧ w'.cell? ⟨w.heap.size, 4, none⟩ = some (.int .i64 e)) (go_keep)
    (first
      | (go_at_call 124; refine (isTick_any _ _).mono ?_; rintro e w' ⟨rfl, rfl⟩)
      | (go_at_call 73; refine (isError_any _ _).mono ?_; rintro e w' ⟨rfl, rfl⟩)
      | (go_at_call 71; refine (errorIf_any _ _ _).mono ?_; rintro e w' ⟨rfl, rfl⟩)
      | (go_at_call 92; refine (HP.out _ ?_).mono ?_; (rw [HW1.out]; repeat (first | (with_reducible exact Below.refl _ _) | (with_reducible refine Below.drew ?_) | (with_reducible refine below_drewNs ?_))); rintro e w4 ⟨rfl, hb4, hs0, hs1, hs2, hs3, hs4⟩)
      | (go_at_call 70; (with_reducible refine (firstError_any _ 3 3 (l3 _ _ _) _ (sl_new (by simp) (get_l3 _ _ _)) (by omega)).mono ?_); rintro e w' ⟨rfl, rfl⟩))
  go_wp2
  go_ret
  exact ⟨rfl, hb1.trans (hb4.mono hb1.size) |>.trans (below_new (Below.refl _ _) (Nat.le_refl _) |>.mono (by have := hb4.size; have := hb1.size; omega))⟩
end Go.Proofs.Ytnaanninmkplfaa
