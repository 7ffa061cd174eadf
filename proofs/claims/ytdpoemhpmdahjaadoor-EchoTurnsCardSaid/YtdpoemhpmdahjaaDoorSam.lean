/- Contracts: two fields that are the same, bit by bit; small ones of the laws. -/
import Derived.Test.YtdpoemhpmdahjaaDoorCmp
import Derived.Test.YtdpoemhpmdahjaaDoorEql
namespace Go.Proofs.YtdpoemhpmdahjaaDoor
open Go.RowKit
set_option maxHeartbeats 400000
set_option maxRecDepth 100000

theorem sameSums_q (A B : Option Addr) (n c d : Nat) (re im : Nat → Nat) (w : World) (ha : Sl w A n (cx .f64 re im)) (hb : Sl w B n (cx .f64 re im)) (hn : n ≤ 1000000) :
    Calls Tryd.prog 67 #[.slice A n c, .slice B n d] w fun e w' => e = .returned (.bool true) ∧ ∃ m, w' = w.drewN m := by
  have HA := Lib.hid ha
  have HB := Lib.hid hb
  clear ha hb
  go_enter Tryd.func67, Tryd.ntmps67
  go_wp2
  go_loopw [5] (fun i wr => ∃ k m : Nat, k ≤ n ∧ i = .int .i64 (k : Int) ∧ wr = w.drewN m) (fun i _ => n - (intOf i).toNat)
  case atStart => exact ⟨0, 0, Nat.zero_le _, rfl, rfl⟩
  case round =>
    obtain ⟨k, m, hk, rfl, rfl⟩ := hrel
    by_cases hlt : k < n
    · obtain ⟨b, off, rfl, hb1, hc⟩ := HA.out (by omega)
      obtain ⟨b', off', rfl, hb2, hc'⟩ := HB.out (by omega)
      have c1 := hc k hlt
      have c2 := hc' k hlt
      unfold cx at c1 c2
      obtain ⟨x, hx⟩ : ∃ x, x = re k := ⟨_, rfl⟩
      obtain ⟨y, hy⟩ : ∃ y, y = im k := ⟨_, rfl⟩
      simp only [← hx, ← hy] at c1 c2
      clear hc hc' hx hy
      have r1 := fun w => run_bits x w
      have r2 := fun w => run_bits y w
      have e1 : ((x : Int) != (x : Int)) = false := by simp
      have e2 : ((y : Int) != (y : Int)) = false := by simp
      go_wp2
      go_quiet (fail)
      go_wp2
      go_roundw
      case rel => exact ⟨k + 1, _, by omega, by go_num, rfl⟩
      case measure => simp [intOf]; omega
    · go_wp2
      go_ret
      exact ⟨rfl, m, rfl⟩

theorem sameField_ok (A B : Option Addr) (L S n c d : Nat) (re im : Nat → Nat) (w : World) (ha : Sl w A n (cx .f64 re im)) (hb : Sl w B n (cx .f64 re im)) (hn : n ≤ 1000000) :
    Calls Tryd.prog 40 #[.agg #[.int .i64 (L : Int), .int .i64 (S : Int), .slice A n c], .agg #[.int .i64 (L : Int), .int .i64 (S : Int), .slice B n d]] w fun e w' => e = .returned (.bool true) ∧ Below w.heap.size w w' := by
  have HA := Lib.hid ha
  have HB := Lib.hid hb
  have e1 : ((L : Int) == (L : Int)) = true := by simp
  have e2 : ((S : Int) == (S : Int)) = true := by simp
  clear ha hb
  go_enter Tryd.func40, Tryd.ntmps40
  go_wp2_with fail
  refine (sameSums_q A B n c d re im _ ((HA.out.alloc _).alloc _) ((HB.out.alloc _).alloc _) hn).mono ?_
  rintro e w' ⟨rfl, m, rfl⟩
  go_wp2
  go_ret
  refine ⟨rfl, ?_⟩
  repeat (first | (with_reducible exact Below.refl _ _) | (with_reducible refine Below.drew ?_) | (with_reducible refine below_drewNs ?_) | (with_reducible refine below_set ?_ (by first | omega | (simp; omega))) | (with_reducible refine below_new ?_ (by first | omega | (simp; done) | (simp; omega))))
end Go.Proofs.YtdpoemhpmdahjaaDoor
