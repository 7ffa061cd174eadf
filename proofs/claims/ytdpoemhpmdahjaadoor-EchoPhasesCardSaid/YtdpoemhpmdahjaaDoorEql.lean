/- Contracts: lists of numbers, and of complex numbers, are held against each other. -/
import Derived.Test.YtdpoemhpmdahjaaDoorSum
import Derived.BigRegion
import Derived.Deep.RegionWith
namespace Go.Proofs.YtdpoemhpmdahjaaDoor
open Go.RowKit
set_option maxHeartbeats 400000
set_option maxRecDepth 100000

def ints (f : Nat → Int) (i : Nat) : Value := .int .i64 (f i)
def eqI (f g : Nat → Int) : Nat → Bool
  | 0 => true
  | k + 1 => eqI f g k && decide (f k = g k)
theorem eqI_false {f g : Nat → Int} {k n : Nat} (hk : k < n) (h : f k ≠ g k) : eqI f g n = false := by
  induction n with
  | zero => omega
  | succ n ih =>
    rw [eqI]
    by_cases e : k = n
    · subst e; simp [h]
    · rw [ih (by omega), Bool.false_and]
theorem eqI_true {f g : Nat → Int} {n : Nat} (h : ∀ i, i < n → f i = g i) : eqI f g n = true := by
  induction n with
  | zero => rfl
  | succ n ih => rw [eqI, ih (fun i hi => h i (by omega))]; simp [h n (by omega)]

theorem ints_any (A B : Option Addr) (n m c d : Nat) (f g : Nat → Int) (w : World) (ha : Sl w A n (ints f)) (hb : Sl w B m (ints g)) (hn : n ≤ 1000000) (hm : m ≤ 1000000) :
    Calls Tryd.prog 48 #[.slice A n c, .slice B m d] w fun e w' => e = .returned (.bool (decide (n = m) && eqI f g n)) ∧ Below w.heap.size w w' := by
  have HA := Lib.hid ha
  have HB := Lib.hid hb
  clear ha hb
  by_cases hnm : n = m
  · have e0 : (decide (n = m) && eqI f g n) = eqI f g n := by simp [hnm]
    rw [e0]
    subst hnm
    clear e0
    go_enter Tryd.func48, Tryd.ntmps48
    go_wp2
    go_loopw [5] (fun i wr => ∃ k : Nat, k ≤ n ∧ i = .int .i64 (k : Int) ∧ eqI f g k = true ∧ Below w.heap.size w wr) (fun i _ => n - (intOf i).toNat)
    case atStart => exact ⟨0, Nat.zero_le _, rfl, rfl, Below.refl _ _⟩
    case round =>
      obtain ⟨k, hk, rfl, hz, hbel⟩ := hrel
      have HZ := Lib.hid hz
      clear hz
      by_cases hlt : k < n
      · obtain ⟨b, off, rfl, hb1, hc⟩ := HA.out (by omega)
        obtain ⟨b', off', rfl, hb2, hc'⟩ := HB.out (by omega)
        have c1 := (hbel.cell (p := ⟨b, off + k, none⟩) hb1).trans (hc k hlt)
        have c2 := (hbel.cell (p := ⟨b', off' + k, none⟩) hb2).trans (hc' k hlt)
        unfold ints at c1 c2
        obtain ⟨x, hx⟩ : ∃ x, x = f k := ⟨_, rfl⟩
        obtain ⟨y, hy⟩ : ∃ y, y = g k := ⟨_, rfl⟩
        rw [← hx] at c1
        rw [← hy] at c2
        have HX := Lib.hid hx
        have HY := Lib.hid hy
        clear hx hy hc hc'
        by_cases hxy : x = y
        · have e1 : (x != y) = false := by simp [hxy]
          have HE := Lib.hid hxy
          clear hxy
          go_wp2
          go_region
          go_wp2
          go_roundw
          case rel => exact ⟨k + 1, by omega, by go_num, by rw [eqI, HZ.out]; simp [← HX.out, ← HY.out, HE.out], hbel.drew⟩
          case measure => simp [intOf]; omega
        · have e1 : (x != y) = true := by simp [hxy]
          have HE : Hid (eqI f g n = false) := eqI_false hlt (by rw [← HX.out, ← HY.out]; exact hxy)
          clear hxy
          go_wp2
          go_region
          go_wp2
          go_ret
          exact ⟨congrArg (fun b => Ending.returned (.bool b)) HE.out.symm, hbel.drew⟩
      · go_wp2
        go_ret
        obtain rfl : k = n := by omega
        exact ⟨congrArg (fun b => Ending.returned (.bool b)) HZ.out.symm, hbel⟩
  · have e0 : (decide (n = m) && eqI f g n) = false := by simp [hnm]
    rw [e0]
    have e1 : ((n : Int) != (m : Int)) = true := by rw [bne_iff_ne]; omega
    clear e0 hnm
    go_enter Tryd.func48, Tryd.ntmps48
    go_wp2
    go_ret
    exact ⟨rfl, Below.refl _ _⟩

/-- two lists of complex numbers that are the same, bit by bit -/
theorem sameSums_ok (A B : Option Addr) (n c d : Nat) (re im : Nat → Nat) (w : World) (ha : Sl w A n (fun i => .complex .f64 (re i) (im i))) (hb : Sl w B n (fun i => .complex .f64 (re i) (im i))) (hn : n ≤ 1000000) :
    Calls Tryd.prog 67 #[.slice A n c, .slice B n d] w fun e w' => e = .returned (.bool true) ∧ Below w.heap.size w w' := by
  have HA := Lib.hid ha
  have HB := Lib.hid hb
  clear ha hb
  go_enter Tryd.func67, Tryd.ntmps67
  go_wp2
  go_loopw [5] (fun i wr => ∃ k : Nat, k ≤ n ∧ i = .int .i64 (k : Int) ∧ Below w.heap.size w wr) (fun i _ => n - (intOf i).toNat)
  case atStart => exact ⟨0, Nat.zero_le _, rfl, Below.refl _ _⟩
  case round =>
    obtain ⟨k, hk, rfl, hbel⟩ := hrel
    by_cases hlt : k < n
    · obtain ⟨b, off, rfl, hb1, hc⟩ := HA.out (by omega)
      obtain ⟨b', off', rfl, hb2, hc'⟩ := HB.out (by omega)
      have c1 := (hbel.cell (p := ⟨b, off + k, none⟩) hb1).trans (hc k hlt)
      have c2 := (hbel.cell (p := ⟨b', off' + k, none⟩) hb2).trans (hc' k hlt)
      obtain ⟨x, hx⟩ : ∃ x, x = re k := ⟨_, rfl⟩
      obtain ⟨y, hy⟩ : ∃ y, y = im k := ⟨_, rfl⟩
      simp only [← hx, ← hy] at c1 c2
      clear hc hc' hx hy
      have r1 := fun w => run_bits x w
      have r2 := fun w => run_bits y w
      have e1 : ((x : Int) != (x : Int)) = false := by simp
      have e2 : ((y : Int) != (y : Int)) = false := by simp
      go_wp2
      go_quiet (fail)
      go_wp2
      go_roundw
      case rel => exact ⟨k + 1, by omega, by go_num, below_drewNs hbel⟩
      case measure => simp [intOf]; omega
    · go_wp2
      go_ret
      exact ⟨rfl, hbel⟩
end Go.Proofs.YtdpoemhpmdahjaaDoor
