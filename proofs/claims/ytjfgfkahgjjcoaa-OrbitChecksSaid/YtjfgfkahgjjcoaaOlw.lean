/- Contracts: fractions in lowest terms, the program's and the base's. -/
import Derived.Test.YtjfgfkahgjjcoaaOrf
namespace Go.Proofs.Ytjfgfkahgjjcoaa
open Go.RowKit
set_option maxHeartbeats 800000
set_option maxRecDepth 100000

theorem tmod_nat (d r : Nat) : (d : Int).tmod (r : Int) = ((d % r : Nat) : Int) := by
  rw [Int.tmod_eq_emod_of_nonneg (by omega)]
  exact (Int.natCast_emod d r).symm
theorem gcd_step (d r : Nat) : Nat.gcd r (d % r) = Nat.gcd d r := by
  rw [Nat.gcd_comm d r, Nat.gcd_comm r (d % r)]
  exact (Nat.gcd_rec r d).symm
theorem tdiv_small {a : Int} (g : Int) (h : -4611686018427387904 ≤ a ∧ a ≤ 4611686018427387904) : IntKind.i64.wrap (a.tdiv g) = a.tdiv g := by
  have h1 := Int.natAbs_tdiv_le_natAbs a g
  exact IntWalk.i64_in _ (by omega)

def gcdI (a b : Int) : Int := ((Nat.gcd a.natAbs b.natAbs : Nat) : Int)
theorem gcdI_pos {a b : Int} (hb : 0 < b) : 0 < gcdI a b ∧ gcdI a b ≤ b := by
  have h1 : 0 < Nat.gcd a.natAbs b.natAbs := Nat.gcd_pos_of_pos_right _ (by omega)
  have h2 := Nat.gcd_le_right a.natAbs (n := b.natAbs) (by omega)
  unfold gcdI
  omega
def fracV (a b : Int) : Value := .agg #[.int .i64 (a.tdiv (gcdI a b)), .int .i64 (b.tdiv (gcdI a b))]

theorem lowest_any (a b : Int) (w : World) (ha : -4611686018427387904 ≤ a ∧ a ≤ 4611686018427387904) (hb : 0 < b) (hb2 : b ≤ 4611686018427387904) :
    Calls Try.prog 76 #[.int .i64 a, .int .i64 b] w fun e w' => e = .returned (fracV a b) ∧ Below w.heap.size w w' := by
  have hmax : (if a < -a then -a else a) = ((a.natAbs : Nat) : Int) := by split <;> omega
  have hneg : IntKind.i64.wrap (-a) = -a := IntWalk.i64_in _ (by omega)
  have hR := At.new w 32 #[.int .i64 0, .int .i64 0]
  have hB : Below w.heap.size w (w.alloc (.cells #[.int .i64 0, .int .i64 0] 32)) := below_new (Below.refl _ w) (Nat.le_refl _)
  go_enter Try.func76, Try.ntmps76
  go_wp2_with fail
  generalize hW1 : w.alloc (.cells #[.int .i64 0, .int .i64 0] 32) = W1 at hR hB ⊢
  have HR := Lib.hid hR
  have HB := Lib.hid hB
  clear hW1 hR hB
  go_loopw [5, 6] (fun i5 i6 wr => ∃ d r : Nat, i5 = .int .i64 (d : Int) ∧ i6 = .int .i64 (r : Int) ∧ 0 < d ∧ (d : Int) ≤ 4611686018427387904 ∧ (r : Int) ≤ 4611686018427387904 ∧ Nat.gcd d r = Nat.gcd a.natAbs b.natAbs ∧ At wr w.heap.size 32 #[.int .i64 0, .int .i64 0] ∧ Below w.heap.size w wr) (fun _ j _ => (intOf j).toNat)
  case atStart => exact ⟨b.natAbs, a.natAbs, by congr 1; omega, rfl, by omega, by omega, by omega, Nat.gcd_comm _ _, HR.out, HB.out⟩
  case round =>
    obtain ⟨d, r, rfl, rfl, hd, hd2, hr2, hg, hat, hbr⟩ := hrel
    by_cases hr : 0 < r
    · have x1 : IntKind.i64.wrap ((d : Int).tmod (r : Int)) = ((d % r : Nat) : Int) := by
        rw [tmod_nat]
        have := Nat.mod_lt d hr
        exact IntWalk.i64_in _ (by omega)
      have hne : ¬ (r : Int) = 0 := by omega
      have hgt : (0 : Int) < (r : Int) := by omega
      have hlt := Nat.mod_lt d hr
      have HG := Lib.hid hg
      have HAT := Lib.hid hat
      have HBR := Lib.hid hbr
      clear hg hat hbr
      go_wp2_with fail
      go_quiet (fail)
      go_wp2
      go_roundw
      case rel =>
        refine ⟨r, d % r, rfl, rfl, hr, hr2, by omega, (gcd_step d r).trans HG.out, HAT.out, below_drewNs HBR.out⟩
      case measure => simp [intOf]; omega
    · obtain rfl : r = 0 := by omega
      rw [Nat.gcd_zero_right] at hg
      have hG : (d : Int) = gcdI a b := by unfold gcdI; rw [hg]
      have hp := gcdI_pos (a := a) hb
      have y1 := tdiv_small (gcdI a b) ha
      have y2 := tdiv_small (a := b) (gcdI a b) ⟨by omega, hb2⟩
      have hfv : fracV a b = .agg #[.int .i64 (a.tdiv (gcdI a b)), .int .i64 (b.tdiv (gcdI a b))] := rfl
      generalize gcdI a b = g at *
      subst hG
      have HFV := Lib.hid hfv
      clear hg hfv
      have hne : ¬ (d : Int) = 0 := by omega
      have c0 := hat.cell 0
      have c1 := hat.cell 1
      have f0 := hat.free 0
      have f1 := hat.free 1
      simp at c0 c1
      go_wp2
      go_region
      all_goals
        go_wp2
        refine bodyPost_ret (v := .agg #[.int .i64 (a.tdiv (d : Int)), .int .i64 (b.tdiv (d : Int))]) ?h1 rfl ⟨by rw [HFV.out], ?_⟩
        case h1 => simp [results, Try.results76, go_sem, *]
        repeat (first | (with_reducible exact hbr) | (with_reducible refine Below.drew ?_) | (with_reducible refine below_set ?_ (by omega)))

theorem baseSize_any (a : Int) (w : World) (ha : -4611686018427387904 ≤ a ∧ a ≤ 4611686018427387904) :
    Calls Try.prog 107 #[.int .i64 a] w fun e w' => e = .returned (.int .i64 (a.natAbs : Nat)) ∧ w = w' := by
  have hmax : (if a < -a then -a else a) = ((a.natAbs : Nat) : Int) := by split <;> omega
  have hneg : IntKind.i64.wrap (-a) = -a := IntWalk.i64_in _ (by omega)
  go_enter Try.func107, Try.ntmps107
  go_wp2
  go_ret
  exact ⟨rfl, rfl⟩

theorem gcd_abs (x y : Int) : Nat.gcd y.natAbs (x.tmod y).natAbs = Nat.gcd x.natAbs y.natAbs := by
  rw [Int.natAbs_tmod]
  exact gcd_step _ _
theorem tmod_abs {x y : Int} (hy : y ≠ 0) : (x.tmod y).natAbs < y.natAbs := by
  rw [Int.natAbs_tmod]
  exact Nat.mod_lt _ (by omega)

theorem baseGcd_any (a b : Int) (w : World) (ha : -4611686018427387904 ≤ a ∧ a ≤ 4611686018427387904) (hb : -4611686018427387904 ≤ b ∧ b ≤ 4611686018427387904) :
    Calls Try.prog 122 #[.int .i64 a, .int .i64 b] w fun e w' => e = .returned (.int .i64 (gcdI a b)) ∧ Below w.heap.size w w' := by
  go_enter Try.func122, Try.ntmps122
  go_wp2_with fail
  go_loopw [0, 1] (fun i0 i1 wr => ∃ x y : Int, i0 = .int .i64 x ∧ i1 = .int .i64 y ∧ (-4611686018427387904 ≤ x ∧ x ≤ 4611686018427387904) ∧ (-4611686018427387904 ≤ y ∧ y ≤ 4611686018427387904) ∧ Nat.gcd x.natAbs y.natAbs = Nat.gcd a.natAbs b.natAbs ∧ Below w.heap.size w wr) (fun _ j _ => (intOf j).natAbs)
  case atStart => exact ⟨a, b, rfl, rfl, ha, hb, rfl, Below.refl _ _⟩
  case round =>
    obtain ⟨x, y, rfl, rfl, hx, hy, hg, hbr⟩ := hrel
    by_cases hy0 : y = 0
    · subst hy0
      have hG : ((x.natAbs : Nat) : Int) = gcdI a b := by
        unfold gcdI
        rw [← hg, show Int.natAbs 0 = 0 from rfl, Nat.gcd_zero_right]
      have HG := Lib.hid hG
      have HX := Lib.hid hx
      clear hG hg
      go_wp2_with (go_at_call 107; refine (baseSize_any x _ HX.out).mono ?_; rintro e w' ⟨rfl, rfl⟩)
      go_ret
      refine ⟨?_, hbr⟩
      rw [← HG.out]
      rfl
    · have hlt := tmod_abs (x := x) hy0
      have x1 : IntKind.i64.wrap (x.tmod y) = x.tmod y := IntWalk.i64_in _ (by omega)
      have HG := Lib.hid ((gcd_abs x y).trans hg)
      have HBR := Lib.hid hbr
      have hby : -4611686018427387904 ≤ x.tmod y ∧ x.tmod y ≤ 4611686018427387904 := by omega
      have HBY := Lib.hid hby
      have HY := Lib.hid hy
      have HLT := Lib.hid hlt
      clear hg hbr hby hlt
      go_wp2_with fail
      go_quiet (fail)
      go_wp2
      go_roundw
      case rel => exact ⟨y, x.tmod y, rfl, rfl, HY.out, HBY.out, HG.out, below_drewNs HBR.out⟩
      case measure =>
        have := HLT.out
        simpa [intOf] using this

theorem baseLowest_any (a b : Int) (w : World) (ha : -4611686018427387904 ≤ a ∧ a ≤ 4611686018427387904) (hb : 0 < b) (hb2 : b ≤ 4611686018427387904) :
    Calls Try.prog 82 #[.int .i64 a, .int .i64 b] w fun e w' => e = .returned (fracV a b) ∧ Below w.heap.size w w' := by
  have hR := At.new w 32 #[.int .i64 0, .int .i64 0]
  have hB : Below w.heap.size w (w.alloc (.cells #[.int .i64 0, .int .i64 0] 32)) := below_new (Below.refl _ w) (Nat.le_refl _)
  go_enter Try.func82, Try.ntmps82
  go_wp2_with fail
  generalize hW1 : w.alloc (.cells #[.int .i64 0, .int .i64 0] 32) = W1 at hR hB ⊢
  clear hW1
  refine (baseGcd_any a b W1 ha ⟨by omega, hb2⟩).mono ?_
  rintro e w2 ⟨rfl, hb2'⟩
  have hat := hR.keep hb2'
  have hbr := hB.trans (hb2'.mono hB.size)
  have hp := gcdI_pos (a := a) hb
  have y1 := tdiv_small (gcdI a b) ha
  have y2 := tdiv_small (a := b) (gcdI a b) ⟨by omega, hb2⟩
  have hfv : fracV a b = .agg #[.int .i64 (a.tdiv (gcdI a b)), .int .i64 (b.tdiv (gcdI a b))] := rfl
  generalize gcdI a b = g at *
  have HFV := Lib.hid hfv
  have hne : ¬ g = 0 := by omega
  have hnl : ¬ b < 0 := by omega
  have c0 := hat.cell 0
  have c1 := hat.cell 1
  have f0 := hat.free 0
  have f1 := hat.free 1
  simp at c0 c1
  clear hfv hR hB hb2' hat
  go_wp2
  go_region
  all_goals
    go_wp2
    refine bodyPost_ret (v := .agg #[.int .i64 (a.tdiv g), .int .i64 (b.tdiv g)]) ?h1 rfl ⟨by rw [HFV.out], ?_⟩
    case h1 => simp [results, Try.results82, go_sem, *]
    repeat (first | (with_reducible exact hbr) | (with_reducible refine Below.drew ?_) | (with_reducible refine below_set ?_ (by omega)))
end Go.Proofs.Ytjfgfkahgjjcoaa
