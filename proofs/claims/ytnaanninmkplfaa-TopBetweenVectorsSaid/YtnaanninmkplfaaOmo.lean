/- Contracts of package orbit: the moment of a tick. -/
import Derived.Test.YtnaanninmkplfaaObi
import Derived.StillTailTactics
namespace Go.Proofs.Ytnaanninmkplfaa
open Go.RowKit
set_option maxHeartbeats 400000
set_option maxRecDepth 100000

theorem St.tail {w : World} {bk off n : Nat} {S : Nat → Nat → Int} (h : St w (some ⟨bk, off, none⟩) n S) (hn : 2 ≤ n) : St w (some ⟨bk, off + 5, none⟩) (n - 1) (fun i j => S (i + 1) j) := by
  obtain ⟨b, o, e, hl, hc⟩ := h (by omega)
  injection e with e
  injection e with e1 e2
  subst e1 e2
  refine fun _ => ⟨_, _, rfl, hl, fun i hi j hj => ?_⟩
  have := hc (i + 1) (by omega) j hj
  rwa [show off + ((i + 1) * 5 + j) = off + 5 + (i * 5 + j) by omega] at this

/-- the moment of a tick: its two states, and itself -/
def mV (S : Nat → Nat → Int) (j : Nat) (t : Int) : Value :=
  .agg #[.int .i64 (S j 0), .int .i64 (S j 1), .int .i64 (S j 2), .int .i64 (S j 3), .int .i64 (S j 4), .int .i64 (S (j + 1) 0), .int .i64 (S (j + 1) 1), .int .i64 (S (j + 1) 2), .int .i64 (S (j + 1) 3), .int .i64 (S (j + 1) 4), .int .i64 t]
def MO (S : Nat → Nat → Int) (n : Nat) (t : Int) (w : World) (e : Ending) (w' : World) : Prop := ∃ j, j + 1 < n ∧ In S j t ∧ e = .returned (mV S j t) ∧ Below w.heap.size w w'

theorem moment_any (s : ByteArray) (b bb : Int) (A : Option Addr) (n c : Nat) (S : Nat → Nat → Int) (t : Int) (w : World) (hS : St w A n S) (hR : Right S n bb) (hT : Has S n t) (hn : n ≤ c) (hc : c ≤ maxLen) :
    Calls Try.prog 127 #[.agg #[.string s, .int .i64 b, .slice A n c], .int .i64 t] w (MO S n t w) := by
  have h2 := hR.1
  have h40 := hR.2.1
  have hst := hR.2.2.2.1
  have hasc := hR.2.2.2.2.1
  have ht0 := (hst 0 (by omega)).1.1
  have ht1 := (hst (n - 1) (by omega)).1.2
  have htr : 0 ≤ t ∧ t ≤ 1000000000 := ⟨Int.le_trans ht0 hT.1, Int.le_trans hT.2 ht1⟩
  unfold maxLen at hc
  obtain ⟨bk, off, rfl, hbk, _⟩ := hS.at (by omega)
  have hS1 := (hS.alloc (.cells #[.string s, .int .i64 b, .slice (some ⟨bk, off, none⟩) n c] 126)).alloc (.cells #[.int .i64 0, .int .i64 0, .int .i64 0, .int .i64 0, .int .i64 0, .int .i64 0, .int .i64 0, .int .i64 0, .int .i64 0, .int .i64 0, .int .i64 0] 162)
  have HS1 := Lib.hid hS1
  have HR := Lib.hid hR
  have HT := Lib.hid hT
  have HA := Lib.hid hasc
  have HST := Lib.hid hst
  have u1 : (1 : Int) ≤ (n : Int) := by omega
  have u2 : (n : Int) ≤ (c : Int) := by omega
  have u3 : (1 : Int) ≤ (c : Int) := by omega
  have u4 : ¬ c = 1 := by omega
  clear hS hS1 hR hT hasc hst ht0 ht1
  go_enter Try.func127, Try.ntmps127
  go_wp2_with fail
  refine (bsearch_any _ (n - 1) (c - 1) (fun i j => S (i + 1) j) t _ (HS1.out.tail h2) (by omega) (fun i j h1 h3 => HA.out.le (by omega) (by omega)) (fun i hi => (HST.out (i + 1) (by omega)).1) htr).mono ?_
  rintro e w1 ⟨r, f, rfl, hr, hr1, hr2, hb1⟩
  have hrn : r + 1 < n := by
    rcases Nat.lt_or_ge (r + 1) n with g | g
    · exact g
    · have := hr1 (n - 2) (by omega)
      simp only [show n - 2 + 1 = n - 1 by omega] at this
      have := HT.out.2
      omega
  have hin : In S r t := by
    refine ⟨?_, hr2 r (Nat.le_refl _) (by omega), HA.out r hrn⟩
    rcases Nat.eq_zero_or_pos r with g | g
    · rw [g]; exact HT.out.1
    · have := hr1 (r - 1) (by omega)
      simp only [show r - 1 + 1 = r by omega] at this
      exact Int.le_of_lt this
  have hA1 := ((At.new w 126 #[.string s, .int .i64 b, .slice (some ⟨bk, off, none⟩) n c]).alloc (.cells #[.int .i64 0, .int .i64 0, .int .i64 0, .int .i64 0, .int .i64 0, .int .i64 0, .int .i64 0, .int .i64 0, .int .i64 0, .int .i64 0, .int .i64 0] 162)).keep hb1
  have hA2 := (at_new (w := w.alloc (.cells #[.string s, .int .i64 b, .slice (some ⟨bk, off, none⟩) n c] 126)) (g := w.heap.size + 1) (t := 162) (cs := #[.int .i64 0, .int .i64 0, .int .i64 0, .int .i64 0, .int .i64 0, .int .i64 0, .int .i64 0, .int .i64 0, .int .i64 0, .int .i64 0, .int .i64 0]) (by simp)).keep hb1
  have hB1 : Below w.heap.size w w1 := (below_new (below_new (Below.refl _ w) (Nat.le_refl _)) (by simp)).trans (hb1.mono (by simp; omega))
  have hc1 := (HS1.out.below hb1).at (by omega)
  obtain ⟨bk', off', e, hbk1, hcc⟩ := hc1
  injection e with e
  injection e with e1 e2
  subst e1 e2
  obtain ⟨k0, k1, k2, k3, k4⟩ := hcc r (by omega)
  obtain ⟨l0, l1, l2, l3, l4⟩ := hcc (r + 1) hrn
  have a2 := hA1.cell 2
  simp at a2
  have v1 : (0 : Int) ≤ (r : Int) := by omega
  have v2 : (r : Int) < (n : Int) := by omega
  have v3 : (r : Int) + 1 < (n : Int) := by omega
  have v4 : IntKind.i64.wrap ((r : Int) + 1) = (r : Int) + 1 := IntWalk.i64_in _ (by omega)
  have v5 : (0 : Int) ≤ (r : Int) + 1 := by omega
  have v6 : ((r : Int) + 1).toNat = r + 1 := by omega
  have HI := Lib.hid hin
  have HB := Lib.hid hB1
  have HA2 := Lib.hid hA2
  clear hr hr1 hr2 hin hB1 hA1 hA2 hcc hb1
  go_wp2_with fail
  go_still_tail 15, (by kernel_rfl)
  change wpList _ _ _ _ _ w1.drew
  have hA2 : At w1.drew (w.heap.size + 1) 162 #[.int .i64 0, .int .i64 0, .int .i64 0, .int .i64 0, .int .i64 0, .int .i64 0, .int .i64 0, .int .i64 0, .int .i64 0, .int .i64 0, .int .i64 0] := HA2.out
  have hB2 : Below w.heap.size w w1.drew := HB.out.drew
  generalize hW2 : w1.drew = w2 at hA2 hB2 ⊢
  clear hW2 k0 k1 k2 k3 k4 l0 l1 l2 l3 l4 a2 hbk1
  have b0 := hA2.cell 0
  have b1 := hA2.cell 1
  have b2 := hA2.cell 2
  have b3 := hA2.cell 3
  have b4 := hA2.cell 4
  have b5 := hA2.cell 5
  have b6 := hA2.cell 6
  have b7 := hA2.cell 7
  have b8 := hA2.cell 8
  have b9 := hA2.cell 9
  have b10 := hA2.cell 10
  simp at b0 b1 b2 b3 b4 b5 b6 b7 b8 b9 b10
  have f0 := hA2.free 0
  have f1 := hA2.free 1
  have f2 := hA2.free 2
  have f3 := hA2.free 3
  have f4 := hA2.free 4
  have f5 := hA2.free 5
  have f6 := hA2.free 6
  have f7 := hA2.free 7
  have f8 := hA2.free 8
  have f9 := hA2.free 9
  have f10 := hA2.free 10
  have HB2 := Lib.hid hB2
  clear hB2 hA2
  go_wp2
  refine bodyPost_ret (v := mV S r t) ?h1 rfl ?h2
  case h1 =>
    simp [results, Try.results127, go_sem, mV, *]
  refine ⟨r, hrn, HI.out, rfl, ?_⟩
  have HBB := HB2.out
  repeat (first | (with_reducible exact HBB) | (with_reducible refine below_set ?_ (by omega)))
end Go.Proofs.Ytnaanninmkplfaa
