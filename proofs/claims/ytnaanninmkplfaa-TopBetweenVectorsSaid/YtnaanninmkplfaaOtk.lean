/- Contracts of package orbit: the ticks of a path, one after the other. -/
import Derived.Test.YtnaanninmkplfaaOrl
namespace Go.Proofs.Ytnaanninmkplfaa
open Go.RowKit Go.Shelf
attribute [local go_sem] Oper.semAt_some
set_option maxHeartbeats 800000
set_option maxRecDepth 100000

def pathV (s : ByteArray) (b : Int) (A : Option Addr) (n c : Nat) : Value := .agg #[.string s, .int .i64 b, .slice A n c]
/-- how many ticks there are -/
def nT (S : Nat → Nat → Int) (n : Nat) : Nat := (S (n - 1) 0 - S 0 0 + 1).toNat
def tickE (S : Nat → Nat → Int) (k : Nat) : Value := .int .i64 (S 0 0 + (k : Int))

/-- states in memory, below a block -/
def StB (n0 : Nat) (w : World) (Ad : Option Addr) (n : Nat) (S : Nat → Nat → Int) : Prop :=
  n0 ≤ w.heap.size ∧ (0 < n → ∃ b off, Ad = some ⟨b, off, none⟩ ∧ b < n0 ∧ ∀ i, i < n → ∀ j, j < 5 → w.cell? ⟨b, off + (i * 5 + j), none⟩ = some (.int .i64 (S i j)))
theorem StB.of {w0 w : World} {Ad : Option Addr} {n : Nat} {S : Nat → Nat → Int} (h : St w0 Ad n S) (hb : Below w0.heap.size w0 w) : StB w0.heap.size w Ad n S :=
  ⟨hb.size, fun hn => by
    obtain ⟨b, off, e, hl, hc⟩ := h hn
    exact ⟨b, off, e, hl, fun i hi j hj => (hb.cell (p := ⟨b, _, none⟩) hl).trans (hc i hi j hj)⟩⟩
theorem StB.st {n0 : Nat} {w : World} {Ad : Option Addr} {n : Nat} {S : Nat → Nat → Int} (h : StB n0 w Ad n S) : St w Ad n S := fun hn => by
  obtain ⟨b, off, e, hl, hc⟩ := h.2 hn
  exact ⟨b, off, e, Nat.lt_of_lt_of_le hl h.1, hc⟩
theorem StB.kept {n0 m : Nat} {A B : World} {Ad : Option Addr} {n : Nat} {S : Nat → Nat → Int} (h : StB n0 A Ad n S) (hk : Kept n0 m A B) : StB n0 B Ad n S :=
  ⟨Nat.le_trans h.1 hk.1, fun hn => by
    obtain ⟨b, off, e, hl, hc⟩ := h.2 hn
    exact ⟨b, off, e, hl, fun i hi j hj => (World.cell?_of_block (hk.2 b (Nat.lt_of_lt_of_le hl h.1) (Or.inl hl))).trans (hc i hi j hj)⟩⟩
theorem StB.below {n0 : Nat} {A B : World} {Ad : Option Addr} {n : Nat} {S : Nat → Nat → Int} (h : StB n0 A Ad n S) (hb : Below A.heap.size A B) : StB n0 B Ad n S := h.kept (m := 0) (kept_below hb)

theorem ticks_rounds (s : ByteArray) (b : Int) (A : Option Addr) (n c : Nat) (S : Nat → Nat → Int) (bb : Int) (w0 w : World) (hS : St w0 A n S) (hR : Right S n bb) (hn : n ≤ c) (hc : c ≤ maxLen) (hb0 : Below w0.heap.size w0 w) :
    Rounds Try.prog 105 (pathV s b A n c) (tickE S) (nT S n) w0.heap.size w := by
  intro l J Jx W hbW hsz hJ hJx hY h0
  have HSZ := Lib.hid hsz
  clear hsz
  have h2 := hR.1
  have hbW0 : Below w0.heap.size w0 W := hb0.trans hbW
  have hmax : n ≤ maxLen := Nat.le_trans hn hc
  have hst0 := (hR.2.2.2.1 0 (by omega)).1
  have hst1 := (hR.2.2.2.1 (n - 1) (by omega)).1
  have hle := hR.2.2.2.2.1.le (Nat.zero_le (n - 1)) (by omega)
  refine callsIn_of_wp Try.func105 rfl trivial ?_
  simp only [Try.ntmps105, List.size_toArray, List.length_cons, List.length_nil, Nat.reduceAdd, Nat.reduceSub, Array.replicate_succ, Array.replicate_zero, List.push_toArray, List.append_toArray, List.cons_append, List.nil_append]
  unfold pathV
  have hSB : StB w0.heap.size W A n S := StB.of hS hbW0
  have hS1 := hSB.st
  gi_wp2_with fail
  refine ⟨trivial, ?_⟩
  refine (callsIn_wide.2 (first_any s b A n c S _ (hS1.alloc _) (by omega))).mono ?_
  rintro e w1 ⟨rfl, hb1⟩
  have hbA : Below W.heap.size W w1 := (below_new (Below.refl _ W) (Nat.le_refl _)).trans (hb1.mono (by simp))
  have hA1 := (At.new W 126 #[.string s, .int .i64 b, .slice A n c]).keep hb1
  have hJ1 : J 0 w1 := hJ 0 W w1 h0 hbA
  have hS2 := hSB.below hbA
  obtain ⟨x0, hx0⟩ : ∃ x, x = S 0 0 := ⟨_, rfl⟩
  obtain ⟨x1, hx1⟩ : ∃ x, x = S (n - 1) 0 := ⟨_, rfl⟩
  have hN : Hid (nT S n = (x1 - x0 + 1).toNat) := by rw [hx0, hx1]; rfl
  have hE : Hid (∀ k : Nat, tickE S k = .int .i64 (x0 + (k : Int))) := fun k => by rw [hx0]; rfl
  have hL : Hid (x1 = S (n - 1) 0) := hx1
  rw [← hx0] at hst0 hle ⊢
  rw [← hx1] at hst1 hle
  have hbd : 0 ≤ x0 ∧ x0 ≤ x1 ∧ x1 ≤ 1000000000 := ⟨hst0.1, hle, hst1.2⟩
  obtain ⟨d1, d2, d3⟩ := hbd
  have HJ1 := Lib.hid hJ1
  have HA1 := Lib.hid hA1
  have HS2 := Lib.hid hS2
  have HJ := Lib.hid hJ
  have HJX := Lib.hid hJx
  have HY := Lib.hid hY
  have HMX := Lib.hid hmax
  have HN2 := Lib.hid h2
  have hzW : W.heap.size < w1.heap.size := hA1.lt
  clear hx0 hx1 hst0 hst1 hle hJ1 hA1 hS2 hJ hJx hY h0 hS1 hb1 hbA hR hn hc hmax h2 hSB
  gi_wp2_with fail
  gi_loopw [4] (fun i wr => ∃ k : Nat, k ≤ (x1 - x0 + 1).toNat ∧ i = .int .i64 (x0 + (k : Int)) ∧ J k wr ∧ StB w0.heap.size wr A n S ∧ At wr W.heap.size 126 #[.string s, .int .i64 b, .slice A n c]) (fun i _ => (x1 + 1 - intOf i).toNat)
  case atStart => exact ⟨0, Nat.zero_le _, by simp, HJ1.out, HS2.out, HA1.out⟩
  case round =>
    obtain ⟨k, hk, rfl, hJk, hSt, hAt⟩ := hrel
    have c0 := hAt.cell 0
    have c1 := hAt.cell 1
    have c2 := hAt.cell 2
    simp at c0 c1 c2
    have HJK := Lib.hid hJk
    have HST := Lib.hid hSt
    have HAT := Lib.hid hAt
    clear hJk hSt hAt
    gi_wp2_with fail
    refine ⟨trivial, ?_⟩
    refine (callsIn_wide.2 (last_any s b A n c S _ HST.out.st (by have := HN2.out; omega) HMX.out)).mono ?_
    rw [← hL.out]
    rintro e w2 ⟨rfl, hb2⟩
    have HJ2 := Lib.hid (HJ.out k _ _ HJK.out hb2)
    have HS3 := Lib.hid (HST.out.below hb2)
    have HA3 := Lib.hid (HAT.out.keep hb2)
    clear hb2
    by_cases hlt : k < (x1 - x0 + 1).toNat
    · obtain ⟨fn, tmps, assign, body, hy, hR⟩ := HY.out k w2 (by rw [hN.out]; exact hlt) HA3.out.lt HJ2.out
      rw [hE.out k] at hy
      have u1 : x0 + (k : Int) ≤ x1 := by omega
      have v1 : IntKind.i64.wrap (x0 + (k : Int) + 1) = x0 + (k : Int) + 1 := IntWalk.i64_in _ (by omega)
      gi_wp2
      refine hR.mono ?_
      rintro e w3 (⟨rfl, hJ3, hk3⟩ | ⟨rfl, hJx3⟩)
      · have hS3 := HS3.out.kept hk3
        have hA4 : At w3 W.heap.size 126 #[.string s, .int .i64 b, .slice A n c] := (hk3.2 _ HA3.out.lt (Or.inr HSZ.out)).trans HA3.out
        have HJ3 := Lib.hid hJ3
        clear hJ3 hk3 hR hy
        gi_wp2
        go_roundw
        case rel => exact ⟨k + 1, by omega, by show Value.int .i64 _ = .int .i64 _; congr 1; omega, HJ3.out, hS3, hA4⟩
        case measure => simp [intOf]; omega
      · gi_wp2
        refine bodyPost_ret (results_none rfl _ _ _) rfl ?_
        exact ⟨⟨_, rfl⟩, .inr ⟨k + 1, by rw [hN.out]; omega, hJx3⟩⟩
    · have u1 : ¬ x0 + (k : Int) ≤ x1 := by omega
      gi_wp2
      go_end0
      refine ⟨⟨_, rfl⟩, .inl ?_⟩
      rw [hN.out]
      obtain rfl : k = (x1 - x0 + 1).toNat := by omega
      exact HJ2.out
end Go.Proofs.Ytnaanninmkplfaa
