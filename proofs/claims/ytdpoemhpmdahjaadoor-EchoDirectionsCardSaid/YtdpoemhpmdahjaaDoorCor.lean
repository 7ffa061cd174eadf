/- Contracts: lists for transforms, and the correlation of two of them. -/
import Derived.Test.YtdpoemhpmdahjaaDoorCmp
import Derived.Test.YtdpoemhpmdahjaaDoorEql
namespace Go.Proofs.YtdpoemhpmdahjaaDoor
open Go.RowKit
set_option maxHeartbeats 400000
set_option maxRecDepth 100000

/-- the first n numbers are those of the prime field -/
def Fld (f : Nat → Int) (n : Nat) : Prop := ∀ i, i < n → 0 ≤ f i ∧ f i ≤ 998244352

theorem checkList_ok (A : Option Addr) (n c : Nat) (f : Nat → Int) (w : World) (hs : Sl w A n (ints f)) (hf : Fld f n) (h1 : 1 ≤ n) (h2 : n ≤ 128) (hp : bits .and .i64 (n : Int) ((n : Int) - 1) = 0) :
    Calls Tryd.prog 94 #[.slice A n c] w fun e w' => e = .returned (.int .i64 0) ∧ w = w' := by
  have HS := Lib.hid hs
  have HF := Lib.hid hf
  have i1 := inB_t (n := (n : Int)) (lo := 1) (hi := 128) (by omega)
  clear hs hf
  go_enter Tryd.func94, Tryd.ntmps94
  go_wp2_with (go_at_call 83; refine (within_any _ _ _ _).mono ?_; rintro e w' ⟨rfl, rfl⟩)
  go_loop [20] (fun i => ∃ k : Nat, k ≤ n ∧ i = .int .i64 (k : Int)) (fun i => n - (intOf i).toNat)
  case atStart => exact ⟨0, Nat.zero_le _, rfl⟩
  case round =>
    obtain ⟨k, hk, rfl⟩ := hrel
    by_cases hlt : k < n
    · obtain ⟨b, off, rfl, _, hc⟩ := HS.out (by omega)
      have hcell := hc k hlt
      unfold ints at hcell
      obtain ⟨q1, q2⟩ := HF.out k hlt
      have i2 := inB_t (n := f k) (lo := 0) (hi := 998244352) ⟨q1, q2⟩
      obtain ⟨x, hx⟩ : ∃ x, x = f k := ⟨_, rfl⟩
      rw [← hx] at hcell i2
      clear hc q1 q2 hx
      go_wp2_with (go_at_call 83; refine (within_any _ _ _ _).mono ?_; rintro e w' ⟨rfl, rfl⟩)
      go_round
      case rel => exact ⟨k + 1, by omega, by go_num⟩
      case measure => simp [intOf]; omega
    · go_wp2
      go_ret
      exact ⟨rfl, rfl⟩

/-- sums of a correlation -/
def corI (f g : Nat → Int) (n s : Nat) : Nat → Int
  | 0 => 0
  | k + 1 => (corI f g n s k + f ((s + k) % n) * g k) % 998244353
theorem corI_range (f g : Nat → Int) (n s k : Nat) : 0 ≤ corI f g n s k ∧ corI f g n s k ≤ 998244352 := by
  cases k with
  | zero => simp [corI]
  | succ k => unfold corI; omega
def corRow (f g : Nat → Int) (n s k j : Nat) : Value := if j < s then .int .i64 (corI f g n j n) else if j = s then .int .i64 (corI f g n s k) else .int .i64 0

theorem corRow_step (f g : Nat → Int) (n s k j : Nat) : (if j = s then Value.int .i64 ((corI f g n s k + f ((s + k) % n) * g k) % 998244353) else corRow f g n s k j) = corRow f g n s (k + 1) j := by
  unfold corRow
  by_cases e : j = s
  · subst e; simp [corI]
  · simp [e]
theorem corRow_next (f g : Nat → Int) (n s j : Nat) : corRow f g n s n j = corRow f g n (s + 1) 0 j := by
  unfold corRow
  by_cases e : j < s
  · simp [e, Nat.lt_succ_of_lt e]
  · by_cases e2 : j = s
    · subst e2; simp
    · have : ¬ j < s + 1 := by omega
      simp [e, e2, this, corI]

theorem infoI : (Tryd.prog.info? 3).map (fun i => (i.zero, i.size, i.bytes)) = some (some (.int .i64 0), 1, 8) := by kernel_rfl

theorem correlate_ok (A B : Option Addr) (n c d : Nat) (f g : Nat → Int) (w : World) (ha : Sl w A n (ints f)) (hb : Sl w B n (ints g)) (hf : Fld f n) (hg : Fld g n) (h1 : 1 ≤ n) (h2 : n ≤ 128) (hp : bits .and .i64 (n : Int) ((n : Int) - 1) = 0) :
    Calls Tryd.prog 51 #[.slice A n c, .slice B n d] w fun e w' => e = .returned (.tuple #[.slice (some ⟨w.heap.size, 0, none⟩) n n, .int .i64 0]) ∧
      w'.rowIs w.heap.size 3 n (fun j => .int .i64 (corI f g n j n)) ∧ Below w.heap.size w w' := by
  have HA := Lib.hid ha
  have HB := Lib.hid hb
  have HF := Lib.hid hf
  have HG := Lib.hid hg
  have HP := Lib.hid hp
  have hmk : ∀ w, (Instr.makeSlice 73 (.int .i64 (n : Int)) (.int .i64 (n : Int))).run Tryd.prog w = .ok (.slice (some ⟨w.heap.size, 0, none⟩) n n) (w.alloc (.cells (madeCells #[.int .i64 0] n) 3)) := fun w =>
    run_make_row' (P := Tryd.prog) 73 3 (.int .i64 0) 8 Tryd.underlying73 infoI rfl .i64 .i64 n (by omega) (by omega) w
  clear ha hb hf hg hp
  go_enter Tryd.func51, Tryd.ntmps51
  go_wp2_with fail
  refine (checkList_ok A n c f _ HA.out HF.out h1 h2 HP.out).mono ?_
  rintro e w' ⟨rfl, rfl⟩
  go_wp2_with fail
  refine (checkList_ok B n d g _ HB.out HG.out h1 h2 HP.out).mono ?_
  rintro e w' ⟨rfl, rfl⟩
  have R0 := (row_made (w := w) (g := w.heap.size) (n := n) (z := .int .i64 0) (t := 3) rfl).congr (g := corRow f g n 0 0) (fun j hj => by simp [corRow, corI])
  have HR0 := Lib.hid R0
  clear R0
  go_wp2
  go_loopg [32] n (fun gk i wr => ∃ s : Nat, s ≤ n ∧ gk = n - s ∧ i = .int .i64 (s : Int) ∧ wr.rowIs w.heap.size 3 n (corRow f g n s 0) ∧ Below w.heap.size w wr)
  case atStart => exact ⟨0, Nat.zero_le _, rfl, rfl, HR0.out, (Below.refl _ _).alloc (Nat.le_refl _) _⟩
  case round =>
    obtain ⟨s, hs, hgs, rfl, hrow, hbel⟩ := hrel
    have HGS := Lib.hid hgs
    have HROW := Lib.hid hrow
    clear hgs hrow HR0
    obtain ⟨wo, hwo⟩ : ∃ wo, wo = wr := ⟨_, rfl⟩
    by_cases hlt : s < n
    · go_wp2
      go_loopg [36] n (fun gk i wq => ∃ k : Nat, k ≤ n ∧ gk = n - k ∧ i = .int .i64 (k : Int) ∧ wq.rowIs w.heap.size 3 n (corRow f g n s k) ∧ Below w.heap.size w wq)
      case atStart => exact ⟨0, Nat.zero_le _, rfl, rfl, HROW.out, hbel⟩
      case round =>
        obtain ⟨k, hk, hgk, rfl, hrow2, hbel2⟩ := hrel
        have HGK := Lib.hid hgk
        have HROW2 := Lib.hid hrow2
        by_cases hlt2 : k < n
        · obtain ⟨b, off, rfl, hb1, hc1⟩ := HA.out (by omega)
          obtain ⟨b', off', rfl, hb2, hc2⟩ := HB.out (by omega)
          have hm : (s + k) % n < n := Nat.mod_lt _ (by omega)
          have c1 := (hbel2.cell (p := ⟨b, off + (s + k) % n, none⟩) hb1).trans (hc1 _ hm)
          have c2 := (hbel2.cell (p := ⟨b', off' + k, none⟩) hb2).trans (hc2 k hlt2)
          have c3 := hrow2.cell hlt
          have f3 := hrow2.frozen s
          unfold ints at c1 c2
          have e3 : corRow f g n s k s = .int .i64 (corI f g n s k) := by simp [corRow]
          rw [e3] at c3
          obtain ⟨p1, p2⟩ := HF.out _ hm
          obtain ⟨p3, p4⟩ := HG.out _ hlt2
          obtain ⟨p5, p6⟩ := corI_range f g n s k
          have p7 := Int.mul_nonneg p1 p3
          have p8 := Int.mul_le_mul p2 p4 p3 (by omega)
          have HX : Hid (corI f g n s (k + 1) = (corI f g n s k + f ((s + k) % n) * g k) % 998244353) := rfl
          obtain ⟨x, hx⟩ : ∃ x, x = f ((s + k) % n) := ⟨_, rfl⟩
          obtain ⟨y, hy⟩ : ∃ y, y = g k := ⟨_, rfl⟩
          obtain ⟨z, hz⟩ : ∃ z, z = corI f g n s k := ⟨_, rfl⟩
          rw [← hx] at c1 p1 p2 p7 p8
          rw [← hy] at c2 p3 p4 p7 p8
          rw [← hz] at c3 p5 p6
          have X1 := Lib.hid hx
          have X2 := Lib.hid hy
          have X3 := Lib.hid hz
          clear hx hy hz hgk hrow2 e3 hc1 hc2
          have v1 : 0 ≤ ((s : Int) + (k : Int)) % (n : Int) := Int.emod_nonneg _ (by omega)
          have v2 : ((s : Int) + (k : Int)) % (n : Int) < (n : Int) := Int.emod_lt_of_pos _ (by omega)
          have v3 : (((s : Int) + (k : Int)) % (n : Int)).toNat = (s + k) % n := by
            have e : ((s : Int) + (k : Int)) % (n : Int) = (((s + k) % n : Nat) : Int) := by push_cast; rfl
            rw [e]; rfl
          have v4 : 0 ≤ x * y := p7
          have v5 : x * y ≤ 996491788288491904 := by omega
          go_wp2
          go_region
          go_wp2
          go_roundg (n - (k + 1))
          case rel => exact ⟨k + 1, by omega, rfl, by go_num, (HROW2.out.set s (.int .i64 ((z + x * y) % 998244353))).drew.congr (fun j _ => by rw [X3.out, X1.out, X2.out]; exact corRow_step f g n s k j), (hbel2.setCell (Nat.le_refl _) _).drew⟩
          case measure => rw [HGK.out]; omega
        · have ek : k = n := by omega
          subst ek
          go_wp2
          go_roundg (k - (s + 1))
          case rel => exact ⟨s + 1, by omega, rfl, by go_num, HROW2.out.congr (fun j _ => corRow_next f g k s j), hbel2⟩
          case measure => rw [HGS.out]; omega
    · have es : s = n := by omega
      subst es
      go_wp2
      go_ret2
      exact ⟨rfl, HROW.out.congr (fun j hj => by simp [corRow, hj]), hbel⟩
end Go.Proofs.YtdpoemhpmdahjaaDoor
