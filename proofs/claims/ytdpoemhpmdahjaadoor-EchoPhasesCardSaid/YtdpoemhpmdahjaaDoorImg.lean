/- Contract: an image is made of raw parts, two of them for each sample. -/
import Derived.Test.YtdpoemhpmdahjaaDoorChk
import Derived.Deep.AppendLies
import Derived.Deep.RegionLaw
import Derived.Deep.LoopGhost
namespace Go.Proofs.YtdpoemhpmdahjaaDoor
open Go.RowKit
set_option maxHeartbeats 400000
set_option maxRecDepth 100000

theorem infoX : (Tryd.prog.info? 109).map (fun i => (i.zero, i.size, i.bytes)) = some (some (.complex .f32 0 0), 1, 8) := by kernel_rfl
def cxs (p : Nat → Nat) : Nat → List Value
  | 0 => []
  | j + 1 => cxs p j ++ [.complex .f32 (p (2 * j)) (p (2 * j + 1))]
theorem cxs_length (p : Nat → Nat) (j : Nat) : (cxs p j).length = j := by
  induction j with
  | zero => rfl
  | succ j ih => simp [cxs, ih]
theorem cxs_get (p : Nat → Nat) (j i : Nat) (h : i < j) : (cxs p j)[i]? = some (.complex .f32 (p (2 * i)) (p (2 * i + 1))) := by
  induction j with
  | zero => omega
  | succ j ih =>
    rw [cxs]
    by_cases e : i < j
    · rw [List.getElem?_append_left (by rw [cxs_length]; exact e)]
      exact ih e
    · obtain rfl : i = j := by omega
      rw [List.getElem?_append_right (by rw [cxs_length]; exact Nat.le_refl _), cxs_length]
      simp

def flt (p : Nat → Nat) (i : Nat) : Value := .float .f32 (p i)

theorem cx_cell (w : World) (a b : Nat) : ∀ (j : Nat) (u : Value), [Value.complex .f32 a b][j]? = some u → (w.alloc (.cells #[.complex .f32 a b] 109)).cell? ((⟨w.heap.size, 0, none⟩ : Addr).add j) = some u := by
  intro j u hj
  match j, hj with
  | 0, hj =>
    simp at hj
    subst hj
    have h := (At.new w 109 #[.complex .f32 a b]).cell 0
    simp at h
    simp [Addr.add]
theorem cx_one (a b : Nat) : ∀ u ∈ [Value.complex .f32 a b], u.oneCell' = true := by intro u hu; simp at hu; subst hu; rfl

theorem own_base {B B' : Nat} {w : World} {e : TypeId} {v : Value} {n : Nat} {xs : List Value} (h : w.ownsRow B' e 1 v n xs) (hB : B ≤ B') : w.ownsRow B e 1 v n xs := by
  obtain ⟨h1, h2⟩ := h
  refine ⟨h1, ?_⟩
  rcases h2 with h2 | ⟨g, cap, cur, hv, hg, r⟩
  · exact Or.inl h2
  · exact Or.inr ⟨g, cap, cur, hv, by omega, r⟩

/-- how the row is told at its end -/
def ImgOut (w : World) (n : Nat) (p : Nat → Nat) (v : Value) (w' : World) : Prop := w'.ownsRow w.heap.size 109 1 v n (cxs p n)

theorem image_any (A : Option Addr) (L S : Int) (n c : Nat) (p : Nat → Nat) (w : World) (hs : Sl w A n (flt p)) (hn : n ≤ 1000000) :
    Calls Tryd.prog 70 #[.int .i64 L, .int .i64 S, .slice A n c] w fun e w' =>
      ∃ v, e = .returned (.agg #[.int .i64 L, .int .i64 S, v]) ∧ ImgOut w (n / 2) p v w' ∧ Below w.heap.size w w' := by
  obtain ⟨i0, hi, hz0, hz1, hz2⟩ := info_parts infoX
  have HS := Lib.hid hs
  have HI := Lib.hid hi
  have HZ0 := Lib.hid hz0
  have HZ1 := Lib.hid hz1
  have HZ2 := Lib.hid hz2
  clear hs hi hz0 hz1 hz2
  go_enter Tryd.func70, Tryd.ntmps70
  go_wp2
  go_loopg [8] (n / 2) (fun gk i wr => ∃ (j : Nat) (ao : Option Addr) (cp : Nat), 2 * j ≤ n ∧ gk = n / 2 - j ∧ i = .int .i64 (2 * (j : Int)) ∧ At wr (w.heap.size + 1) 32 #[.int .i64 L, .int .i64 S, .slice ao j cp] ∧ At wr w.heap.size 32 #[.int .i64 0, .int .i64 0, .slice none 0 0] ∧
    wr.ownsRow (w.heap.size + 1 + 1) 109 1 (.slice ao j cp) j (cxs p j) ∧ Below w.heap.size w wr)
  case atStart => exact ⟨0, none, 0, by omega, rfl, rfl, at_new (by simp), (at_new rfl).alloc _, World.ownsRow_nil _ _ _ _, ((Below.refl _ _).alloc (Nat.le_refl _) _).alloc (by simp) _⟩
  case round =>
    obtain ⟨j, ao, cp, hj, hg, rfl, hA, hR, hown, hbel⟩ := hrel
    have HG := Lib.hid hg
    have HA := Lib.hid hA
    have HR := Lib.hid hR
    have HOWN := Lib.hid hown
    have c0 := hA.cell 0
    have c1 := hA.cell 1
    have c2 := hA.cell 2
    simp at c0 c1 c2
    have fA := hA.free 2
    have hl := hA.lt
    have hz := hbel.size
    clear hg hA hR hown
    by_cases hlt : 2 * j + 1 < n
    · obtain ⟨b, off, rfl, hb, hc⟩ := HS.out (by omega)
      have k1 := (hbel.cell (p := ⟨b, off + 2 * j, none⟩) hb).trans (hc (2 * j) (by omega))
      have k2 := (hbel.cell (p := ⟨b, off + (2 * j + 1), none⟩) hb).trans (hc (2 * j + 1) hlt)
      unfold flt at k1 k2
      have u1 : 0 ≤ 2 * (j : Int) := by omega
      have u2 : 2 * (j : Int) < (n : Int) := by omega
      have u3 : 2 * (j : Int) + 1 < (n : Int) := by omega
      have u4 : 0 ≤ 2 * (j : Int) + 1 := by omega
      clear hc
      go_wp2
      have t2 : IntKind.i64.wrap (2 * (j : Int) + 1) = 2 * (j : Int) + 1 := IntWalk.i64_in _ (by omega)
      have t1 : (2 * (j : Int)).toNat = 2 * j := by omega
      have t3 : (2 * (j : Int) + 1).toNat = 2 * j + 1 := by omega
      go_region_law ((refine step_append_lies _ rfl (.tmp 20) (.tmp 31) 30 rfl (w.heap.size + 1 + 1) 109 i0 (.complex .f32 0 0) 1 8 Tryd.underlying30 HI.out HZ0.out HZ1.out HZ2.out rfl (by decide) (.slice ao j cp) j (cxs p j) (by simp [Act.eval]) (HOWN.out.alloc _) ⟨wr.heap.size, 0, none⟩ 1 1 [.complex .f32 (p (2 * j)) (p (2 * j + 1))] (by simp [Act.eval]) rfl (cx_cell wr _ _) (cx_one _ _) (by omega) (by unfold maxLen; omega) (by omega) (by simp; omega) (wr.heap.size + 1) (by simp) ?_; intro g cap w4 hown4 hg4 hat4 hlt4; have q1 := (hg4.cell_far ⟨w.heap.size + 1, 2, none⟩ (by simp; omega) (by intro h; have h2 := HOWN.out.lt (w.heap.size + 1) h.symm; omega)).trans ((World.cell?_alloc_lt wr _ ⟨w.heap.size + 1, 2, none⟩ hl).trans c2); have q2 := (hg4.frozen_far ⟨w.heap.size + 1, 2, none⟩ (by simp; omega) (by intro h; have h2 := HOWN.out.lt (w.heap.size + 1) h.symm; omega)).trans ((((Below.refl _ _).alloc (Nat.le_refl _) _).frozen (p := ⟨w.heap.size + 1, 2, none⟩) hl).trans fA)))
      all_goals
        have A4 : At w4 (w.heap.size + 1) 32 #[.int .i64 L, .int .i64 S, .slice ao j cp] := (hg4.block (w.heap.size + 1) (by simp; omega) (by intro h; have h2 := HOWN.out.lt (w.heap.size + 1) h.symm; omega)).trans (HA.out.alloc _)
        have R4 : At w4 w.heap.size 32 #[.int .i64 0, .int .i64 0, .slice none 0 0] := (hg4.block w.heap.size (by simp; omega) (by intro h; have h2 := HOWN.out.lt w.heap.size h.symm; omega)).trans (HR.out.alloc _)
        have B4 : Below w.heap.size w w4 := ((hbel.alloc hz (.cells #[.complex .f32 (p (2 * j)) (p (2 * j + 1))] 109)).drew).grown hg4 (by simp; omega) (fun k h => by have h2 := HOWN.out.lt k h; omega)
        have HA4 := Lib.hid A4
        have HR4 := Lib.hid R4
        have HO4 := Lib.hid hown4
        clear A4 R4 hown4 hg4 hat4 q1 q2 t1 t2 t3 k1 k2 c0 c1 c2
        go_wp2
        go_roundg (n / 2 - (j + 1))
        case measure => have := HG.out; omega
        case rel => exact ⟨j + 1, _, _, by omega, rfl, by go_num, HA4.out.put 2 _, HR4.out.far (by simp) _, ownsRow_setCell_below HO4.out (by simp) _, below_set B4 (by omega)⟩
    · have r0 := HR.out.cell 0
      have r1 := HR.out.cell 1
      have r2 := HR.out.cell 2
      simp at r0 r1 r2
      have f0 := HR.out.free 0
      have f1 := HR.out.free 1
      have f2 := HR.out.free 2
      go_wp2
      refine bodyPost_ret (v := .agg #[.int .i64 L, .int .i64 S, .slice ao j cp]) (by simp [results, Tryd.results70, go_sem, *]) rfl ⟨_, rfl, ?_, ?_⟩
      · obtain rfl : j = n / 2 := by omega
        exact own_base (ownsRow_setCell_below (ownsRow_setCell_below (ownsRow_setCell_below HOWN.out (by show w.heap.size < w.heap.size + 1 + 1; omega) _) (by show w.heap.size < w.heap.size + 1 + 1; omega) _) (by show w.heap.size < w.heap.size + 1 + 1; omega) _) (by omega)
      · exact below_set (below_set (below_set hbel (Nat.le_refl _)) (Nat.le_refl _)) (Nat.le_refl _)
end Go.Proofs.YtdpoemhpmdahjaaDoor
