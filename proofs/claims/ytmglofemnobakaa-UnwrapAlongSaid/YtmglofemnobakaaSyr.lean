/- Names by lists: numbers; rows with their places. -/
import Derived.Test.YtmglofemnobakaaSyz
namespace Go.Proofs.Ytmglofemnobakaa
open Go.RowKit

/-- so many numbers in memory -/
def RowR (w : World) (A : Option Addr) (n : Nat) (F : Int → Int) : Prop :=
  0 < n → ∃ b off, A = some ⟨b, off, none⟩ ∧ b < w.heap.size ∧ ∀ j : Nat, j < n → w.cell? ⟨b, off + j, none⟩ = some (.int .i64 (F (j : Int)))
structure RowD where
  A : Option Addr
  n : Nat
  F : Int → Int
def addrOf : Option Addr → Nat × Nat
  | some a => (a.block, a.off)
  | none => (0, 0)
def rowAt (l : List RowD) (k : Nat) : RowD := l.getD k ⟨none, 0, fun _ => 0⟩
/-- rows that are no memory of before have numbers from 50 on -/
def arrAt (rows : List RowD) (av : List (Int → Int)) (k : Nat) : Int → Int :=
  match Nat.blt k 50 with
  | true => (rowAt rows k).F
  | false => av.getD (k - 50) (fun _ => 0)
def lenAt (rows : List RowD) (k : Nat) : Nat :=
  match Nat.blt k 50 with
  | true => (rowAt rows k).n
  | false => 0
abbrev rhoL (fb : Nat) (iv : List Int) (rows : List RowD) (bv : List Bool) (av : List (Int → Int) := []) : Rho :=
  ⟨{ i := fun k => iv.getD k 0, b := fun k => bv.getD k false, a := arrAt rows av, fb := fb, fo := fun k => addrOf (rowAt rows k).A, fn := lenAt rows }⟩
theorem lenAt_pos {rows : List RowD} {k : Nat} (h : 0 < lenAt rows k) : Nat.blt k 50 = true ∧ lenAt rows k = (rowAt rows k).n := by
  unfold lenAt at h ⊢
  split
  · rename_i hb; exact ⟨hb, rfl⟩
  · rename_i hb; rw [hb] at h; exact absurd h (Nat.lt_irrefl 0)
theorem arrAt_row {rows : List RowD} {av : List (Int → Int)} {k : Nat} (h : Nat.blt k 50 = true) : arrAt rows av k = (rowAt rows k).F := by unfold arrAt; rw [h]
def RowsIn (w : World) : List RowD → Prop
  | [] => True
  | r :: l => RowR w r.A r.n r.F ∧ RowsIn w l
theorem rowsIn_at {w : World} : ∀ {l : List RowD}, RowsIn w l → ∀ k, RowR w (rowAt l k).A (rowAt l k).n (rowAt l k).F
  | [], _, k => fun h => absurd h (by simp [rowAt])
  | r :: l, h, 0 => h.1
  | r :: l, h, k + 1 => by
    have := rowsIn_at h.2 k
    simpa [rowAt] using this
theorem far_list {w : World} {iv : List Int} {rows : List RowD} {bv : List Bool} {av : List (Int → Int)} (h : RowsIn w rows) : @Far (rhoL w.heap.size iv rows bv av) w := by
  refine @Far.mk (rhoL w.heap.size iv rows bv av) w (Nat.le_refl _) (fun id hid => ?_) (fun id j hj => ?_)
  · obtain ⟨_, e2⟩ := lenAt_pos hid
    have hid : 0 < (rowAt rows id).n := by rw [← e2]; exact hid
    obtain ⟨b, off, e, hl, _⟩ := rowsIn_at h id hid
    show (addrOf (rowAt rows id).A).1 < _
    rw [e]
    exact hl
  · have hj0 : j < lenAt rows id := hj
    obtain ⟨e1, e2⟩ := lenAt_pos (Nat.lt_of_le_of_lt (Nat.zero_le j) hj0)
    have hj : j < (rowAt rows id).n := by rw [← e2]; exact hj0
    obtain ⟨b, off, e, hl, hc⟩ := rowsIn_at h id (by omega)
    show w.cell? ⟨(addrOf (rowAt rows id).A).1, (addrOf (rowAt rows id).A).2 + j, none⟩ = some (.int .i64 (arrAt rows av id j))
    rw [e, arrAt_row e1]
    exact hc j hj
theorem agree_list {fb : Nat} {l x y : List Int} {rows : List RowD} {bv : List Bool} {av av' : List (Int → Int)} {B : Nat} (hB : B ≤ l.length) (h50 : Nat.ble B 50 = true) : Agree B (rhoL fb (l ++ x) rows bv av) (rhoL fb (l ++ y) rows bv av') := by
  have h50 := Nat.le_of_ble_eq_true h50
  refine ⟨fun k hk => ?_, fun _ _ => rfl, fun k hk => ?_, rfl, rfl, rfl, fun k hk => ?_⟩
  · show (l ++ y).getD k 0 = (l ++ x).getD k 0
    rw [List.getD_eq_getElem?_getD, List.getD_eq_getElem?_getD, List.getElem?_append_left (by omega), List.getElem?_append_left (by omega)]
  · show arrAt rows av' k = arrAt rows av k
    have : Nat.blt k 50 = true := by simpa [Nat.blt_eq] using (by omega : k < 50)
    rw [arrAt_row this, arrAt_row this]
  · obtain ⟨e1, _⟩ := lenAt_pos hk
    show arrAt rows av' k = arrAt rows av k
    rw [arrAt_row e1, arrAt_row e1]
/-- a whole row as a slice -/
theorem fsl_row {fb : Nat} {iv : List Int} {rows : List RowD} {bv : List Bool} {av : List (Int → Int)} {w : World} (id sz : Nat) {A : Option Addr} {n c : Nat} {off len : Int} (h : RowsIn w rows) (hA : (rowAt rows id).A = A) (hn : (rowAt rows id).n = n * sz) (hsz : 0 < sz) (ho : off = 0) (hl : len = n) (hc : n ≤ c) (h50 : Nat.blt id 50 = true := by rfl) :
    @FSl (rhoL fb iv rows bv av) id sz off len (.slice A n c) := by
  have e0 : lenAt rows id = (rowAt rows id).n := by unfold lenAt; rw [h50]
  refine ⟨A, c, n, 0, rfl, by rw [ho]; rfl, hl, hc, by show _ ≤ lenAt rows id; rw [e0, hn, Nat.zero_add]; exact Nat.le_refl _, fun h0 => ?_⟩
  have hp : 0 < n * sz := Nat.mul_pos h0 hsz
  obtain ⟨b, o, e, _⟩ := rowsIn_at h id (by rw [hn]; exact hp)
  show A = some ⟨(addrOf (rowAt rows id).A).1, (addrOf (rowAt rows id).A).2 + 0 * sz, none⟩
  rw [hA] at e ⊢
  rw [e]
  simp [addrOf]
theorem row_sl {w : World} {A : Option Addr} {n : Nat} {f : Nat → Int} (h : Sl w A n (fun i => .int .i64 (f i))) : RowR w A n (fun j => f j.toNat) := fun hn => by
  obtain ⟨b, off, e, hl, hc⟩ := h hn
  exact ⟨b, off, e, hl, fun j hj => by rw [hc j hj]; simp⟩
/-- rows put in -/
def putO : List (Nat × RO) → RH → RH
  | [], h => h
  | (b, o) :: l, h => putO l (h.put b (some o))
/-- cells put in: block, cell -/
def setAt : Nat → RV → List RV → List RV
  | _, _, [] => []
  | 0, r, _ :: l => r :: l
  | k + 1, r, x :: l => x :: setAt k r l
def putH : List (Nat × Nat × RV) → RH → RH
  | [], h => h
  | (b, i, r) :: l, h => putH l (match h.at? b with | some (.cells cs t g) => h.put b (some (.cells (setAt i r cs) t g)) | _ => h)
/-- rows of four -/
def flat4 (S : Nat → Nat → Int) (j : Int) : Int := S (j.toNat / 4) (j.toNat % 4)
theorem flat4_0 (S : Nat → Nat → Int) (k : Nat) : flat4 S ((k : Int) * 4) = S k 0 := by
  unfold flat4
  rw [show ((k : Int) * 4).toNat / 4 = k by omega, show ((k : Int) * 4).toNat % 4 = 0 by omega]
theorem flat4_j (S : Nat → Nat → Int) (k j : Nat) (hj : j < 4) : flat4 S ((k : Int) * 4 + (j : Int)) = S k j := by
  unfold flat4
  rw [show ((k : Int) * 4 + (j : Int)).toNat / 4 = k by omega, show ((k : Int) * 4 + (j : Int)).toNat % 4 = j by omega]
theorem flat4_1 (S : Nat → Nat → Int) (k : Nat) : flat4 S ((k : Int) * 4 + 1) = S k 1 := flat4_j S k 1 (by omega)
theorem flat4_2 (S : Nat → Nat → Int) (k : Nat) : flat4 S ((k : Int) * 4 + 2) = S k 2 := flat4_j S k 2 (by omega)
theorem flat4_3 (S : Nat → Nat → Int) (k : Nat) : flat4 S ((k : Int) * 4 + 3) = S k 3 := flat4_j S k 3 (by omega)

/-- the first of n codes that is not 0, and its number -/
def fw (g : Nat → Int) : Nat → Int × Int
  | 0 => (0, 0)
  | k + 1 => if (fw g k).2 = 0 then (if g k = 0 then (0, 0) else ((k : Int), g k)) else fw g k
theorem fw_none {g : Nat → Int} : ∀ {n : Nat}, (∀ j, j < n → g j = 0) → fw g n = (0, 0)
  | 0, _ => rfl
  | n + 1, h => by
    have := fw_none (n := n) fun j hj => h j (by omega)
    simp [fw, this, h n (by omega)]
theorem fw_hit {g : Nat → Int} {k : Nat} (h : ∀ j, j < k → g j = 0) (hk : g k ≠ 0) : ∀ {n : Nat}, k < n → fw g n = ((k : Int), g k)
  | 0, hn => by omega
  | n + 1, hn => by
    by_cases e : k = n
    · subst e
      simp [fw, fw_none h, hk]
    · have := fw_hit h hk (n := n) (by omega)
      simp [fw, this, hk]
theorem fw_z {g : Nat → Int} : ∀ {n : Nat}, (fw g n).2 = 0 → ∀ j, j < n → g j = 0
  | 0, _, j, hj => by omega
  | n + 1, h, j, hj => by
    unfold fw at h
    split at h
    · rename_i h0
      split at h
      · rename_i h1
        by_cases e : j = n
        · rw [e]; exact h1
        · exact fw_z h0 j (by omega)
      · rename_i h1
        exact absurd h h1
    · rename_i h0
      exact absurd h h0
end Go.Proofs.Ytmglofemnobakaa
