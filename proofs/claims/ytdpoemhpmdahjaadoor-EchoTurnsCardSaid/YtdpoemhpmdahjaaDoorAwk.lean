/- The laws' examples hold: what each law asks first. -/
import Derived.Test.YtdpoemhpmdahjaaDoorSam
import Derived.Test.YtdpoemhpmdahjaaDoorDir
import Derived.Test.YtdpoemhpmdahjaaDoorCor
import Derived.Test.YtdpoemhpmdahjaaDoorImg
import Derived.Test.YtdpoemhpmdahjaaDoorPrn
namespace Go.Proofs.YtdpoemhpmdahjaaDoor
open Go.RowKit
set_option maxHeartbeats 400000
set_option maxRecDepth 100000

theorem sl_of_img {w w' : World} {n : Nat} {p : Nat → Nat} {v : Value} (h : ImgOut w n p v w') (hn : 0 < n) : ∃ A cp, v = .slice A n cp ∧ Sl w' A n (cx .f32 (fun i => p (2 * i)) (fun i => p (2 * i + 1))) := by
  have h0 := h
  obtain ⟨hl, h2⟩ := h
  rcases h2 with ⟨_, h2⟩ | ⟨g, cap, cur, hv, _⟩
  · omega
  · subst hv
    refine ⟨_, _, rfl, fun _ => ⟨g, 0, rfl, (World.ownsRow.lt h0 g rfl).2, fun i hi => ?_⟩⟩
    have := World.ownsRow.cells h0 (g := g) rfl i _ (cxs_get p n i hi)
    have e : (⟨g, 0, none⟩ : Addr).add i = ⟨g, 0 + i, none⟩ := by cases i <;> simp [Addr.add]
    rw [e] at this
    exact this

theorem sl_of_at {w : World} {g n : Nat} {t : TypeId} {cs : Array Value} {f : Nat → Value} (h : At w g t cs) (hc : ∀ i, i < n → cs[i]? = some (f i)) : Sl w (some ⟨g, 0, none⟩) n f :=
  fun _ => ⟨g, 0, rfl, h.lt, fun i hi => by rw [show (0 : Nat) + i = i from Nat.zero_add i, h.cell i]; exact hc i hi⟩

theorem sl_of_row {w : World} {g n : Nat} {t : TypeId} {f : Nat → Value} (h : w.rowIs g t n f) (hg : g < w.heap.size) : Sl w (some ⟨g, 0, none⟩) n f :=
  fun _ => ⟨g, 0, rfl, hg, fun i hi => by rw [show (0 : Nat) + i = i from Nat.zero_add i]; exact h.cell hi⟩

theorem row_lt {w : World} {g n : Nat} {t : TypeId} {f : Nat → Value} (h : w.rowIs g t n f) : g < w.heap.size := by
  obtain ⟨x, hx, _⟩ := h
  exact (Array.getElem?_eq_some_iff.1 hx).1

theorem is_of {k : FloatKind} {b : Nat} {n : Int} (e : F k n = b) (h : n.natAbs < 2 ^ digits k) : Is k b n := e ▸ is_F k n h

def ls (l : List Nat) (i : Nat) : Nat := l[i]?.getD 0
def p1 : List Nat := [1065353216, 0, 1073741824, 0, 1077936128, 0, 1082130432, 0]
def p2 : List Nat := [1065353216, 0, 0, 1073741824]
def li (l : List Int) (i : Nat) : Int := l[i]?.getD 0

theorem i1 : Is .f32 1065353216 1 := is_of (by decide +kernel) (by decide)
theorem i2 : Is .f32 1073741824 2 := is_of (by decide +kernel) (by decide)
theorem i3 : Is .f32 1077936128 3 := is_of (by decide +kernel) (by decide)
theorem i4 : Is .f32 1082130432 4 := is_of (by decide +kernel) (by decide)
theorem iz : Is .f32 0 0 := is_zero .f32

theorem wh1 : Wh .f32 (fun i => ls p1 (2 * i)) (fun i => ls p1 (2 * i + 1)) (li [1, 2, 3, 4]) (li [0, 0, 0, 0]) 4 2047 := by
  intro i hi
  match i, hi with
  | 0, _ => exact ⟨i1, iz, by decide, by decide⟩
  | 1, _ => exact ⟨i2, iz, by decide, by decide⟩
  | 2, _ => exact ⟨i3, iz, by decide, by decide⟩
  | 3, _ => exact ⟨i4, iz, by decide, by decide⟩
theorem wh2 : Wh .f32 (fun i => ls p2 (2 * i)) (fun i => ls p2 (2 * i + 1)) (li [1, 0]) (li [0, 2]) 2 2047 := by
  intro i hi
  match i, hi with
  | 0, _ => exact ⟨i1, iz, by decide, by decide⟩
  | 1, _ => exact ⟨iz, i2, by decide, by decide⟩
theorem wh3 : Wh .f32 (ls [1065353216, 0]) (ls [0, 1065353216]) (li [1, 0]) (li [0, 1]) 2 3 := by
  intro i hi
  match i, hi with
  | 0, _ => exact ⟨i1, iz, by decide, by decide⟩
  | 1, _ => exact ⟨iz, i1, by decide, by decide⟩
theorem m2 : Is .f64 13835058055282163712 (-2) := is_of (by decide +kernel) (by decide)
theorem one64 : Is .f64 4607182418800017408 1 := is_of (by decide +kernel) (by decide)
theorem ph_awake : phI (-2) 1 = 1746 := by decide +kernel

def wRe (j : Nat) : Nat := F .f64 (cRe (li [1, 2, 3, 4]) (li [0, 0, 0, 0]) (li [1, 0]) (li [0, 1]) 4 3 2 j)
def wIm (j : Nat) : Nat := F .f64 (cIm (li [1, 2, 3, 4]) (li [0, 0, 0, 0]) (li [1, 0]) (li [0, 1]) 4 3 2 j)
theorem want_bits : (wRe 0, wIm 0, wRe 1, wIm 1, wRe 2, wIm 2) = (4607182418800017408, 13835058055282163712, 4611686018427387904, 13837309855095848960, 4613937818241073152, 13839561654909534208) := by decide +kernel
def wantC : Array Value := #[.complex .f64 4607182418800017408 13835058055282163712, .complex .f64 4611686018427387904 13837309855095848960, .complex .f64 4613937818241073152 13839561654909534208]
theorem want_cells (i : Nat) (h : i < 3) : wantC[i]? = some (cx .f64 wRe wIm i) := by
  have e := want_bits
  simp only [Prod.mk.injEq] at e
  obtain ⟨e1, e2, e3, e4, e5, e6⟩ := e
  match i, h with
  | 0, _ => show _ = some (Value.complex .f64 (wRe 0) (wIm 0)); rw [e1, e2]; rfl
  | 1, _ => show _ = some (Value.complex .f64 (wRe 1) (wIm 1)); rw [e3, e4]; rfl
  | 2, _ => show _ = some (Value.complex .f64 (wRe 2) (wIm 2)); rw [e5, e6]; rfl
theorem cor_awake : corI (li [1, 2]) (li [3, 4]) 2 0 2 = 11 ∧ corI (li [1, 2]) (li [3, 4]) 2 1 2 = 10 := by decide +kernel
theorem text_awake : (body (li [1, 0]) (li [0, 2]) 2 (hdr ((1 : Nat) : Int) ((2 : Nat) : Int) (chkI (li [1, 0]) (li [0, 2]) 2) 3) 2 ++ [10]).toArray = #[105, 109, 97, 103, 101, 32, 49, 32, 50, 32, 52, 52, 50, 50, 51, 10, 49, 32, 48, 32, 48, 32, 50, 10] := by decide +kernel

def fl1 : Array Value := #[.float .f32 1065353216, .float .f32 0, .float .f32 1073741824, .float .f32 0, .float .f32 1077936128, .float .f32 0, .float .f32 1082130432, .float .f32 0]
def fl2 : Array Value := #[.float .f32 1065353216, .float .f32 0, .float .f32 0, .float .f32 1073741824]
theorem fl1_at (i : Nat) (h : i < 8) : fl1[i]? = some (flt (ls p1) i) := by
  match i, h with
  | 0, _ | 1, _ | 2, _ | 3, _ | 4, _ | 5, _ | 6, _ | 7, _ => rfl
theorem fl2_at (i : Nat) (h : i < 4) : fl2[i]? = some (flt (ls p2) i) := by
  match i, h with
  | 0, _ | 1, _ | 2, _ | 3, _ => rfl

theorem awake_ok (w : World) (ht : Tab w) : Calls Tryd.prog 15 #[] w fun e w' => e = .returned (.bool true) ∧ Below w.heap.size w w' := by
  have HT := Lib.hid ht
  clear ht
  go_enter Tryd.func15, Tryd.ntmps15
  go_wp2_with fail
  refine (image_any _ 1 4 8 8 (ls p1) _ (sl_of_at (At.new w _ fl1) fl1_at) (by omega)).mono ?_
  rintro e w1 ⟨v, rfl, himg, hb1⟩
  obtain ⟨A1, cp1, rfl, hs1⟩ := sl_of_img (n := 4) himg (by decide)
  have hB1 : Below w.heap.size w w1 := (below_new (Below.refl _ _) (Nat.le_refl _)).trans (hb1.mono (by simp))
  have HB1 := Lib.hid hB1
  have HS1 := Lib.hid hs1
  clear himg hb1 hB1 hs1
  go_wp2_with fail
  refine (compress_ok 1 4 4 cp1 2 2 3 A1 (some ⟨w1.heap.size, 0, none⟩) _ _ _ _ _ _ _ _ _ (HS1.out.alloc _) (sl_of_at (At.new w1 _ #[.complex .f32 1065353216 0, .complex .f32 0 1065353216]) (f := cx .f32 (ls [1065353216, 0]) (ls [0, 1065353216])) (fun i hi => by match i, hi with | 0, _ | 1, _ => rfl)) wh1 wh3 (by omega) (by omega) rfl (by omega) (by decide) (by omega) (by omega)).mono ?_
  rintro e w2 ⟨g, rfl, hg, hrow, hb2⟩
  have hB2 : Below w.heap.size w w2 := (below_new HB1.out HB1.out.size).trans (hb2.mono (by have := HB1.out.size; simp; omega))
  have HB2 := Lib.hid hB2
  have HROW := Lib.hid hrow
  have HG := Lib.hid hg
  clear hrow hb2 hB2 hg
  have a3 := At.new w2 49 #[.int .i64 1, .int .i64 3, .slice (some ⟨g, 0, none⟩) 3 3]
  have b3 := below_new HB2.out HB2.out.size (o := .cells #[.int .i64 1, .int .i64 3, .slice (some ⟨g, 0, none⟩) 3 3] 49)
  have gl := HG.out
  have r3 := row_below HROW.out ((Below.refl w2.heap.size w2).alloc (Nat.le_refl _) (.cells #[.int .i64 1, .int .i64 3, .slice (some ⟨g, 0, none⟩) 3 3] 49)) (row_lt HROW.out)
  have z3 := HB2.out.size
  have g3 := row_lt HROW.out
  have A3 := Lib.hid a3
  have B3 := Lib.hid b3
  have R3 := Lib.hid r3
  clear a3 b3 r3
  go_wp2_with fail
  refine (phaseOf_ok _ _ (-2) 1 m2 one64 (by decide) (by decide) (by decide) _).mono ?_
  rintro e w3 ⟨rfl, hb3⟩
  rw [ph_awake]
  have a4 := A3.out.below hb3 (by simp)
  have r4 := row_below R3.out hb3 (by simp; omega)
  have b4 := B3.out.trans (hb3.mono (by simp; omega))
  have z4 := hb3.size
  simp at z4
  have A4 := Lib.hid a4
  have B4 := Lib.hid b4
  have R4 := Lib.hid r4
  clear a4 b4 r4 hb3 A3 B3 R3
  go_wp2_with fail
  have hq1 : Sl ((w3.alloc (.cells #[.int .i64 1, .int .i64 2] 3)).alloc (.cells #[.int .i64 3, .int .i64 4] 3)) (some ⟨w3.heap.size, 0, none⟩) 2 (ints (li [1, 2])) := sl_of_at ((At.new w3 3 #[.int .i64 1, .int .i64 2]).alloc _) (fun i hi => by match i, hi with | 0, _ | 1, _ => rfl)
  have hq2 : Sl ((w3.alloc (.cells #[.int .i64 1, .int .i64 2] 3)).alloc (.cells #[.int .i64 3, .int .i64 4] 3)) (some ⟨w3.heap.size + 1, 0, none⟩) 2 (ints (li [3, 4])) := sl_of_at (at_new (cs := #[.int .i64 3, .int .i64 4]) (by simp)) (fun i hi => by match i, hi with | 0, _ | 1, _ => rfl)
  refine (correlate_ok _ _ 2 2 2 (li [1, 2]) (li [3, 4]) _ hq1 hq2
    (fun i hi => by match i, hi with | 0, _ | 1, _ => decide) (fun i hi => by match i, hi with | 0, _ | 1, _ => decide) (by omega) (by omega) (by decide)).mono ?_
  rintro e w5 ⟨rfl, hrow5, hb5⟩
  simp only [World.size_alloc] at hrow5
  have b5 : Below w3.heap.size w3 w5 := (below_new (below_new (Below.refl _ _) (Nat.le_refl _)) (by simp)).trans (hb5.mono (by simp; omega))
  have a5 := A4.out.below b5 (by omega)
  have r5 := row_below R4.out b5 (by omega)
  have b6 := B4.out.trans (b5.mono (by omega))
  have z5 := b5.size
  have g5 := row_lt hrow5
  have A5 := Lib.hid a5
  have B5 := Lib.hid b6
  have R5 := Lib.hid r5
  have C5 := Lib.hid hrow5
  clear a5 b5 b6 r5 hb5 hrow5 A4 B4 R4
  go_wp2_with fail
  refine (image_any _ 1 2 4 4 (ls p2) _ (sl_of_at (At.new w5 _ fl2) fl2_at) (by omega)).mono ?_
  rintro e w6 ⟨v, rfl, himg, hb6⟩
  obtain ⟨A6, cp6, rfl, hs6⟩ := sl_of_img (n := 2) himg (by decide)
  have b6 : Below w5.heap.size w5 w6 := (below_new (Below.refl _ _) (Nat.le_refl _)).trans (hb6.mono (by simp))
  have a6 := A5.out.below b6 (by omega)
  have r6 := row_below R5.out b6 (by omega)
  have c6 := row_below C5.out b6 (by omega)
  have b7 := B5.out.trans (b6.mono (by omega))
  have z6 := b6.size
  have A7 := Lib.hid a6
  have B7 := Lib.hid b7
  have R7 := Lib.hid r6
  have C7 := Lib.hid c6
  have S6 := Lib.hid hs6
  clear a6 b6 b7 r6 c6 hb6 himg hs6 A5 B5 R5 C5
  go_wp2_with fail
  refine (print_ok A6 1 2 2 cp6 _ _ _ _ w6 S6.out wh2 (by omega) (by omega) rfl (Lib.tabBelow_of_tabIs HT.out w6 B7.out)).mono ?_
  rintro e w7 ⟨rfl, hb7⟩
  rw [text_awake]
  have a7 := A7.out.below hb7 (by omega)
  have r7 := row_below R7.out hb7 (by omega)
  have c7 := row_below C7.out hb7 (by omega)
  have b7 := B7.out.trans (hb7.mono (by omega))
  have z7 := hb7.size
  have A8 := Lib.hid a7
  have B8 := Lib.hid b7
  have R8 := Lib.hid r7
  have C8 := Lib.hid c7
  clear a7 b7 r7 c7 hb7 S6 A7 B7 R7 C7
  have k0 := A8.out.cell 0
  have k1 := A8.out.cell 1
  have k2 := A8.out.cell 2
  simp at k0 k1 k2
  have l8 := A8.out.lt
  go_wp2_with fail
  refine (sameField_ok (some ⟨g, 0, none⟩) (some ⟨w7.heap.size, 0, none⟩) 1 3 3 3 3 wRe wIm _ (sl_of_row (R8.out.alloc _) (by have := row_lt R8.out; simp; omega)) (sl_of_at (At.new w7 _ wantC) want_cells) (by omega)).mono ?_
  rintro e w8 ⟨rfl, hb8⟩
  have b8 : Below w7.heap.size w7 w8 := (below_new (Below.refl _ _) (Nat.le_refl _)).trans (hb8.mono (by simp))
  have c8 := row_below C8.out b8 (row_lt C8.out)
  have b9 := B8.out.trans (b8.mono (by omega))
  have z8 := b8.size
  have l9 := row_lt c8
  have B9 := Lib.hid b9
  have C9 := Lib.hid c8
  clear b8 c8 b9 hb8 A8 B8 R8 C8 k0 k1 k2 l8
  go_wp2_with fail
  have hq3 : Sl (w8.alloc (.cells #[.int .i64 11, .int .i64 10] 3)) (some ⟨w3.heap.size + 1 + 1, 0, none⟩) 2 (ints (li [11, 10])) := sl_of_row ((C9.out.alloc _).congr (fun i hi => by match i, hi with | 0, _ => exact congrArg (Value.int .i64) cor_awake.1 | 1, _ => exact congrArg (Value.int .i64) cor_awake.2)) (by simp; omega)
  have hq4 : Sl (w8.alloc (.cells #[.int .i64 11, .int .i64 10] 3)) (some ⟨w8.heap.size, 0, none⟩) 2 (ints (li [11, 10])) := sl_of_at (At.new w8 _ #[.int .i64 11, .int .i64 10]) (fun i hi => by match i, hi with | 0, _ | 1, _ => rfl)
  refine (ints_any _ _ 2 2 2 2 _ _ _ hq3 hq4 (by omega) (by omega)).mono ?_
  rw [show (decide (2 = 2) && eqI (li [11, 10]) (li [11, 10]) 2) = true from by decide]
  rintro e w9 ⟨rfl, hb9⟩
  have b10 : Below w.heap.size w w9 := (below_new B9.out B9.out.size).trans (hb9.mono (by have := B9.out.size; simp; omega))
  have B10 := Lib.hid b10
  clear b10 hb9 hq3 hq4 B9 C9
  go_wp2_with fail
  go_ret
  exact ⟨rfl, B10.out⟩
end Go.Proofs.YtdpoemhpmdahjaaDoor
