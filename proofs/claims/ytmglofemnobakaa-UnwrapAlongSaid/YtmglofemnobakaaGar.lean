/- Arguments: how any type of ints, truths, texts, and slices of rows of ints reads as an argument. One word for all such types. -/
import Derived.Test.YtmglofemnobakaaGen
import Derived.Test.YtmglofemnobakaaSyr
namespace Go.Proofs.Ytmglofemnobakaa
open Go.Joins Go.ChangeShapes Go.WideShapes Go.RowKit Go.Deep
set_option maxRecDepth 100000

/-- a cell: an int, a truth, a text, a slice of rows of so many ints -/
inductive CK where
  | int
  | bool
  | str
  | rows (sz : Nat)
  deriving DecidableEq
def ckInt : CK → Bool
  | .int => true
  | _ => false
def shapeFs (P : Program) (F : TypeId → Option (List CK)) : Nat → List Field → Option (List CK)
  | _, [] => some []
  | off, f :: fs =>
    match F f.type with
    | some l => match Nat.beq f.offset off && Nat.beq (P.cellsOf f.type) l.length with
      | true => match shapeFs P F (off + l.length) fs with | some r => some (l ++ r) | none => none
      | false => none
    | none => none
def repCK (l : List CK) : Nat → List CK
  | 0 => []
  | .succ n => l ++ repCK l n
def shape (P : Program) : Nat → TypeId → Option (List CK)
  | 0, _ => none
  | .succ k, t =>
    match P.underlying t with
    | some (.int .i64) => some [.int]
    | some .bool => some [.bool]
    | some .string => some [.str]
    | some (.slice e) => match shape P k e with
      | some l => match l.all ckInt && Nat.beq (P.cellsOf e) l.length && Nat.blt 0 l.length with | true => some [.rows l.length] | false => none
      | none => none
    | some (.array n e) => match shape P k e with
      | some l => match Nat.beq (P.cellsOf e) l.length with | true => some (repCK l n) | false => none
      | none => none
    | some (.struct fs) => shapeFs P (shape P k) 0 fs.toList
    | _ => none

/-- what came in as a cell -/
def CellOk (w : World) : CK → Value → Prop
  | .int, v => ∃ z, v = .int .i64 z ∧ I64 z
  | .bool, v => ∃ b, v = .bool b
  | .str, v => ∃ s : ByteArray, v = .string s ∧ s.size ≤ maxLen
  | .rows sz, v => ∃ A n c F, v = .slice A n c ∧ RowR w A (n * sz) F ∧ n ≤ c ∧ c ≤ maxLen ∧ (∀ j : Nat, j < n * sz → I64 (F j)) ∧ (A = none → c = 0)
def CellsOk (w : World) (l : List CK) (cs : List Value) : Prop := ∀ (j : Nat) (k : CK), l[j]? = some k → ∃ v, cs[j]? = some v ∧ CellOk w k v

theorem cellsOk_app {w : World} {l r : List CK} {cs : List Value} (h1 : CellsOk w l (cs.take l.length)) (h2 : CellsOk w r (cs.drop l.length)) : CellsOk w (l ++ r) cs := fun j k hj => by
  rcases Nat.lt_or_ge j l.length with g | g
  · rw [List.getElem?_append_left g] at hj
    obtain ⟨v, e, hv⟩ := h1 j k hj
    rw [List.getElem?_take, if_pos g] at e
    exact ⟨v, e, hv⟩
  · rw [List.getElem?_append_right g] at hj
    obtain ⟨v, e, hv⟩ := h2 (j - l.length) k hj
    rw [List.getElem?_drop, show l.length + (j - l.length) = j by omega] at e
    exact ⟨v, e, hv⟩

section
variable {H : Type} {enc : TypeId × Value → H} {w : World} {base : Nat} {spare : Nat → Bool} {held : Bool} {P : Program}

theorem shape_fs {F : TypeId → Option (List CK)} {cs : List Value} : ∀ (fs : List Field) (off : Nat) (l : List CK), shapeFs P F off fs = some l →
    (∀ f ∈ fs, ∀ l, F f.type = some l → CellsOk w l ((cs.drop f.offset).take (P.cellsOf f.type))) → CellsOk w l (cs.drop off)
  | [], off, l, he, _ => by
    simp only [shapeFs, Option.some.injEq] at he
    subst he
    intro j k hj
    simp at hj
  | f :: fs, off, l, he, hF => by
    simp only [shapeFs] at he
    split at he
    · rename_i l0 h0
      split at he
      · rename_i hq
        simp only [Bool.and_eq_true] at hq
        have q1 := Nat.eq_of_beq_eq_true hq.1
        have q2 := Nat.eq_of_beq_eq_true hq.2
        split at he
        · rename_i r hr
          cases he
          refine cellsOk_app ?_ ?_
          · have := hF f (List.mem_cons_self) l0 h0
            rw [q1, q2] at this
            exact this
          · rw [List.drop_drop]
            exact shape_fs fs _ r hr fun g hg => hF g (List.mem_cons_of_mem _ hg)
        · cases he
      · cases he
    · cases he
theorem shape_rep {l : List CK} {cs : List Value} : ∀ (n off : Nat), (∀ i, i < n → CellsOk w l ((cs.drop (off + i * l.length)).take l.length)) → CellsOk w (repCK l n) (cs.drop off)
  | 0, off, _ => by
    intro j k hj
    simp [repCK] at hj
  | n + 1, off, h => by
    simp only [repCK]
    refine cellsOk_app ?_ ?_
    · have := h 0 (by omega)
      simpa using this
    · rw [List.drop_drop]
      refine shape_rep n _ fun i hi => ?_
      have := h (i + 1) (by omega)
      rw [show off + l.length + i * l.length = off + (i + 1) * l.length by rw [Nat.add_mul]; omega]
      exact this

theorem all_ints {l : List CK} {cs : List Value} (hl : l.all ckInt = true) (h : CellsOk w l cs) : ∃ f : Nat → Int, ∀ j, j < l.length → cs[j]? = some (.int .i64 (f j)) ∧ I64 (f j) := by
  have each : ∀ j, j < l.length → ∃ z, cs[j]? = some (.int .i64 z) ∧ I64 z := fun j hj => by
    obtain ⟨v, e, hv⟩ := h j l[j] (List.getElem?_eq_getElem hj)
    have hk := List.all_eq_true.1 hl l[j] (List.getElem_mem hj)
    cases hc : l[j] <;> rw [hc] at hk hv <;> simp [ckInt] at hk
    obtain ⟨z, rfl, hz⟩ := hv
    exact ⟨z, e, hz⟩
  refine ⟨fun j => if h : j < l.length then Classical.choose (each j h) else 0, fun j hj => ?_⟩
  simp only [dif_pos hj]
  exact Classical.choose_spec (each j hj)

theorem shape_ok : ∀ (k : Nat) (t : TypeId) (l : List CK) (fuel : Nat) (cs : List Value) (x : DataW H × List MemPlace), shape P k t = some l → DataW.trod enc P w base spare held fuel t cs = some x → CellsOk w l cs
  | 0, _, _, _, _, _, he, _ => by cases he
  | k + 1, t, l, fuel, cs, x, he, h => by
    simp only [shape] at he
    split at he
    · rename_i hu
      cases he
      obtain ⟨n, rfl, _, hw⟩ := DataW.trod_int hu h
      intro j q hj
      match j with
      | 0 => cases hj; exact ⟨_, rfl, n, rfl, i64_of hw⟩
      | j + 1 => simp at hj
    · rename_i hu
      cases he
      obtain ⟨b, rfl, _⟩ := DataW.trod_bool hu h
      intro j q hj
      match j with
      | 0 => cases hj; exact ⟨_, rfl, b, rfl⟩
      | j + 1 => simp at hj
    · rename_i hu
      cases he
      obtain ⟨s, rfl, _, hs⟩ := DataW.trod_string hu h
      intro j q hj
      match j with
      | 0 => cases hj; exact ⟨_, rfl, s, rfl, hs⟩
      | j + 1 => simp at hj
    · rename_i e hu
      split at he
      · rename_i l0 h0
        split at he
        · rename_i hq
          cases he
          simp only [Bool.and_eq_true] at hq
          obtain ⟨⟨q1, q2⟩, q3⟩ := hq
          have c5 := Nat.eq_of_beq_eq_true q2
          have q3 : 0 < l0.length := Nat.le_of_ble_eq_true q3
          generalize hz : l0.length = sz at c5 q3
          intro j q hj
          match j with
          | j + 1 => simp at hj
          | 0 =>
            cases hj
            rcases open_slice hu h with ⟨e2, _⟩ | ⟨a, len, cap, kk, n', D, Pl, e2, _, hl, hm, hk, _, hi⟩
            · subst e2
              exact ⟨_, rfl, none, 0, 0, fun _ => 0, rfl, fun hp => absurd hp (by simp), Nat.le_refl _, Nat.zero_le _, fun j hj => absurd hj (by simp), fun _ => rfl⟩
            · subst e2
              have hlk : len ≤ kk := by rw [hk]; split <;> omega
              have each : ∀ i, i < len → ∃ f : Nat → Int, ∀ j, j < sz → w.cell? (a.add (i * sz + j)) = some (.int .i64 (f j)) ∧ I64 (f j) := fun i hil => by
                obtain ⟨cs', hc, ht⟩ := hi i (by omega)
                rw [c5] at hc
                obtain ⟨f, hf⟩ := all_ints q1 (shape_ok k e l0 _ _ _ h0 ht)
                rw [hz] at hf
                obtain ⟨_, _, hat⟩ := World.cells?_some hc
                refine ⟨f, fun j hj => ⟨?_, (hf j hj).2⟩⟩
                rw [← Go.Deep.add_add, hat j hj]
                exact (hf j hj).1
              let G : Nat → Nat → Int := fun i => if h : i < len then Classical.choose (each i h) else fun _ => 0
              have hG : ∀ i, i < len → ∀ j, j < sz → w.cell? (a.add (i * sz + j)) = some (.int .i64 (G i j)) ∧ I64 (G i j) := fun i hil j hj => by
                have := Classical.choose_spec (each i hil) j hj
                simp only [G, dif_pos hil]
                exact this
              have hF : ∀ j : Nat, j < len * sz → w.cell? (a.add j) = some (.int .i64 (G (j / sz) (j % sz))) ∧ I64 (G (j / sz) (j % sz)) := fun j hj => by
                have h1 : j / sz < len := Nat.div_lt_of_lt_mul (by rw [Nat.mul_comm]; exact hj)
                have h2 : j % sz < sz := Nat.mod_lt _ q3
                have := hG _ h1 _ h2
                rw [show j / sz * sz + j % sz = j by rw [Nat.mul_comm]; exact Nat.div_add_mod j sz] at this
                exact this
              refine ⟨_, rfl, some a, len, cap, fun z => G (z.toNat / sz) (z.toNat % sz), rfl, fun hp => ?_, hl, hm, fun j hj => ?_, fun e => by cases e⟩
              · obtain ⟨bk, off, spot⟩ := a
                have h00 := (hF 0 hp).1
                have hspot : spot = none := by simpa [Addr.add] using World.cell?_spot h00
                subst hspot
                refine ⟨bk, off, rfl, ?_, fun j hj => ?_⟩
                · rcases Nat.lt_or_ge bk w.heap.size with g | g
                  · exact g
                  · have : w.heap[bk]? = none := Array.getElem?_eq_none g
                    simp [World.cell?, Addr.add, this] at h00
                · have := (hF j hj).1
                  rw [Go.WideShapes.add_plain] at this
                  simpa using this
              · simpa using (hF j hj).2
        · cases he
      · cases he
    · rename_i n e hu
      split at he
      · rename_i l0 h0
        split at he
        · rename_i hq
          cases he
          have c5 := Nat.eq_of_beq_eq_true hq
          obtain ⟨xs, m, _, _, hl, hxs, hg⟩ := DataW.trod_array hu h
          have := shape_rep (w := w) (l := l0) (cs := cs) n 0 fun i hi => by
            have hgi := hg i hi
            rw [c5] at hgi
            rw [Nat.zero_add]
            have : i < xs.length := by omega
            rw [List.getElem?_eq_getElem this] at hgi
            exact shape_ok k e l0 _ _ _ h0 hgi
          simpa using this
        · cases he
      · cases he
    · rename_i fs hu
      obtain ⟨xs, m, _, _, hl, hxs, hg⟩ := DataW.trod_struct hu h
      have := shape_fs (w := w) (cs := cs) fs.toList 0 l he fun f hf l0 h0 => by
        obtain ⟨i, hi, e⟩ := List.mem_iff_getElem.1 hf
        have hfi : fs[i]? = some f := by rw [← Array.getElem?_toList, List.getElem?_eq_getElem hi, e]
        have hgi := hg i f hfi
        have : i < xs.length := by
          have : i < fs.size := by simpa using hi
          omega
        rw [List.getElem?_eq_getElem this] at hgi
        exact shape_ok k f.type l0 _ _ _ h0 hgi
      simpa using this
    · cases he

/-- an argument of one cell -/
def aggT (P : Program) (t : TypeId) : Bool :=
  match P.underlying t with
  | some (.struct _) => true
  | some (.array _ _) => true
  | _ => false
theorem one_arg {r : Reach} {b0 : Nat} {t : TypeId} {v : Value} {d : DataW H} {p : List MemPlace} {c : CK} (hs : shape P 9 t = some [c]) (ha : aggT P t = false) (hv : Value.okWide P w r b0 t v) (h : DataW.Trod enc P w base spare held t v d p) : CellOk w c v := by
  obtain ⟨fuel, hf⟩ := h
  obtain ⟨u, e, hu⟩ := shape_ok _ _ _ _ _ _ hs hf 0 c rfl
  have : v.cells = #[v] := by
    simp only [shape] at hs
    unfold aggT at ha
    split at hs
    · rename_i hq; obtain ⟨n, rfl⟩ := okWide_int hq hv; rfl
    · rename_i hq
      simp only [Value.okWide, hq, Cell.okWide] at hv
      cases v <;> first | rfl | simp [Cell.ok] at hv
    · rename_i hq; obtain ⟨n, rfl⟩ := okWide_string hq hv; rfl
    · rename_i hq; obtain ⟨a, n, c, rfl⟩ := okWide_slice hq hv; rfl
    · rename_i hq; rw [hq] at ha; cases ha
    · rename_i hq; rw [hq] at ha; cases ha
    · cases hs
  rw [this] at e
  cases e
  exact hu
/-- an argument of many -/
def CellsL (w : World) : List CK → List Value → Prop
  | [], xs => xs = []
  | k :: l, xs => ∃ y ys, xs = y :: ys ∧ CellOk w k y ∧ CellsL w l ys
theorem cellsL_of {w : World} : ∀ {l : List CK} {xs : List Value}, xs.length = l.length → CellsOk w l xs → CellsL w l xs
  | [], xs, hl, _ => List.length_eq_zero_iff.1 hl
  | k :: l, [], hl, _ => by simp at hl
  | k :: l, x :: xs, hl, h => by
    obtain ⟨v, e, hv⟩ := h 0 k rfl
    cases e
    exact ⟨x, xs, rfl, hv, cellsL_of (by simpa using hl) fun j q hj => by simpa using h (j + 1) q (by simpa using hj)⟩
theorem agg_arg {r : Reach} {b0 : Nat} {t : TypeId} {v : Value} {d : DataW H} {p : List MemPlace} {l : List CK} (hs : shape P 9 t = some l) (ha : aggT P t = true) (hc : P.cellsOf t = l.length) (hv : Value.okWide P w r b0 t v) (h : DataW.Trod enc P w base spare held t v d p) :
    ∃ a : Array Value, v = .agg a ∧ CellsL w l a.toList := by
  have hq : ∃ a, v = .agg a ∧ a.size = P.cellsOf t := by
    unfold aggT at ha
    unfold Value.okWide at hv
    split at hv
    · obtain ⟨a, h1, h2, _⟩ := hv; exact ⟨a, h1, h2⟩
    · obtain ⟨a, h1, h2, _⟩ := hv; exact ⟨a, h1, h2⟩
    · rename_i g1 g2
      exfalso
      split at ha
      · rename_i fs hu; exact g1 fs hu
      · rename_i n e hu; exact g2 n e hu
      · cases ha
  obtain ⟨a, rfl, hsz⟩ := hq
  obtain ⟨fuel, hf⟩ := h
  have := shape_ok _ _ _ _ _ _ hs hf
  exact ⟨a, rfl, cellsL_of (by simp [hsz, hc]) this⟩
end
/-- a row read as rows of four, as a list -/
theorem row_flat4 {w : World} {A : Option Addr} {n : Nat} {F : Int → Int} (h : RowR w A n F) : RowR w A n (flat4 fun i j => F ((i * 4 + j : Nat) : Int)) := fun hn => by
  obtain ⟨b, off, e, hl, hc⟩ := h hn
  refine ⟨b, off, e, hl, fun j hj => (hc j hj).trans ?_⟩
  unfold flat4
  show _ = some (Value.int .i64 (F (((j : Int).toNat / 4 * 4 + (j : Int).toNat % 4 : Nat) : Int)))
  rw [show (j : Int).toNat / 4 * 4 + (j : Int).toNat % 4 = j by omega]
theorem row_list {w : World} {A : Option Addr} {n : Nat} {F : Int → Int} (h : RowR w A n F) : RowR w A n fun j => F (j.toNat : Int) := fun hn => by
  obtain ⟨b, off, e, hl, hc⟩ := h hn
  exact ⟨b, off, e, hl, fun j hj => (hc j hj).trans (by simp)⟩
end Go.Proofs.Ytmglofemnobakaa
