/- Lists of arrays of three numbers in memory; how such a list, and one such array, read as arguments. -/
import Derived.Test.YtnaanninmkplfaaOen
import Derived.Test.YtnaanninmkplfaaOoq
import Derived.Laws.IdiomArrays
namespace Go.Proofs.Ytnaanninmkplfaa
open Go.ChangeShapes Go.WideShapes Go.ChangeAt Go.RowKit Go.Joins Go.Deep
set_option maxRecDepth 100000

/-- parts in memory -/
def Pt (w : World) (A : Option Addr) (m : Nat) (Q : Nat → Nat → Int) : Prop :=
  0 < m → ∃ b off, A = some ⟨b, off, none⟩ ∧ b < w.heap.size ∧ ∀ i, i < m → ∀ j, j < 3 → w.cell? ⟨b, off + (i * 3 + j), none⟩ = some (.int .i64 (Q i j))
theorem Pt.below {w w' : World} {A : Option Addr} {n : Nat} {S : Nat → Nat → Int} (h : Pt w A n S) (hb : Below w.heap.size w w') : Pt w' A n S := fun hn => by
  obtain ⟨b, off, e, hl, hc⟩ := h hn
  exact ⟨b, off, e, Nat.lt_of_lt_of_le hl hb.size, fun i hi j hj => (hb.cell (p := ⟨b, _, none⟩) hl).trans (hc i hi j hj)⟩
variable {H : Type} {enc : TypeId × Value → H} {w : World} {base : Nat} {spare : Nat → Bool} {held : Bool}

theorem three_ints {fuel : Nat} {cs : List Value} {x : DataW H × List MemPlace} (h : DataW.trod enc Try.prog w base spare held fuel 84 cs = some x) :
    ∃ f : Nat → Int, ∀ j, j < 3 → cs[j]? = some (.int .i64 (f j)) := by
  obtain ⟨_, _, _, _, hl, _, _⟩ := DataW.trod_array Try.underlying84 h
  have c3 : Try.prog.cellsOf 84 = 3 := by kernel_rfl
  rw [c3] at hl
  match cs, hl with
  | [a, b, c], _ =>
    obtain ⟨y0, y1, y2, m, _, h0, h1, h2⟩ := trod_array3 Try.underlying84 (by kernel_rfl) h
    obtain ⟨n0, e0, _, _⟩ := DataW.trod_int Try.underlying3 h0
    obtain ⟨n1, e1, _, _⟩ := DataW.trod_int Try.underlying3 h1
    obtain ⟨n2, e2, _, _⟩ := DataW.trod_int Try.underlying3 h2
    simp only [List.cons.injEq, and_true] at e0 e1 e2
    subst e0 e1 e2
    refine ⟨fun j => [n0, n1, n2].getD j 0, fun j hj => ?_⟩
    match j, hj with
    | 0, _ => rfl
    | 1, _ => rfl
    | 2, _ => rfl

theorem parts_open {fuel : Nat} {v : Value} {x : DataW H × List MemPlace} (h2 : DataW.trod enc Try.prog w base spare held fuel 81 [v] = some x) :
    ∃ (A : Option Addr) (m cm : Nat) (Q : Nat → Nat → Int), v = .slice A m cm ∧ Pt w A m Q ∧ m ≤ cm ∧ cm ≤ maxLen := by
  rcases open_slice Try.underlying81 h2 with ⟨e2, _⟩ | ⟨a, len, cap, k, n', D, Pl, e2, _, hl, hm, hk, _, hi⟩
  · simp only [List.cons.injEq, and_true] at e2
    subst e2
    exact ⟨none, 0, 0, fun _ _ => 0, rfl, fun hn => absurd hn (by omega), Nat.le_refl _, Nat.zero_le _⟩
  · simp only [List.cons.injEq, and_true] at e2
    subst e2
    have c3 : Try.prog.cellsOf 84 = 3 := by kernel_rfl
    have hlk : len ≤ k := by rw [hk]; split <;> omega
    have each : ∀ i, i < len → ∃ f : Nat → Int, ∀ j, j < 3 → w.cell? (a.add (i * 3 + j)) = some (.int .i64 (f j)) := fun i hil => by
      obtain ⟨cs', hc, ht⟩ := hi i (by omega)
      rw [c3] at hc
      obtain ⟨f, hf⟩ := three_ints ht
      obtain ⟨_, _, hat⟩ := World.cells?_some hc
      refine ⟨f, fun j hj => ?_⟩
      rw [← Go.Deep.add_add, hat j hj]
      exact hf j hj
    refine ⟨some a, len, cap, fun i => if h : i < len then Classical.choose (each i h) else fun _ => 0, rfl, fun hn => ?_, hl, hm⟩
    obtain ⟨bk, off, spot⟩ := a
    have h00 := Classical.choose_spec (each 0 hn) 0 (by omega)
    have hspot : spot = none := by simpa [Addr.add] using World.cell?_spot h00
    subst hspot
    refine ⟨bk, off, rfl, ?_, fun i hil j hj => ?_⟩
    · rcases Nat.lt_or_ge bk w.heap.size with g | g
      · exact g
      · have : w.heap[bk]? = none := Array.getElem?_eq_none g
        simp [World.cell?, Addr.add, this] at h00
    · have := Classical.choose_spec (each i hil) j hj
      rw [Go.WideShapes.add_plain] at this
      simp only [dif_pos hil]
      exact this

theorem parts_arg {r : Reach} {b0 : Nat} {v : Value} {d : DataW H} {p : List MemPlace} (hv : Value.okWide Try.prog w r b0 81 v) (h : DataW.Trod enc Try.prog w base spare held 81 v d p) :
    ∃ (A : Option Addr) (m cm : Nat) (Q : Nat → Nat → Int), v = .slice A m cm ∧ Pt w A m Q ∧ m ≤ cm ∧ cm ≤ maxLen := by
  obtain ⟨a, len, cap, rfl⟩ := okWide_slice Try.underlying81 hv
  obtain ⟨fuel, hf⟩ := h
  have hf : DataW.trod enc Try.prog w base spare held fuel 81 [.slice a len cap] = some (d, p) := by simpa [Value.cells] using hf
  exact parts_open hf

theorem three_arg {r : Reach} {b0 : Nat} {v : Value} {d : DataW H} {p : List MemPlace} (hv : Value.okWide Try.prog w r b0 84 v) (h : DataW.Trod enc Try.prog w base spare held 84 v d p) :
    ∃ x y z : Int, v = .agg #[.int .i64 x, .int .i64 y, .int .i64 z] ∧ I64 x ∧ I64 y ∧ I64 z := by
  have hs : ∃ cs, v = .agg cs ∧ cs.size = 3 := by
    simp only [Value.okWide, Try.underlying84] at hv
    obtain ⟨cs, h1, h2, _⟩ := hv
    exact ⟨cs, h1, h2.trans (by kernel_rfl)⟩
  obtain ⟨cs, rfl, hsz⟩ := hs
  obtain ⟨q0, q1, q2, rfl⟩ := array3 hsz
  obtain ⟨fuel, hf⟩ := h
  have hf : DataW.trod enc Try.prog w base spare held fuel 84 [q0, q1, q2] = some (d, p) := by simpa [Value.cells] using hf
  obtain ⟨y0, y1, y2, m, _, h0, h1, h2⟩ := trod_array3 Try.underlying84 (by kernel_rfl) hf
  obtain ⟨n0, e0, _, w0⟩ := DataW.trod_int Try.underlying3 h0
  obtain ⟨n1, e1, _, w1⟩ := DataW.trod_int Try.underlying3 h1
  obtain ⟨n2, e2, _, w2⟩ := DataW.trod_int Try.underlying3 h2
  simp only [List.cons.injEq, and_true] at e0 e1 e2
  subst e0 e1 e2
  exact ⟨_, _, _, rfl, i64_of w0, i64_of w1, i64_of w2⟩
end Go.Proofs.Ytnaanninmkplfaa
