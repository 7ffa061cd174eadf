/- How an orbit, a place, a state reads as an argument: its numbers, and its states in memory. -/
import Derived.Test.YtnaanninmkplfaaOer
import Derived.Test.YtnaanninmkplfaaRows
import Derived.ProofKit
import Derived.Lib.SmallJoins
import Derived.Deep.Slices
import Derived.Deep.Fields
import Derived.ChangeSame
import Derived.Carry
import Derived.OpenShut
import Derived.Lib.Hide
namespace Go.Proofs.Ytnaanninmkplfaa
open Go.Joins Go.ChangeShapes Go.WideShapes Go.RowKit Go.Deep
set_option maxRecDepth 100000

/-- a number that fits an int -/
def I64 (x : Int) : Prop := -9223372036854775808 ≤ x ∧ x ≤ 9223372036854775807
/-- n states in memory, five numbers each -/
def St (w : World) (A : Option Addr) (n : Nat) (S : Nat → Nat → Int) : Prop :=
  0 < n → ∃ b off, A = some ⟨b, off, none⟩ ∧ b < w.heap.size ∧ ∀ i, i < n → ∀ j, j < 5 → w.cell? ⟨b, off + (i * 5 + j), none⟩ = some (.int .i64 (S i j))
theorem St.below {w w' : World} {A : Option Addr} {n : Nat} {S : Nat → Nat → Int} (h : St w A n S) (hb : Below w.heap.size w w') : St w' A n S := fun hn => by
  obtain ⟨b, off, e, hl, hc⟩ := h hn
  exact ⟨b, off, e, Nat.lt_of_lt_of_le hl hb.size, fun i hi j hj => (hb.cell (p := ⟨b, _, none⟩) hl).trans (hc i hi j hj)⟩
theorem St.alloc {w : World} {A : Option Addr} {n : Nat} {S : Nat → Nat → Int} (h : St w A n S) (o : Obj) : St (w.alloc o) A n S := h.below ((Below.refl _ _).alloc (Nat.le_refl _) o)

section
variable {H : Type} {enc : TypeId × Value → H} {w : World} {base : Nat} {spare : Nat → Bool} {held : Bool}

theorem i64_of {x : Int} (h : (Lit.int .i64 x).wf = true) : I64 x := bounds_i64 h

theorem place_open {r : Reach} {b0 : Nat} {v : Value} {d : DataW H} {p : List MemPlace} (hv : Value.okWide Try.prog w r b0 42 v) (h : DataW.Trod enc Try.prog w base spare held 42 v d p) :
    ∃ x y z : Int, v = .agg #[.int .i64 x, .int .i64 y, .int .i64 z] ∧ I64 x ∧ I64 y ∧ I64 z := by
  obtain ⟨v0, v1, v2, y0, y1, y2, m, rfl, _, _, h0, h1, h2⟩ := open_agg3 Try.underlying42 (by kernel_rfl) (by kernel_rfl) hv h
  obtain ⟨x, e0, _, w0⟩ := DataW.trod_int Try.underlying3 h0
  obtain ⟨y, e1, _, w1⟩ := DataW.trod_int Try.underlying3 h1
  obtain ⟨z, e2, _, w2⟩ := DataW.trod_int Try.underlying3 h2
  simp only [List.cons.injEq, and_true] at e0 e1 e2
  subst e0 e1 e2
  exact ⟨x, y, z, rfl, i64_of w0, i64_of w1, i64_of w2⟩

theorem state_ints {fuel : Nat} {cs : List Value} {x : DataW H × List MemPlace} (h : DataW.trod enc Try.prog w base spare held fuel 56 cs = some x) :
    cs.length = 5 ∧ ∃ f : Nat → Int, ∀ j, j < 5 → cs[j]? = some (.int .i64 (f j)) ∧ I64 (f j) := by
  obtain ⟨xs, m, _, _, hl, hxs, hg⟩ := DataW.trod_struct Try.underlying56 h
  have c5 : Try.prog.cellsOf 56 = 5 := by kernel_rfl
  have c1 : Try.prog.cellsOf 3 = 1 := by kernel_rfl
  have c3 : Try.prog.cellsOf 42 = 3 := by kernel_rfl
  rw [c5] at hl
  have n3 : xs.length = 3 := hxs
  match cs, hl with
  | [a, b, c, d, e], _ =>
    match xs, n3 with
    | [y0, y1, y2], _ =>
      have g0 := hg 0 _ rfl
      have g1 := hg 1 _ rfl
      have g2 := hg 2 _ rfl
      have g0 : DataW.trod enc Try.prog w base spare held m 3 (([a, b, c, d, e].drop 0).take (Try.prog.cellsOf 3)) = some y0 := g0
      have g1 : DataW.trod enc Try.prog w base spare held m 42 (([a, b, c, d, e].drop 1).take (Try.prog.cellsOf 42)) = some y1 := g1
      have g2 : DataW.trod enc Try.prog w base spare held m 3 (([a, b, c, d, e].drop 4).take (Try.prog.cellsOf 3)) = some y2 := g2
      rw [c1] at g0 g2
      rw [c3] at g1
      obtain ⟨n0, e0, _, w0⟩ := DataW.trod_int Try.underlying3 g0
      obtain ⟨n2, e2, _, w2⟩ := DataW.trod_int Try.underlying3 g2
      obtain ⟨xs', m', _, _, _, hxs', hg'⟩ := DataW.trod_struct Try.underlying42 g1
      have n3' : xs'.length = 3 := hxs'
      match xs', n3' with
      | [z0, z1, z2], _ =>
        have k0 : DataW.trod enc Try.prog w base spare held m' 3 (([b, c, d].drop 0).take (Try.prog.cellsOf 3)) = some z0 := hg' 0 _ rfl
        have k1 : DataW.trod enc Try.prog w base spare held m' 3 (([b, c, d].drop 1).take (Try.prog.cellsOf 3)) = some z1 := hg' 1 _ rfl
        have k2 : DataW.trod enc Try.prog w base spare held m' 3 (([b, c, d].drop 2).take (Try.prog.cellsOf 3)) = some z2 := hg' 2 _ rfl
        rw [c1] at k0 k1 k2
        obtain ⟨p0, f0, _, v0⟩ := DataW.trod_int Try.underlying3 k0
        obtain ⟨p1, f1, _, v1⟩ := DataW.trod_int Try.underlying3 k1
        obtain ⟨p2, f2, _, v2⟩ := DataW.trod_int Try.underlying3 k2
        simp only [List.drop, List.take, List.cons.injEq, and_true] at e0 e2 f0 f1 f2
        subst e0 e2 f0 f1 f2
        refine ⟨rfl, fun j => [n0, p0, p1, p2, n2].getD j 0, fun j hj => ?_⟩
        match j, hj with
        | 0, _ => exact ⟨rfl, i64_of w0⟩
        | 1, _ => exact ⟨rfl, i64_of v0⟩
        | 2, _ => exact ⟨rfl, i64_of v1⟩
        | 3, _ => exact ⟨rfl, i64_of v2⟩
        | 4, _ => exact ⟨rfl, i64_of w2⟩

theorem orbit_open {r : Reach} {b0 : Nat} {v : Value} {d : DataW H} {p : List MemPlace} (hv : Value.okWide Try.prog w r b0 24 v) (h : DataW.Trod enc Try.prog w base spare held 24 v d p) :
    ∃ (s : ByteArray) (b : Int) (A : Option Addr) (n c : Nat) (S : Nat → Nat → Int), v = .agg #[.string s, .int .i64 b, .slice A n c] ∧ s.size ≤ maxLen ∧ n ≤ c ∧ c ≤ maxLen ∧ I64 b ∧ St w A n S ∧ ∀ i, i < n → ∀ j, j < 5 → I64 (S i j) := by
  obtain ⟨v0, v1, v2, y0, y1, y2, m, rfl, _, _, h0, h1, h2⟩ := open_agg3 Try.underlying24 (by kernel_rfl) (by kernel_rfl) hv h
  obtain ⟨s, e0, _, hs⟩ := DataW.trod_string Try.underlying9 h0
  obtain ⟨b, e1, _, w1⟩ := DataW.trod_int Try.underlying3 h1
  simp only [List.cons.injEq, and_true] at e0 e1
  subst e0 e1
  rcases open_slice Try.underlying22 h2 with ⟨e2, _⟩ | ⟨a, len, cap, k, n', D, Pl, e2, _, hl, hm, hk, _, hi⟩
  · simp only [List.cons.injEq, and_true] at e2
    subst e2
    exact ⟨s, b, none, 0, 0, fun _ _ => 0, rfl, hs, Nat.zero_le _, Nat.zero_le _, i64_of w1, fun hn => absurd hn (by omega), fun i hn => absurd hn (by omega)⟩
  · simp only [List.cons.injEq, and_true] at e2
    subst e2
    have c5 : Try.prog.cellsOf 56 = 5 := by kernel_rfl
    have hlk : len ≤ k := by rw [hk]; split <;> omega
    have each : ∀ i, i < len → ∃ f : Nat → Int, ∀ j, j < 5 → w.cell? (a.add (i * 5 + j)) = some (.int .i64 (f j)) ∧ I64 (f j) := fun i hil => by
      obtain ⟨cs', hc, ht⟩ := hi i (by omega)
      rw [c5] at hc
      obtain ⟨_, f, hf⟩ := state_ints ht
      obtain ⟨_, _, hat⟩ := World.cells?_some hc
      refine ⟨f, fun j hj => ⟨?_, (hf j hj).2⟩⟩
      rw [← Go.Deep.add_add, hat j hj]
      exact (hf j hj).1
    refine ⟨s, b, some a, len, cap, fun i => if h : i < len then Classical.choose (each i h) else fun _ => 0, rfl, hs, hl, hm, i64_of w1, fun hn => ?_, fun i hil j hj => ?_⟩
    · obtain ⟨bk, off, spot⟩ := a
      have h00 := (Classical.choose_spec (each 0 hn) 0 (by omega)).1
      have hspot : spot = none := by simpa [Addr.add] using World.cell?_spot h00
      subst hspot
      refine ⟨bk, off, rfl, ?_, fun i hil j hj => ?_⟩
      · rcases Nat.lt_or_ge bk w.heap.size with g | g
        · exact g
        · have : w.heap[bk]? = none := Array.getElem?_eq_none g
          simp [World.cell?, Addr.add, this] at h00
      · have := (Classical.choose_spec (each i hil) j hj).1
        rw [Go.WideShapes.add_plain] at this
        simp only [dif_pos hil]
        exact this
    · simp only [dif_pos hil]
      exact (Classical.choose_spec (each i hil) j hj).2
end
end Go.Proofs.Ytnaanninmkplfaa
