/- How an orbit reads as an argument, once more: a nil list of states has no room. -/
import Derived.Test.YtnaanninmkplfaaOop
import Derived.ProofKit
import Derived.Lib.SmallJoins
import Derived.Deep.Slices
import Derived.Deep.Fields
import Derived.ChangeSame
import Derived.Carry
import Derived.OpenShut
import Derived.Lib.Hide
namespace Go.Proofs.Ytnaanninmkplfaa
open Go.Joins Go.ChangeShapes Go.WideShapes Go.RowKit Go.Deep
set_option maxRecDepth 100000

section
variable {H : Type} {enc : TypeId × Value → H} {w : World} {base : Nat} {spare : Nat → Bool} {held : Bool}

theorem orbit_open2 {r : Reach} {b0 : Nat} {v : Value} {d : DataW H} {p : List MemPlace} (hv : Value.okWide Try.prog w r b0 24 v) (h : DataW.Trod enc Try.prog w base spare held 24 v d p) :
    ∃ (s : ByteArray) (b : Int) (A : Option Addr) (n c : Nat) (S : Nat → Nat → Int), v = .agg #[.string s, .int .i64 b, .slice A n c] ∧ s.size ≤ maxLen ∧ n ≤ c ∧ c ≤ maxLen ∧ I64 b ∧ St w A n S ∧ (∀ i, i < n → ∀ j, j < 5 → I64 (S i j)) ∧ (A = none → c = 0) := by
  obtain ⟨v0, v1, v2, y0, y1, y2, m, rfl, _, _, h0, h1, h2⟩ := open_agg3 Try.underlying24 (by kernel_rfl) (by kernel_rfl) hv h
  obtain ⟨s, e0, _, hs⟩ := DataW.trod_string Try.underlying9 h0
  obtain ⟨b, e1, _, w1⟩ := DataW.trod_int Try.underlying3 h1
  simp only [List.cons.injEq, and_true] at e0 e1
  subst e0 e1
  rcases open_slice Try.underlying22 h2 with ⟨e2, _⟩ | ⟨a, len, cap, k, n', D, Pl, e2, _, hl, hm, hk, _, hi⟩
  · simp only [List.cons.injEq, and_true] at e2
    subst e2
    exact ⟨s, b, none, 0, 0, fun _ _ => 0, rfl, hs, Nat.zero_le _, Nat.zero_le _, i64_of w1, fun hn => absurd hn (by omega), fun i hn => absurd hn (by omega), fun _ => rfl⟩
  · simp only [List.cons.injEq, and_true] at e2
    subst e2
    have c5 : Try.prog.cellsOf 56 = 5 := by kernel_rfl
    have hlk : len ≤ k := by rw [hk]; split <;> omega
    have each : ∀ i, i < len → ∃ f : Nat → Int, ∀ j, j < 5 → w.cell? (a.add (i * 5 + j)) = some (.int .i64 (f j)) ∧ I64 (f j) := fun i hil => by
      obtain ⟨cs', hc, ht⟩ := hi i (by omega)
      rw [c5] at hc
      obtain ⟨_, f, hf⟩ := state_ints ht
      obtain ⟨_, _, hat⟩ := World.cells?_some hc
      refine ⟨f, fun j hj => ⟨?_, (hf j hj).2⟩⟩
      rw [← Go.Deep.add_add, hat j hj]
      exact (hf j hj).1
    refine ⟨s, b, some a, len, cap, fun i => if h : i < len then Classical.choose (each i h) else fun _ => 0, rfl, hs, hl, hm, i64_of w1, fun hn => ?_, fun i hil j hj => ?_, fun e => by cases e⟩
    · obtain ⟨bk, off, spot⟩ := a
      have h00 := (Classical.choose_spec (each 0 hn) 0 (by omega)).1
      have hspot : spot = none := by simpa [Addr.add] using World.cell?_spot h00
      subst hspot
      refine ⟨bk, off, rfl, ?_, fun i hil j hj => ?_⟩
      · rcases Nat.lt_or_ge bk w.heap.size with g | g
        · exact g
        · have : w.heap[bk]? = none := Array.getElem?_eq_none g
          simp [World.cell?, Addr.add, this] at h00
      · have := (Classical.choose_spec (each i hil) j hj).1
        rw [Go.WideShapes.add_plain] at this
        simp only [dif_pos hil]
        exact this
    · simp only [dif_pos hil]
      exact (Classical.choose_spec (each i hil) j hj).2
end
end Go.Proofs.Ytnaanninmkplfaa
