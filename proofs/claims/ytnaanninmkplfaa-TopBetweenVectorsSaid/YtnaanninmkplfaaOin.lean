/- What is known of what came in: an orbit; pairs of numbers. -/
import Derived.Test.YtnaanninmkplfaaOaw
import Derived.Test.YtnaanninmkplfaaOcp
import Derived.Test.YtnaanninmkplfaaOoq
import Derived.Test.YtnaanninmkplfaaOrf
import Derived.Test.YtnaanninmkplfaaOno
namespace Go.Proofs.Ytnaanninmkplfaa
open Go.Joins Go.ChangeShapes Go.WideShapes Go.RowKit Go.Deep
set_option maxRecDepth 100000

/-- what is known of an orbit that came in -/
def OrbIn (w : World) (s : ByteArray) (b : Int) (A : Option Addr) (n c : Nat) (S : Nat → Nat → Int) : Prop := s.size ≤ maxLen ∧ n ≤ c ∧ c ≤ maxLen ∧ I64 b ∧ St w A n S ∧ (∀ i, i < n → ∀ j, j < 5 → I64 (S i j)) ∧ (A = none → c = 0)

theorem few_size {s : ByteArray} {n : Nat} (h : fewB s n = true) : n ≤ 42 := by
  unfold fewB at h
  rw [Bool.and_eq_true, Bool.or_eq_true, Bool.and_eq_true] at h
  rcases h.2 with g | ⟨_, g⟩
  · have := of_decide_eq_true g
    omega
  · have := of_decide_eq_true g
    omega

/-- a conditional that a law's end needs: the walk's worlds, one below the other -/
theorem below_two {a b c : World} (h : Below a.heap.size a b) (g : Below b.heap.size b c) : Below a.heap.size a c := h.trans (g.mono h.size)
end Go.Proofs.Ytnaanninmkplfaa
