/- Contracts: the reference's error of an orbit; which orbits are few; the orbit of the examples. -/
import Derived.Test.YtnaanninmkplfaaOro
namespace Go.Proofs.Ytnaanninmkplfaa
open Go.RowKit
set_option maxHeartbeats 400000
set_option maxRecDepth 100000

theorem refErr_any (s : ByteArray) (b : Int) (A : Option Addr) (n c : Nat) (S : Nat → Nat → Int) (w : World) (hS : St w A n S) (hs : s.size ≤ maxLen) (hn : n ≤ c) (hc : c ≤ maxLen) :
    Calls Try.prog 29 #[.agg #[.string s, .int .i64 b, .slice A n c]] w fun e w' => e = .returned (.int .i64 (oce (nmB s) b n S).2) ∧ Below w.heap.size w w' := by
  have HS := Lib.hid (hS.alloc (.cells #[.string s, .int .i64 b, .slice A n c] 24))
  have H1 := Lib.hid hs
  have H2 := Lib.hid hn
  have H3 := Lib.hid hc
  clear hS hs hn hc
  go_enter Try.func29, Try.ntmps29
  go_wp2_with fail
  refine (refCheckOrbit_any s b A n c S _ HS.out H1.out H2.out H3.out).mono ?_
  rintro e w1 ⟨rfl, hb1⟩
  have hB : Below w.heap.size w w1 := (below_new (Below.refl _ w) (Nat.le_refl _)).trans (hb1.mono (by simp))
  clear hb1
  go_wp2
  go_ret
  exact ⟨rfl, hB⟩

def fewB (s : ByteArray) (n : Nat) : Bool := decide ((s.size : Int) ≤ 30) && (decide ((n : Int) ≤ 6) || (decide ((40 : Int) < (n : Int)) && decide ((n : Int) ≤ 42)))
theorem few_any (s : ByteArray) (b : Int) (A : Option Addr) (n c : Nat) (w : World) :
    Calls Try.prog 17 #[.agg #[.string s, .int .i64 b, .slice A n c]] w fun e w' => e = .returned (.bool (fewB s n)) ∧ Below w.heap.size w w' := by
  have key : ∀ p q r t : Bool, decide ((s.size : Int) ≤ 30) = p → decide ((n : Int) ≤ 6) = q → decide ((40 : Int) < (n : Int)) = r → decide ((n : Int) ≤ 42) = t →
      Calls Try.prog 17 #[.agg #[.string s, .int .i64 b, .slice A n c]] w fun e w' => e = .returned (.bool (p && (q || (r && t)))) ∧ Below w.heap.size w w' := by
    intro p q r t h1 h2 h3 h4
    cases p <;> cases q <;> cases r <;> cases t
    all_goals
      go_enter Try.func17, Try.ntmps17
      go_wp2
      go_ret
      exact ⟨rfl, below_new (Below.refl _ w) (Nat.le_refl _)⟩
  exact key _ _ _ _ rfl rfl rfl rfl

/-- the states of the orbit of the examples -/
def pS (i j : Nat) : Int := ([[0, 0, 0, 100, 1], [10, 50, 20, 100, 3]].getD i []).getD j 0
def pN : ByteArray := { data := #[112] }
def PO (w : World) (e : Ending) (w' : World) : Prop := ∃ g, e = .returned (.agg #[.string pN, .int .i64 2, .slice (some ⟨g, 0, none⟩) 2 2]) ∧ St w' (some ⟨g, 0, none⟩) 2 pS ∧ Below w.heap.size w w'
theorem pass_any (w : World) : Calls Try.prog 69 #[] w (PO w) := by
  go_enter Try.func69, Try.ntmps69
  go_wp2
  have hA := at_new (w := w.alloc (.cells #[.string pN, .int .i64 2, .slice (some ⟨w.heap.size + 1, 0, none⟩) 2 2] 24)) (g := w.heap.size + 1) (t := 56)
    (cs := #[.int .i64 0, .int .i64 0, .int .i64 0, .int .i64 100, .int .i64 1, .int .i64 10, .int .i64 50, .int .i64 20, .int .i64 100, .int .i64 3]) (by simp)
  refine bodyPost_ret (v := .agg #[.string pN, .int .i64 2, .slice (some ⟨w.heap.size + 1, 0, none⟩) 2 2]) ?h1 rfl ⟨w.heap.size + 1, rfl, ?_, ?_⟩
  case h1 => simp [results, Try.results69, go_sem, pN]
  · refine fun _ => ⟨_, 0, rfl, hA.lt, fun i hi j hj => ?_⟩
    rw [Nat.zero_add]
    refine (hA.cell (i * 5 + j)).trans ?_
    match i, hi, j, hj with
    | 0, _, 0, _ => rfl
    | 0, _, 1, _ => rfl
    | 0, _, 2, _ => rfl
    | 0, _, 3, _ => rfl
    | 0, _, 4, _ => rfl
    | 1, _, 0, _ => rfl
    | 1, _, 1, _ => rfl
    | 1, _, 2, _ => rfl
    | 1, _, 3, _ => rfl
    | 1, _, 4, _ => rfl
  · exact below_new (below_new (Below.refl _ w) (Nat.le_refl _)) (by simp)
end Go.Proofs.Ytnaanninmkplfaa
