/- Plain facts on the marks between which phases are found: roots of the sums of squares, rounded down, by the float's own root; all 1023 marks by reckoning. -/
import Derived.Test.YtdpoemhpmdahjaaDoorFlo
namespace Go.Proofs.YtdpoemhpmdahjaaDoor

abbrev Mk := Int × Int × Int

def rootF (n : Int) : Int := ((FloatKind.f64.format.sqrt (F .f64 n)).bind fun r => floatToIntVal .f64 r .i64).getD 0

def rootOK (n : Int) : Bool := match FloatKind.f64.format.sqrt (F .f64 n) with
  | some r => (match floatToIntVal .f64 r .i64 with
    | some q => decide (1 ≤ q) && decide (q * q ≤ n) && decide (n < (q + 1) * (q + 1))
    | none => false)
  | none => false

theorem rootOK_spec {n : Int} (h : rootOK n = true) : ∃ r, FloatKind.f64.format.sqrt (F .f64 n) = some r ∧ floatToIntVal .f64 r .i64 = some (rootF n) ∧ 1 ≤ rootF n ∧ rootF n * rootF n ≤ n ∧ n < (rootF n + 1) * (rootF n + 1) := by
  unfold rootOK at h
  unfold rootF
  split at h
  · rename_i r hr
    split at h
    · rename_i q hq
      simp only [Bool.and_eq_true, decide_eq_true_eq] at h
      refine ⟨r, hr, ?_⟩
      simp only [hr, Option.bind_some, hq, Option.getD_some]
      exact ⟨trivial, h.1.1, h.1.2, h.2⟩
    · cases h
  · cases h

def sqM (a b : Mk) : Int := (a.2.1 + b.2.1) * (a.2.1 + b.2.1) + (a.2.2 + b.2.2) * (a.2.2 + b.2.2)
def midM (a b : Mk) : Mk := ((a.1 + b.1) / 2, (a.2.1 + b.2.1) * 16777216 / rootF (sqM a b), (a.2.2 + b.2.2) * 16777216 / rootF (sqM a b))

def okMk (a : Mk) : Bool := decide (0 ≤ a.1) && decide (a.1 ≤ 1024) && decide (0 ≤ a.2.1) && decide (a.2.1 ≤ 16777216) && decide (0 ≤ a.2.2) && decide (a.2.2 ≤ 16777216)
  && decide (281474842492944 ≤ a.2.1 * a.2.1 + a.2.2 * a.2.2) && decide (a.2.1 * a.2.1 + a.2.2 * a.2.2 ≤ 281475010265089)

def tree : Nat → Mk → Mk → Bool
  | 0, a, b => okMk a && okMk b && decide (b.1 = a.1 + 1) && decide (a.2.2 * b.2.1 < a.2.1 * b.2.2)
  | k + 1, a, b => okMk a && okMk b && decide (b.1 = a.1 + 2 ^ (k + 1)) && rootOK (sqM a b) && tree k a (midM a b) && tree k (midM a b) b

def m0 : Mk := (0, 16777216, 0)
def m1 : Mk := (1024, 11863283, 11863283)

theorem tree_all : tree 10 m0 m1 = true := by decide +kernel
theorem root_side : rootOK 140737488355328 = true ∧ rootF 140737488355328 = 11863283 := by decide +kernel
end Go.Proofs.YtdpoemhpmdahjaaDoor
