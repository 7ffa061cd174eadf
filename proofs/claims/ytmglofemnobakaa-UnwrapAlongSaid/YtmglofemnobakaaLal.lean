/- The law: the phases along a path, or the errors, are as specified. -/
import Derived.Test.YtmglofemnobakaaLae
import Derived.Test.YtmglofemnobakaaLaz
import Derived.Test.YtmglofemnobakaaLar
import Derived.Test.YtmglofemnobakaaGar
namespace Go.Proofs.Ytmglofemnobakaa
open Go.RowKit
theorem along_law {W : World} (R : Int) (_ : I64 R) (C : Int) (_ : I64 C) (A : Option Addr) (n c : Nat) (F : Int → Int) (hS : RowR W A (n * 1) F) (hc : n ≤ c) (mc : c ≤ maxLen) (_ : ∀ j : Nat, j < n * 1 → I64 (F j)) (_ : A = none → c = 0)
    (B : Option Addr) (m d : Nat) (G : Int → Int) (hT : RowR W B (m * 1) G) (hd : m ≤ d) (_ : d ≤ maxLen) (_ : ∀ j : Nat, j < m * 1 → I64 (G j)) (_ : B = none → d = 0) :
    Calls Try.prog 5 #[.agg #[.int .i64 R, .int .i64 C, .slice A n c], .slice B m d] W fun e w' => e = .returned (.bool true) ∧ Below W.heap.size W w' := by
  rw [Nat.mul_one] at hS hT
  have h1 := row_list hS
  have h2 := row_list hT
  have hn : n ≤ 9223372036854775807 := by have h : maxLen = 9223372036854775807 := rfl; omega
  by_cases he : aErr R C n (fun i => F (i : Int)) m (fun i => G (i : Int)) = 0
  · rcases Nat.eq_zero_or_pos m with h0 | h0
    · exact along_nil R C A B n c m d (fun i => F (i : Int)) (fun i => G (i : Int)) W h1 h2 hc hd hn he h0
    · exact along_row R C A B n c m d (fun i => F (i : Int)) (fun i => G (i : Int)) W h1 h2 hc hd hn he h0
  · exact along_err R C A B n c m d (fun i => F (i : Int)) (fun i => G (i : Int)) W h1 h2 hc hd hn he
end Go.Proofs.Ytmglofemnobakaa
