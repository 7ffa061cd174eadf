/- MatchWeights at each right kernel and part: reckoned. -/
import Derived.Test.YtoaecfblpkgehaaEvs
import Derived.Test.YtoaecfblpkgehaaEvm
namespace Go.Proofs.Ytoaecfblpkgehaa
open Go.RowKit
set_option maxRecDepth 100000

noncomputable def weightsAt (k p : Nat) : Bool := isTrue ((evT Try.prog 6 3000).call 3 [.pl (.int .i64 k), .pl (.int .i64 p)] h0)
theorem weights0 : ((List.range 16).all fun p => weightsAt 0 p) = true := by decide +kernel
theorem weights1 : ((List.range 16).all fun p => weightsAt 1 p) = true := by decide +kernel
theorem weights2 : ((List.range 16).all fun p => weightsAt 2 p) = true := by decide +kernel
theorem weights_right {k p : Nat} (hk : k ≤ 2) (hp : p ≤ 15) (w : World) :
    Calls Try.prog 3 #[.int .i64 k, .int .i64 p] w fun e w' => e = .returned (.bool true) ∧ Below w.heap.size w w' := by
  have h : weightsAt k p = true := by
    have hm : p ∈ List.range 16 := List.mem_range.2 (by omega)
    have h3 : k = 0 ∨ k = 1 ∨ k = 2 := by omega
    rcases h3 with rfl | rfl | rfl
    · exact List.all_eq_true.1 weights0 p hm
    · exact List.all_eq_true.1 weights1 p hm
    · exact List.all_eq_true.1 weights2 p hm
  exact (closedT (by kernel_rfl) awake_ok (args := [.pl (.int .i64 k), .pl (.int .i64 p)]) (xs := [.int .i64 k, .int .i64 p]) rfl (isTrue_some h) w).mono fun e w' ⟨⟨v, he, hv⟩, hb⟩ => ⟨by rw [he, hv _ rfl], hb⟩
end Go.Proofs.Ytoaecfblpkgehaa
