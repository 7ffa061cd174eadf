/-
  No cell of these rows narrows 'for every input' (looked for: loops, veiled, ifaces, maps, wideKeys, modest, calm, conditions, laid).
  DERIVED. THE GIVEN ROWS OF THIS SEAT. 3 by the template 'for every input the law returns true; each argument reads behind the call as it read before'; 0 by the template 'total and deterministic' (their statements: YtmglofemnobakaaTotals.lean).
  GIVEN WITH THE SEED: the statements are not yours to turn. If you find one false, say at which input.
  Laid BY PROGRAM, IN A SANDBOX (cutbox-rows.mjs): the forced cells as the released guide's own fill.sh prints them over the translation 761e6101490da56c… (all of the seat's roots in one cut). By AI agents, Wed Nov 11 2026. No macro, syntax, notation, axiom, sorry.
-/
import Derived.Test.YtmglofemnobakaaChecked
import GoSem.Claim
import GoSem.ClaimJoined
import GoSem.ClaimMapViews
import Derived.JoinedTies
import Derived.KernelRfl
namespace Go.Proofs.Ytmglofemnobakaa
/- THE CELL 'sum', in the pinned program and in every row, IS THE sha256 OF THE DUMP (.gsa) THAT YtmglofemnobakaaProg.lean LOADS. Nothing in Lean hashes anything: it is a label: what it is worth is what the hold of that sum in a sandbox is worth. -/
noncomputable def Try.pinned : Pinned := { name := "ytmglofemnobakaa", sum := "761e6101490da56c6b23baef887199057a33ab8b683752141f2991453404ab3f", checked := Try.checked }
namespace Rows
def none {H : Type} : Left H := { results := [], args := [] }

/-- 'swathlaw05.UnwrapTurns': WHATEVER THE INPUT: true; the input reads as it did. -/
def unwrapTurnsSpec : ChangeSpec := { name := "unwrapTurns", fn := fun _ => fun
  | [d1, d2, d3] => { results := [.lit (.bool true)], args := [d1, d2, d3] }
  | _ => none }
def unwrapTurnsRow : OpenClaim := { program := "ytmglofemnobakaa", sum := "761e6101490da56c6b23baef887199057a33ab8b683752141f2991453404ab3f", func := "swath/swathlaw05.UnwrapTurns", spec := "unwrapTurns", unfollowed := true, recurses := true, apart := false }
def UnwrapTurnsSaid : Prop := unwrapTurnsRow.holds Try.pinned (OpenSpec.ofChange unwrapTurnsSpec)

/-- ITS FALSE NEIGHBOUR: 'it returns false'. Refute it at one input. -/
def unwrapTurnsWrong : ChangeSpec := { name := "unwrapTurns", fn := fun _ => fun
  | [d1, d2, d3] => { results := [.lit (.bool false)], args := [d1, d2, d3] }
  | _ => none }
def UnwrapTurnsWrongFalsely : Prop := unwrapTurnsRow.holds Try.pinned (OpenSpec.ofChange unwrapTurnsWrong)

/-- 'swathlaw05.UnwrapFlows': WHATEVER THE INPUT: true; the input reads as it did. -/
def unwrapFlowsSpec : ChangeSpec := { name := "unwrapFlows", fn := fun _ => fun
  | [d1, d2] => { results := [.lit (.bool true)], args := [d1, d2] }
  | _ => none }
def unwrapFlowsRow : OpenClaim := { program := "ytmglofemnobakaa", sum := "761e6101490da56c6b23baef887199057a33ab8b683752141f2991453404ab3f", func := "swath/swathlaw05.UnwrapFlows", spec := "unwrapFlows", unfollowed := true, recurses := true, apart := false }
def UnwrapFlowsSaid : Prop := unwrapFlowsRow.holds Try.pinned (OpenSpec.ofChange unwrapFlowsSpec)

/-- ITS FALSE NEIGHBOUR: 'it returns false'. Refute it at one input. -/
def unwrapFlowsWrong : ChangeSpec := { name := "unwrapFlows", fn := fun _ => fun
  | [d1, d2] => { results := [.lit (.bool false)], args := [d1, d2] }
  | _ => none }
def UnwrapFlowsWrongFalsely : Prop := unwrapFlowsRow.holds Try.pinned (OpenSpec.ofChange unwrapFlowsWrong)

/-- 'swathlaw05.UnwrapAlong': WHATEVER THE INPUT: true; the input reads as it did. -/
def unwrapAlongSpec : ChangeSpec := { name := "unwrapAlong", fn := fun _ => fun
  | [d1, d2] => { results := [.lit (.bool true)], args := [d1, d2] }
  | _ => none }
def unwrapAlongRow : OpenClaim := { program := "ytmglofemnobakaa", sum := "761e6101490da56c6b23baef887199057a33ab8b683752141f2991453404ab3f", func := "swath/swathlaw05.UnwrapAlong", spec := "unwrapAlong", unfollowed := true, recurses := true, apart := false }
def UnwrapAlongSaid : Prop := unwrapAlongRow.holds Try.pinned (OpenSpec.ofChange unwrapAlongSpec)

/-- ITS FALSE NEIGHBOUR: 'it returns false'. Refute it at one input. -/
def unwrapAlongWrong : ChangeSpec := { name := "unwrapAlong", fn := fun _ => fun
  | [d1, d2] => { results := [.lit (.bool false)], args := [d1, d2] }
  | _ => none }
def UnwrapAlongWrongFalsely : Prop := unwrapAlongRow.holds Try.pinned (OpenSpec.ofChange unwrapAlongWrong)

/- THE SECOND FORM. 'bulk': how many values and letters a reading holds, each counted each time it is reached (what is shared counts as often as it is met; a slice's spare places count too). A statement '..UptoSaid' is the law's where the arguments, and the package variables that the reading takes, are together of bulk at most 1048576: NARROWER than '..Said'. Prove '..Said' where nothing that the law and all that it calls make is longer than what came in: it says more and counts as full. Else prove '..UptoSaid'. A law counts once. -/
mutual
def uptoBulk {H : Type} : DataW H → Nat
  | .lit (.string bytes) => bytes.length + 1
  | .lit _ => 1
  | .nil => 1
  | .ptr d => uptoBulk d + 1
  | .slice elems spare => uptoBulkAll elems + uptoBulkAll spare + 1
  | .agg parts => uptoBulkAll parts + 1
  | .iface _ d => uptoBulk d + 1
  | .map entries => uptoBulkEntries entries + 1
  | .held _ => 1
def uptoBulkAll {H : Type} : List (DataW H) → Nat
  | [] => 0
  | d :: r => uptoBulk d + uptoBulkAll r
def uptoBulkEntries {H : Type} : List (Lit × DataW H) → Nat
  | [] => 0
  | x :: r => uptoBulkEntry x + uptoBulkEntries r
def uptoBulkEntry {H : Type} : Lit × DataW H → Nat
  | (.string bytes, d) => bytes.length + uptoBulk d + 1
  | (_, d) => uptoBulk d + 1
 end
def uptoSmall : (H : Type) → List (DataW H) → Bool := fun _ ds => decide (uptoBulkAll ds ≤ 1048576)
def OpenSpec.upto (s : _root_.Go.ChangeSpec) : _root_.Go.OpenSpec := { _root_.Go.OpenSpec.ofChange s with cond := some uptoSmall }

/-- 'swathlaw05.UnwrapTurns', WHERE WHAT IT READS IS OF BULK AT MOST 1048576: true; the input reads as it did. -/
def unwrapTurnsUptoRow : OpenClaim := { program := "ytmglofemnobakaa", sum := "761e6101490da56c6b23baef887199057a33ab8b683752141f2991453404ab3f", func := "swath/swathlaw05.UnwrapTurns", spec := "unwrapTurns", unfollowed := true, recurses := true, apart := false, narrowed := true }
def UnwrapTurnsUptoSaid : Prop := unwrapTurnsUptoRow.holds Try.pinned (OpenSpec.upto unwrapTurnsSpec)

/-- 'swathlaw05.UnwrapFlows', WHERE WHAT IT READS IS OF BULK AT MOST 1048576: true; the input reads as it did. -/
def unwrapFlowsUptoRow : OpenClaim := { program := "ytmglofemnobakaa", sum := "761e6101490da56c6b23baef887199057a33ab8b683752141f2991453404ab3f", func := "swath/swathlaw05.UnwrapFlows", spec := "unwrapFlows", unfollowed := true, recurses := true, apart := false, narrowed := true }
def UnwrapFlowsUptoSaid : Prop := unwrapFlowsUptoRow.holds Try.pinned (OpenSpec.upto unwrapFlowsSpec)

/-- 'swathlaw05.UnwrapAlong', WHERE WHAT IT READS IS OF BULK AT MOST 1048576: true; the input reads as it did. -/
def unwrapAlongUptoRow : OpenClaim := { program := "ytmglofemnobakaa", sum := "761e6101490da56c6b23baef887199057a33ab8b683752141f2991453404ab3f", func := "swath/swathlaw05.UnwrapAlong", spec := "unwrapAlong", unfollowed := true, recurses := true, apart := false, narrowed := true }
def UnwrapAlongUptoSaid : Prop := unwrapAlongUptoRow.holds Try.pinned (OpenSpec.upto unwrapAlongSpec)

end Rows
end Go.Proofs.Ytmglofemnobakaa
