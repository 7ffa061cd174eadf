/-
  No cell of these rows narrows 'for every input' (looked for: loops, veiled, ifaces, maps, wideKeys, modest, calm, conditions, laid).
  DERIVED. THE GIVEN ROWS OF THIS SEAT. 3 by the template 'for every input the law returns true; each argument reads behind the call as it read before'; 0 by the template 'total and deterministic' (their statements: YtoaecfblpkgehaaTotals.lean).
  GIVEN WITH THE SEED: the statements are not yours to turn. If you find one false, say at which input.
  Laid BY PROGRAM, IN A SANDBOX (cutbox-rows.mjs): the forced cells as the released guide's own fill.sh prints them over the translation 3dd7ed7d03cd4e07… (all of the seat's roots in one cut). By AI agents, Wed Nov 11 2026. No macro, syntax, notation, axiom, sorry.
-/
import Derived.Test.YtoaecfblpkgehaaChecked
import GoSem.Claim
import GoSem.ClaimJoined
import GoSem.ClaimMapViews
import Derived.JoinedTies
import Derived.KernelRfl
namespace Go.Proofs.Ytoaecfblpkgehaa
/- THE CELL 'sum', in the pinned program and in every row, IS THE sha256 OF THE DUMP (.gsa) THAT YtoaecfblpkgehaaProg.lean LOADS. Nothing in Lean hashes anything: it is a label: what it is worth is what the hold of that sum in a sandbox is worth. -/
noncomputable def Try.pinned : Pinned := { name := "ytoaecfblpkgehaa", sum := "3dd7ed7d03cd4e070d54517213a99ab02294a29baaaf90d8603306895df88f3f", checked := Try.checked }
namespace Rows
def none {H : Type} : Left H := { results := [], args := [] }

/-- 'swathlaw03.MatchWeights': WHATEVER THE INPUT: true; the input reads as it did. -/
def matchWeightsSpec : ChangeSpec := { name := "matchWeights", fn := fun _ => fun
  | [d1, d2] => { results := [.lit (.bool true)], args := [d1, d2] }
  | _ => none }
def matchWeightsRow : OpenClaim := { program := "ytoaecfblpkgehaa", sum := "3dd7ed7d03cd4e070d54517213a99ab02294a29baaaf90d8603306895df88f3f", func := "swath/swathlaw03.MatchWeights", spec := "matchWeights", inPlace := ["math.archTrunc", "math.Float64bits", "math.Float64frombits", "math.archFloor", "math.Float32bits"], unfollowed := true, recurses := true, apart := false }
def MatchWeightsSaid : Prop := matchWeightsRow.holds Try.pinned (OpenSpec.ofChange matchWeightsSpec)

/-- ITS FALSE NEIGHBOUR: 'it returns false'. Refute it at one input. -/
def matchWeightsWrong : ChangeSpec := { name := "matchWeights", fn := fun _ => fun
  | [d1, d2] => { results := [.lit (.bool false)], args := [d1, d2] }
  | _ => none }
def MatchWeightsWrongFalsely : Prop := matchWeightsRow.holds Try.pinned (OpenSpec.ofChange matchWeightsWrong)

/-- 'swathlaw03.MatchShifts': WHATEVER THE INPUT: true; the input reads as it did. -/
def matchShiftsSpec : ChangeSpec := { name := "matchShifts", fn := fun _ => fun
  | [d1, d2, d3] => { results := [.lit (.bool true)], args := [d1, d2, d3] }
  | _ => none }
def matchShiftsRow : OpenClaim := { program := "ytoaecfblpkgehaa", sum := "3dd7ed7d03cd4e070d54517213a99ab02294a29baaaf90d8603306895df88f3f", func := "swath/swathlaw03.MatchShifts", spec := "matchShifts", inPlace := ["math.archTrunc", "math.Float64bits", "math.Float64frombits", "math.archFloor", "math.Float32bits"], unfollowed := true, recurses := true, apart := false }
def MatchShiftsSaid : Prop := matchShiftsRow.holds Try.pinned (OpenSpec.ofChange matchShiftsSpec)

/-- ITS FALSE NEIGHBOUR: 'it returns false'. Refute it at one input. -/
def matchShiftsWrong : ChangeSpec := { name := "matchShifts", fn := fun _ => fun
  | [d1, d2, d3] => { results := [.lit (.bool false)], args := [d1, d2, d3] }
  | _ => none }
def MatchShiftsWrongFalsely : Prop := matchShiftsRow.holds Try.pinned (OpenSpec.ofChange matchShiftsWrong)

/-- 'swathlaw03.MatchWindows': WHATEVER THE INPUT: true; the input reads as it did. -/
def matchWindowsSpec : ChangeSpec := { name := "matchWindows", fn := fun _ => fun
  | [d1, d2] => { results := [.lit (.bool true)], args := [d1, d2] }
  | _ => none }
def matchWindowsRow : OpenClaim := { program := "ytoaecfblpkgehaa", sum := "3dd7ed7d03cd4e070d54517213a99ab02294a29baaaf90d8603306895df88f3f", func := "swath/swathlaw03.MatchWindows", spec := "matchWindows", inPlace := ["math.archTrunc", "math.Float64bits", "math.Float64frombits", "math.archFloor", "math.Float32bits"], unfollowed := true, recurses := true, apart := false }
def MatchWindowsSaid : Prop := matchWindowsRow.holds Try.pinned (OpenSpec.ofChange matchWindowsSpec)

/-- ITS FALSE NEIGHBOUR: 'it returns false'. Refute it at one input. -/
def matchWindowsWrong : ChangeSpec := { name := "matchWindows", fn := fun _ => fun
  | [d1, d2] => { results := [.lit (.bool false)], args := [d1, d2] }
  | _ => none }
def MatchWindowsWrongFalsely : Prop := matchWindowsRow.holds Try.pinned (OpenSpec.ofChange matchWindowsWrong)

/- THE SECOND FORM. 'bulk': how many values and letters a reading holds, each counted each time it is reached (what is shared counts as often as it is met; a slice's spare places count too). A statement '..UptoSaid' is the law's where the arguments, and the package variables that the reading takes, are together of bulk at most 1048576: NARROWER than '..Said'. Prove '..Said' where nothing that the law and all that it calls make is longer than what came in: it says more and counts as full. Else prove '..UptoSaid'. A law counts once. -/
mutual
def uptoBulk {H : Type} : DataW H → Nat
  | .lit (.string bytes) => bytes.length + 1
  | .lit _ => 1
  | .nil => 1
  | .ptr d => uptoBulk d + 1
  | .slice elems spare => uptoBulkAll elems + uptoBulkAll spare + 1
  | .agg parts => uptoBulkAll parts + 1
  | .iface _ d => uptoBulk d + 1
  | .map entries => uptoBulkEntries entries + 1
  | .held _ => 1
def uptoBulkAll {H : Type} : List (DataW H) → Nat
  | [] => 0
  | d :: r => uptoBulk d + uptoBulkAll r
def uptoBulkEntries {H : Type} : List (Lit × DataW H) → Nat
  | [] => 0
  | x :: r => uptoBulkEntry x + uptoBulkEntries r
def uptoBulkEntry {H : Type} : Lit × DataW H → Nat
  | (.string bytes, d) => bytes.length + uptoBulk d + 1
  | (_, d) => uptoBulk d + 1
 end
def uptoSmall : (H : Type) → List (DataW H) → Bool := fun _ ds => decide (uptoBulkAll ds ≤ 1048576)
def OpenSpec.upto (s : _root_.Go.ChangeSpec) : _root_.Go.OpenSpec := { _root_.Go.OpenSpec.ofChange s with cond := some uptoSmall }

/-- 'swathlaw03.MatchWeights', WHERE WHAT IT READS IS OF BULK AT MOST 1048576: true; the input reads as it did. -/
def matchWeightsUptoRow : OpenClaim := { program := "ytoaecfblpkgehaa", sum := "3dd7ed7d03cd4e070d54517213a99ab02294a29baaaf90d8603306895df88f3f", func := "swath/swathlaw03.MatchWeights", spec := "matchWeights", inPlace := ["math.archTrunc", "math.Float64bits", "math.Float64frombits", "math.archFloor", "math.Float32bits"], unfollowed := true, recurses := true, apart := false, narrowed := true }
def MatchWeightsUptoSaid : Prop := matchWeightsUptoRow.holds Try.pinned (OpenSpec.upto matchWeightsSpec)

/-- 'swathlaw03.MatchShifts', WHERE WHAT IT READS IS OF BULK AT MOST 1048576: true; the input reads as it did. -/
def matchShiftsUptoRow : OpenClaim := { program := "ytoaecfblpkgehaa", sum := "3dd7ed7d03cd4e070d54517213a99ab02294a29baaaf90d8603306895df88f3f", func := "swath/swathlaw03.MatchShifts", spec := "matchShifts", inPlace := ["math.archTrunc", "math.Float64bits", "math.Float64frombits", "math.archFloor", "math.Float32bits"], unfollowed := true, recurses := true, apart := false, narrowed := true }
def MatchShiftsUptoSaid : Prop := matchShiftsUptoRow.holds Try.pinned (OpenSpec.upto matchShiftsSpec)

/-- 'swathlaw03.MatchWindows', WHERE WHAT IT READS IS OF BULK AT MOST 1048576: true; the input reads as it did. -/
def matchWindowsUptoRow : OpenClaim := { program := "ytoaecfblpkgehaa", sum := "3dd7ed7d03cd4e070d54517213a99ab02294a29baaaf90d8603306895df88f3f", func := "swath/swathlaw03.MatchWindows", spec := "matchWindows", inPlace := ["math.archTrunc", "math.Float64bits", "math.Float64frombits", "math.archFloor", "math.Float32bits"], unfollowed := true, recurses := true, apart := false, narrowed := true }
def MatchWindowsUptoSaid : Prop := matchWindowsUptoRow.holds Try.pinned (OpenSpec.upto matchWindowsSpec)

end Rows
end Go.Proofs.Ytoaecfblpkgehaa
