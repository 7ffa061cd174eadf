/- Fringe: the examples with which each law begins: reckoned (strings.Join is known). -/
import Derived.Test.YtgkmogjcfkmmlaaGreatDoorProg
import Derived.Test.YtgkmogjcfkmmlaaGreatDoorEvs
import Derived.Test.YtgkmogjcfkmmlaaGreatDoorJsh
namespace Go.Proofs.YtgkmogjcfkmmlaaGreatDoor
open Go.RowKit
set_option maxRecDepth 100000

def isTrue (r : Option (RV × RH)) : Bool :=
  match r with
  | some (.pl (.bool true), _) => true
  | _ => false
theorem isTrue_some {r : Option (RV × RH)} (h : isTrue r = true) : ∃ h', r = some (.pl (.bool true), h') := by
  unfold isTrue at h
  split at h
  · exact ⟨_, rfl⟩
  · cases h
theorem join_known : KOk Tryz.prog (joinK 69) := joinK_ok fun bk o c xs sep w h1 h2 h3 h4 h5 => Tryz.strings_Join bk o c xs sep w h1 h2 h3 h4 h5
theorem awake_reckoned : isTrue ((evK Tryz.prog (joinK 69) 3000).call 7 [] h0) = true := by decide +kernel
theorem awake_ok (w : World) : Calls Tryz.prog 7 #[] w fun e w' => e = .returned (.bool true) ∧ Below w.heap.size w w' :=
  (closedK (by kernel_rfl) join_known (args := []) (xs := []) rfl (isTrue_some awake_reckoned) w).mono fun e w' ⟨⟨v, he, hv⟩, hb⟩ => ⟨by rw [he, hv _ rfl], hb⟩
end Go.Proofs.YtgkmogjcfkmmlaaGreatDoor
