/- The examples with which each law begins: reckoned. -/
import Derived.Test.YtmglofemnobakaaProg
import Derived.Test.YtmglofemnobakaaEvn
namespace Go.Proofs.Ytmglofemnobakaa
open Go.RowKit
set_option maxRecDepth 100000

def isTrue (r : Option (RV × RH)) : Bool :=
  match r with
  | some (.pl (.bool true), _) => true
  | _ => false
theorem isTrue_some {r : Option (RV × RH)} (h : isTrue r = true) : ∃ h', r = some (.pl (.bool true), h') := by
  unfold isTrue at h
  split at h
  · exact ⟨_, rfl⟩
  · cases h
theorem awake_reckoned : isTrue ((ev Try.prog 3000).call 6 [] h0) = true := by decide +kernel
theorem awake_ok (w : World) : Calls Try.prog 6 #[] w fun e w' => e = .returned (.bool true) ∧ Below w.heap.size w w' :=
  (closed (by kernel_rfl) (args := []) (xs := []) rfl (isTrue_some awake_reckoned) w).mono fun e w' ⟨⟨v, he, hv⟩, hb⟩ => ⟨by rw [he, hv _ rfl], hb⟩
#print axioms awake_ok
end Go.Proofs.Ytmglofemnobakaa
