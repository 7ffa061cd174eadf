/-
  DERIVED. GIVEN WITH THE SEED: THE CARDS: each row of YtgkmogjcfkmmlaaGreatDoorRows.lean that lists a variable, with what it lists TIED to the program's text (the seventh form; the later family's looks); each row that meets fmt, with fmt's text TOLD by the authors' own Lean function (tested against real Go, not proved from fmt's source: count such statements apart). THE CARD IS WHAT COUNTS. Prove the row's statement (the work); the ties are given (YtgkmogjcfkmmlaaGreatDoorTie.lean); close each card by the builder's one call (the guide's Derived/Test/ToyasCard.lean, 'card_holds'). Laid BY PROGRAM, IN A SANDBOX (cutbox-door.mjs). By AI agents, Wed Nov 11 2026. No macro, syntax, notation, axiom, sorry.
-/
import Derived.Test.YtgkmogjcfkmmlaaGreatDoorRows
import GoSem.ClaimSeven
namespace Go.Proofs.YtgkmogjcfkmmlaaGreatDoor
namespace Rows

/-- THE TIED CARD OF 'swathlaw04.FringeSquares'. -/
def fringeSquaresCard : Claim7 := { stood := { row := fringeSquaresRow, standIns := [], harness := (true, "dc54b11e61346af0fd3db13dca1c0b7e8ac8e75c6e34dee8af1a5b2e8efb556e"), looks := false }, kinds := [], alts := [], laidByText := true, laidKinds := [.data, .data, .data], laidTests := true, laidLooks := .later }
def FringeSquaresCardSaid : Prop := Claim7.holds Tryz.pinned (.plain (OpenSpec.ofChange fringeSquaresSpec)) fringeSquaresCard

/-- THE TIED CARD OF 'swathlaw04.FringeSteps'. -/
def fringeStepsCard : Claim7 := { stood := { row := fringeStepsRow, standIns := [], harness := (true, "dc54b11e61346af0fd3db13dca1c0b7e8ac8e75c6e34dee8af1a5b2e8efb556e"), looks := false }, kinds := [], alts := [], laidByText := true, laidKinds := [.data, .data, .data], laidTests := true, laidLooks := .later }
def FringeStepsCardSaid : Prop := Claim7.holds Tryz.pinned (.plain (OpenSpec.ofChange fringeStepsSpec)) fringeStepsCard

/-- THE TIED CARD OF 'swathlaw04.FringeCombines'. -/
def fringeCombinesCard : Claim7 := { stood := { row := fringeCombinesRow, standIns := [], harness := (true, "dc54b11e61346af0fd3db13dca1c0b7e8ac8e75c6e34dee8af1a5b2e8efb556e"), looks := false }, kinds := [], alts := [], laidByText := true, laidKinds := [.data, .data, .data], laidTests := true, laidLooks := .later }
def FringeCombinesCardSaid : Prop := Claim7.holds Tryz.pinned (.plain (OpenSpec.ofChange fringeCombinesSpec)) fringeCombinesCard

/-- THE TIED CARD OF 'swathlaw04.FringeModels'. -/
def fringeModelsCard : Claim7 := { stood := { row := fringeModelsRow, standIns := [], harness := (true, "dc54b11e61346af0fd3db13dca1c0b7e8ac8e75c6e34dee8af1a5b2e8efb556e"), looks := false }, kinds := [], alts := [], laidByText := true, laidKinds := [.data, .data, .data], laidTests := true, laidLooks := .later }
def FringeModelsCardSaid : Prop := Claim7.holds Tryz.pinned (.plain (OpenSpec.ofChange fringeModelsSpec)) fringeModelsCard

/-- THE SECOND FORM's CARD OF 'swathlaw04.FringeSquares'. -/
def fringeSquaresUptoCard : Claim7 := { stood := { row := fringeSquaresUptoRow, standIns := [], harness := (true, "dc54b11e61346af0fd3db13dca1c0b7e8ac8e75c6e34dee8af1a5b2e8efb556e"), looks := false }, kinds := [], alts := [], laidByText := true, laidKinds := [.data, .data, .data], laidTests := true, laidLooks := .later }
def FringeSquaresUptoCardSaid : Prop := Claim7.holds Tryz.pinned (.plain (OpenSpec.upto fringeSquaresSpec)) fringeSquaresUptoCard

/-- THE SECOND FORM's CARD OF 'swathlaw04.FringeSteps'. -/
def fringeStepsUptoCard : Claim7 := { stood := { row := fringeStepsUptoRow, standIns := [], harness := (true, "dc54b11e61346af0fd3db13dca1c0b7e8ac8e75c6e34dee8af1a5b2e8efb556e"), looks := false }, kinds := [], alts := [], laidByText := true, laidKinds := [.data, .data, .data], laidTests := true, laidLooks := .later }
def FringeStepsUptoCardSaid : Prop := Claim7.holds Tryz.pinned (.plain (OpenSpec.upto fringeStepsSpec)) fringeStepsUptoCard

/-- THE SECOND FORM's CARD OF 'swathlaw04.FringeCombines'. -/
def fringeCombinesUptoCard : Claim7 := { stood := { row := fringeCombinesUptoRow, standIns := [], harness := (true, "dc54b11e61346af0fd3db13dca1c0b7e8ac8e75c6e34dee8af1a5b2e8efb556e"), looks := false }, kinds := [], alts := [], laidByText := true, laidKinds := [.data, .data, .data], laidTests := true, laidLooks := .later }
def FringeCombinesUptoCardSaid : Prop := Claim7.holds Tryz.pinned (.plain (OpenSpec.upto fringeCombinesSpec)) fringeCombinesUptoCard

/-- THE SECOND FORM's CARD OF 'swathlaw04.FringeModels'. -/
def fringeModelsUptoCard : Claim7 := { stood := { row := fringeModelsUptoRow, standIns := [], harness := (true, "dc54b11e61346af0fd3db13dca1c0b7e8ac8e75c6e34dee8af1a5b2e8efb556e"), looks := false }, kinds := [], alts := [], laidByText := true, laidKinds := [.data, .data, .data], laidTests := true, laidLooks := .later }
def FringeModelsUptoCardSaid : Prop := Claim7.holds Tryz.pinned (.plain (OpenSpec.upto fringeModelsSpec)) fringeModelsUptoCard
end Rows
end Go.Proofs.YtgkmogjcfkmmlaaGreatDoor
