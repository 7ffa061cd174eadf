/-
  DERIVED. GIVEN WITH THE SEED: THE CARDS: each row of YtdpoemhpmdahjaaDoorRows.lean that lists a variable, with what it lists TIED to the program's text (the seventh form; the later family's looks); each row that meets fmt, with fmt's text TOLD by the authors' own Lean function (tested against real Go, not proved from fmt's source: count such statements apart). THE CARD IS WHAT COUNTS. Prove the row's statement (the work); the ties are given (YtdpoemhpmdahjaaDoorTie.lean); close each card by the builder's one call (the guide's Derived/Test/ToyasCard.lean, 'card_holds'). Laid BY PROGRAM, IN A SANDBOX (cutbox-door.mjs). By AI agents, Wed Nov 11 2026. No macro, syntax, notation, axiom, sorry.
-/
import Derived.Test.YtdpoemhpmdahjaaDoorRows
import GoSem.ClaimSeven
namespace Go.Proofs.YtdpoemhpmdahjaaDoor
namespace Rows

/-- THE TIED CARD OF 'swathlaw01.EchoImages'. -/
def echoImagesCard : Claim7 := { stood := { row := echoImagesRow, standIns := [], harness := (true, "7d1e9242c4af53f26b34b95ef0fb6b2e620fcb9fd33e1b710cd0dbc6da5892d0"), looks := false }, kinds := [], alts := [], laidByText := true, laidKinds := [.data, .data, .data], laidTests := true, laidLooks := .later }
def EchoImagesCardSaid : Prop := Claim7.holds Tryd.pinned (.plain (OpenSpec.ofChange echoImagesSpec)) echoImagesCard

/-- THE TIED CARD OF 'swathlaw01.EchoFields'. -/
def echoFieldsCard : Claim7 := { stood := { row := echoFieldsRow, standIns := [], harness := (true, "7d1e9242c4af53f26b34b95ef0fb6b2e620fcb9fd33e1b710cd0dbc6da5892d0"), looks := false }, kinds := [], alts := [], laidByText := true, laidKinds := [.data, .data, .data], laidTests := true, laidLooks := .later }
def EchoFieldsCardSaid : Prop := Claim7.holds Tryd.pinned (.plain (OpenSpec.ofChange echoFieldsSpec)) echoFieldsCard

/-- THE TIED CARD OF 'swathlaw01.EchoCompresses'. -/
def echoCompressesCard : Claim7 := { stood := { row := echoCompressesRow, standIns := [], harness := (true, "7d1e9242c4af53f26b34b95ef0fb6b2e620fcb9fd33e1b710cd0dbc6da5892d0"), looks := false }, kinds := [], alts := [], laidByText := true, laidKinds := [.data, .data, .data], laidTests := true, laidLooks := .later }
def EchoCompressesCardSaid : Prop := Claim7.holds Tryd.pinned (.plain (OpenSpec.ofChange echoCompressesSpec)) echoCompressesCard

/-- THE TIED CARD OF 'swathlaw01.EchoFocuses'. -/
def echoFocusesCard : Claim7 := { stood := { row := echoFocusesRow, standIns := [], harness := (true, "7d1e9242c4af53f26b34b95ef0fb6b2e620fcb9fd33e1b710cd0dbc6da5892d0"), looks := false }, kinds := [], alts := [], laidByText := true, laidKinds := [.data, .data, .data], laidTests := true, laidLooks := .later }
def EchoFocusesCardSaid : Prop := Claim7.holds Tryd.pinned (.plain (OpenSpec.ofChange echoFocusesSpec)) echoFocusesCard

/-- THE TIED CARD OF 'swathlaw01.EchoTransforms'. -/
def echoTransformsCard : Claim7 := { stood := { row := echoTransformsRow, standIns := [], harness := (true, "7d1e9242c4af53f26b34b95ef0fb6b2e620fcb9fd33e1b710cd0dbc6da5892d0"), looks := false }, kinds := [], alts := [], laidByText := true, laidKinds := [.data, .data, .data], laidTests := true, laidLooks := .later }
def EchoTransformsCardSaid : Prop := Claim7.holds Tryd.pinned (.plain (OpenSpec.ofChange echoTransformsSpec)) echoTransformsCard

/-- THE TIED CARD OF 'swathlaw01.EchoCorrelates'. -/
def echoCorrelatesCard : Claim7 := { stood := { row := echoCorrelatesRow, standIns := [], harness := (true, "7d1e9242c4af53f26b34b95ef0fb6b2e620fcb9fd33e1b710cd0dbc6da5892d0"), looks := false }, kinds := [], alts := [], laidByText := true, laidKinds := [.data, .data, .data], laidTests := true, laidLooks := .later }
def EchoCorrelatesCardSaid : Prop := Claim7.holds Tryd.pinned (.plain (OpenSpec.ofChange echoCorrelatesSpec)) echoCorrelatesCard

/-- THE TIED CARD OF 'swathlaw01.EchoDirections'. -/
def echoDirectionsCard : Claim7 := { stood := { row := echoDirectionsRow, standIns := [], harness := (true, "7d1e9242c4af53f26b34b95ef0fb6b2e620fcb9fd33e1b710cd0dbc6da5892d0"), looks := false }, kinds := [], alts := [], laidByText := true, laidKinds := [.data, .data, .data], laidTests := true, laidLooks := .later }
def EchoDirectionsCardSaid : Prop := Claim7.holds Tryd.pinned (.plain (OpenSpec.ofChange echoDirectionsSpec)) echoDirectionsCard

/-- THE TIED CARD OF 'swathlaw01.EchoPhases'. -/
def echoPhasesCard : Claim7 := { stood := { row := echoPhasesRow, standIns := [], harness := (true, "7d1e9242c4af53f26b34b95ef0fb6b2e620fcb9fd33e1b710cd0dbc6da5892d0"), looks := false }, kinds := [], alts := [], laidByText := true, laidKinds := [.data, .data, .data], laidTests := true, laidLooks := .later }
def EchoPhasesCardSaid : Prop := Claim7.holds Tryd.pinned (.plain (OpenSpec.ofChange echoPhasesSpec)) echoPhasesCard

/-- THE TIED CARD OF 'swathlaw01.EchoTurns'. -/
def echoTurnsCard : Claim7 := { stood := { row := echoTurnsRow, standIns := [], harness := (true, "7d1e9242c4af53f26b34b95ef0fb6b2e620fcb9fd33e1b710cd0dbc6da5892d0"), looks := false }, kinds := [], alts := [], laidByText := true, laidKinds := [.data, .data, .data], laidTests := true, laidLooks := .later }
def EchoTurnsCardSaid : Prop := Claim7.holds Tryd.pinned (.plain (OpenSpec.ofChange echoTurnsSpec)) echoTurnsCard

/-- THE TIED CARD OF 'swathlaw01.EchoResponds'. -/
def echoRespondsCard : Claim7 := { stood := { row := echoRespondsRow, standIns := [], harness := (true, "7d1e9242c4af53f26b34b95ef0fb6b2e620fcb9fd33e1b710cd0dbc6da5892d0"), looks := false }, kinds := [], alts := [], laidByText := true, laidKinds := [.data, .data, .data], laidTests := true, laidLooks := .later }
def EchoRespondsCardSaid : Prop := Claim7.holds Tryd.pinned (.plain (OpenSpec.ofChange echoRespondsSpec)) echoRespondsCard

/-- THE TIED CARD OF 'swathlaw01.EchoDopplers'. -/
def echoDopplersCard : Claim7 := { stood := { row := echoDopplersRow, standIns := [], harness := (true, "7d1e9242c4af53f26b34b95ef0fb6b2e620fcb9fd33e1b710cd0dbc6da5892d0"), looks := false }, kinds := [], alts := [], laidByText := true, laidKinds := [.data, .data, .data], laidTests := true, laidLooks := .later }
def EchoDopplersCardSaid : Prop := Claim7.holds Tryd.pinned (.plain (OpenSpec.ofChange echoDopplersSpec)) echoDopplersCard

/-- THE TIED CARD OF 'swathlaw01.EchoTurning'. -/
def echoTurningCard : Claim7 := { stood := { row := echoTurningRow, standIns := [], harness := (true, "7d1e9242c4af53f26b34b95ef0fb6b2e620fcb9fd33e1b710cd0dbc6da5892d0"), looks := false }, kinds := [], alts := [], laidByText := true, laidKinds := [.data, .data, .data], laidTests := true, laidLooks := .later }
def EchoTurningCardSaid : Prop := Claim7.holds Tryd.pinned (.plain (OpenSpec.ofChange echoTurningSpec)) echoTurningCard

/-- THE SECOND FORM's CARD OF 'swathlaw01.EchoImages'. -/
def echoImagesUptoCard : Claim7 := { stood := { row := echoImagesUptoRow, standIns := [], harness := (true, "7d1e9242c4af53f26b34b95ef0fb6b2e620fcb9fd33e1b710cd0dbc6da5892d0"), looks := false }, kinds := [], alts := [], laidByText := true, laidKinds := [.data, .data, .data], laidTests := true, laidLooks := .later }
def EchoImagesUptoCardSaid : Prop := Claim7.holds Tryd.pinned (.plain (OpenSpec.upto echoImagesSpec)) echoImagesUptoCard

/-- THE SECOND FORM's CARD OF 'swathlaw01.EchoFields'. -/
def echoFieldsUptoCard : Claim7 := { stood := { row := echoFieldsUptoRow, standIns := [], harness := (true, "7d1e9242c4af53f26b34b95ef0fb6b2e620fcb9fd33e1b710cd0dbc6da5892d0"), looks := false }, kinds := [], alts := [], laidByText := true, laidKinds := [.data, .data, .data], laidTests := true, laidLooks := .later }
def EchoFieldsUptoCardSaid : Prop := Claim7.holds Tryd.pinned (.plain (OpenSpec.upto echoFieldsSpec)) echoFieldsUptoCard

/-- THE SECOND FORM's CARD OF 'swathlaw01.EchoCompresses'. -/
def echoCompressesUptoCard : Claim7 := { stood := { row := echoCompressesUptoRow, standIns := [], harness := (true, "7d1e9242c4af53f26b34b95ef0fb6b2e620fcb9fd33e1b710cd0dbc6da5892d0"), looks := false }, kinds := [], alts := [], laidByText := true, laidKinds := [.data, .data, .data], laidTests := true, laidLooks := .later }
def EchoCompressesUptoCardSaid : Prop := Claim7.holds Tryd.pinned (.plain (OpenSpec.upto echoCompressesSpec)) echoCompressesUptoCard

/-- THE SECOND FORM's CARD OF 'swathlaw01.EchoFocuses'. -/
def echoFocusesUptoCard : Claim7 := { stood := { row := echoFocusesUptoRow, standIns := [], harness := (true, "7d1e9242c4af53f26b34b95ef0fb6b2e620fcb9fd33e1b710cd0dbc6da5892d0"), looks := false }, kinds := [], alts := [], laidByText := true, laidKinds := [.data, .data, .data], laidTests := true, laidLooks := .later }
def EchoFocusesUptoCardSaid : Prop := Claim7.holds Tryd.pinned (.plain (OpenSpec.upto echoFocusesSpec)) echoFocusesUptoCard

/-- THE SECOND FORM's CARD OF 'swathlaw01.EchoTransforms'. -/
def echoTransformsUptoCard : Claim7 := { stood := { row := echoTransformsUptoRow, standIns := [], harness := (true, "7d1e9242c4af53f26b34b95ef0fb6b2e620fcb9fd33e1b710cd0dbc6da5892d0"), looks := false }, kinds := [], alts := [], laidByText := true, laidKinds := [.data, .data, .data], laidTests := true, laidLooks := .later }
def EchoTransformsUptoCardSaid : Prop := Claim7.holds Tryd.pinned (.plain (OpenSpec.upto echoTransformsSpec)) echoTransformsUptoCard

/-- THE SECOND FORM's CARD OF 'swathlaw01.EchoCorrelates'. -/
def echoCorrelatesUptoCard : Claim7 := { stood := { row := echoCorrelatesUptoRow, standIns := [], harness := (true, "7d1e9242c4af53f26b34b95ef0fb6b2e620fcb9fd33e1b710cd0dbc6da5892d0"), looks := false }, kinds := [], alts := [], laidByText := true, laidKinds := [.data, .data, .data], laidTests := true, laidLooks := .later }
def EchoCorrelatesUptoCardSaid : Prop := Claim7.holds Tryd.pinned (.plain (OpenSpec.upto echoCorrelatesSpec)) echoCorrelatesUptoCard

/-- THE SECOND FORM's CARD OF 'swathlaw01.EchoDirections'. -/
def echoDirectionsUptoCard : Claim7 := { stood := { row := echoDirectionsUptoRow, standIns := [], harness := (true, "7d1e9242c4af53f26b34b95ef0fb6b2e620fcb9fd33e1b710cd0dbc6da5892d0"), looks := false }, kinds := [], alts := [], laidByText := true, laidKinds := [.data, .data, .data], laidTests := true, laidLooks := .later }
def EchoDirectionsUptoCardSaid : Prop := Claim7.holds Tryd.pinned (.plain (OpenSpec.upto echoDirectionsSpec)) echoDirectionsUptoCard

/-- THE SECOND FORM's CARD OF 'swathlaw01.EchoPhases'. -/
def echoPhasesUptoCard : Claim7 := { stood := { row := echoPhasesUptoRow, standIns := [], harness := (true, "7d1e9242c4af53f26b34b95ef0fb6b2e620fcb9fd33e1b710cd0dbc6da5892d0"), looks := false }, kinds := [], alts := [], laidByText := true, laidKinds := [.data, .data, .data], laidTests := true, laidLooks := .later }
def EchoPhasesUptoCardSaid : Prop := Claim7.holds Tryd.pinned (.plain (OpenSpec.upto echoPhasesSpec)) echoPhasesUptoCard

/-- THE SECOND FORM's CARD OF 'swathlaw01.EchoTurns'. -/
def echoTurnsUptoCard : Claim7 := { stood := { row := echoTurnsUptoRow, standIns := [], harness := (true, "7d1e9242c4af53f26b34b95ef0fb6b2e620fcb9fd33e1b710cd0dbc6da5892d0"), looks := false }, kinds := [], alts := [], laidByText := true, laidKinds := [.data, .data, .data], laidTests := true, laidLooks := .later }
def EchoTurnsUptoCardSaid : Prop := Claim7.holds Tryd.pinned (.plain (OpenSpec.upto echoTurnsSpec)) echoTurnsUptoCard

/-- THE SECOND FORM's CARD OF 'swathlaw01.EchoResponds'. -/
def echoRespondsUptoCard : Claim7 := { stood := { row := echoRespondsUptoRow, standIns := [], harness := (true, "7d1e9242c4af53f26b34b95ef0fb6b2e620fcb9fd33e1b710cd0dbc6da5892d0"), looks := false }, kinds := [], alts := [], laidByText := true, laidKinds := [.data, .data, .data], laidTests := true, laidLooks := .later }
def EchoRespondsUptoCardSaid : Prop := Claim7.holds Tryd.pinned (.plain (OpenSpec.upto echoRespondsSpec)) echoRespondsUptoCard

/-- THE SECOND FORM's CARD OF 'swathlaw01.EchoDopplers'. -/
def echoDopplersUptoCard : Claim7 := { stood := { row := echoDopplersUptoRow, standIns := [], harness := (true, "7d1e9242c4af53f26b34b95ef0fb6b2e620fcb9fd33e1b710cd0dbc6da5892d0"), looks := false }, kinds := [], alts := [], laidByText := true, laidKinds := [.data, .data, .data], laidTests := true, laidLooks := .later }
def EchoDopplersUptoCardSaid : Prop := Claim7.holds Tryd.pinned (.plain (OpenSpec.upto echoDopplersSpec)) echoDopplersUptoCard

/-- THE SECOND FORM's CARD OF 'swathlaw01.EchoTurning'. -/
def echoTurningUptoCard : Claim7 := { stood := { row := echoTurningUptoRow, standIns := [], harness := (true, "7d1e9242c4af53f26b34b95ef0fb6b2e620fcb9fd33e1b710cd0dbc6da5892d0"), looks := false }, kinds := [], alts := [], laidByText := true, laidKinds := [.data, .data, .data], laidTests := true, laidLooks := .later }
def EchoTurningUptoCardSaid : Prop := Claim7.holds Tryd.pinned (.plain (OpenSpec.upto echoTurningSpec)) echoTurningUptoCard
end Rows
end Go.Proofs.YtdpoemhpmdahjaaDoor
