/-
  DERIVED. GIVEN WITH THE SEED: THE CARDS: each row of YtcgbamkfflcdfaaDoorRows.lean that lists a variable, with what it lists TIED to the program's text (the seventh form; the later family's looks); each row that meets fmt, with fmt's text TOLD by the authors' own Lean function (tested against real Go, not proved from fmt's source: count such statements apart). THE CARD IS WHAT COUNTS. Prove the row's statement (the work); the ties are given (YtcgbamkfflcdfaaDoorTie.lean); close each card by the builder's one call (the guide's Derived/Test/ToyasCard.lean, 'card_holds'). Laid BY PROGRAM, IN A SANDBOX (cutbox-door.mjs). By AI agents, Wed Nov 11 2026. No macro, syntax, notation, axiom, sorry.
-/
import Derived.Test.YtcgbamkfflcdfaaDoorRows
import GoSem.ClaimSeven
namespace Go.Proofs.YtcgbamkfflcdfaaDoor
namespace Rows

/-- THE TIED CARD OF 'hoodwinklaw13.LinkDelivers'. -/
def linkDeliversCard : Claim7 := { stood := { row := linkDeliversRow, standIns := [], harness := (true, "5ee3de7a74dd3c2a6ee4e53026dc8214ff76c3a134c619753005c462d88cc0fa"), looks := false }, kinds := [], alts := [], laidByText := true, laidKinds := [.data], laidTests := true, laidLooks := .later }
def LinkDeliversCardSaid : Prop := Claim7.holds Tryd.pinned (.plain (OpenSpec.ofChange linkDeliversSpec)) linkDeliversCard

/-- THE TIED CARD OF 'hoodwinklaw13.LinkSilent'. -/
def linkSilentCard : Claim7 := { stood := { row := linkSilentRow, standIns := [], harness := (true, "5ee3de7a74dd3c2a6ee4e53026dc8214ff76c3a134c619753005c462d88cc0fa"), looks := false }, kinds := [], alts := [], laidByText := true, laidKinds := [.data], laidTests := true, laidLooks := .later }
def LinkSilentCardSaid : Prop := Claim7.holds Tryd.pinned (.plain (OpenSpec.ofChange linkSilentSpec)) linkSilentCard

/-- THE TIED CARD OF 'hoodwinklaw13.LinkFlows'. -/
def linkFlowsCard : Claim7 := { stood := { row := linkFlowsRow, standIns := [], harness := (true, "5ee3de7a74dd3c2a6ee4e53026dc8214ff76c3a134c619753005c462d88cc0fa"), looks := false }, kinds := [], alts := [], laidByText := true, laidKinds := [.data], laidTests := true, laidLooks := .later }
def LinkFlowsCardSaid : Prop := Claim7.holds Tryd.pinned (.plain (OpenSpec.ofChange linkFlowsSpec)) linkFlowsCard

/-- THE TIED CARD OF 'hoodwinklaw13.LinkNil'. -/
def linkNilCard : Claim7 := { stood := { row := linkNilRow, standIns := [], harness := (true, "5ee3de7a74dd3c2a6ee4e53026dc8214ff76c3a134c619753005c462d88cc0fa"), looks := false }, kinds := [], alts := [], laidByText := true, laidKinds := [.data], laidTests := true, laidLooks := .later }
def LinkNilCardSaid : Prop := Claim7.holds Tryd.pinned (.plain (OpenSpec.ofChange linkNilSpec)) linkNilCard

/-- THE TIED CARD OF 'hoodwinklaw13.LinkOnce'. -/
def linkOnceCard : Claim7 := { stood := { row := linkOnceRow, standIns := [], harness := (true, "5ee3de7a74dd3c2a6ee4e53026dc8214ff76c3a134c619753005c462d88cc0fa"), looks := false }, kinds := [], alts := [], laidByText := true, laidKinds := [.data], laidTests := true, laidLooks := .later }
def LinkOnceCardSaid : Prop := Claim7.holds Tryd.pinned (.plain (OpenSpec.ofChange linkOnceSpec)) linkOnceCard

/-- THE TIED CARD OF 'hoodwinklaw13.LinkResends'. -/
def linkResendsCard : Claim7 := { stood := { row := linkResendsRow, standIns := [], harness := (true, "5ee3de7a74dd3c2a6ee4e53026dc8214ff76c3a134c619753005c462d88cc0fa"), looks := false }, kinds := [], alts := [], laidByText := true, laidKinds := [.data], laidTests := true, laidLooks := .later }
def LinkResendsCardSaid : Prop := Claim7.holds Tryd.pinned (.plain (OpenSpec.ofChange linkResendsSpec)) linkResendsCard

/-- THE TIED CARD OF 'hoodwinklaw13.LinkWindow'. -/
def linkWindowCard : Claim7 := { stood := { row := linkWindowRow, standIns := [], harness := (true, "5ee3de7a74dd3c2a6ee4e53026dc8214ff76c3a134c619753005c462d88cc0fa"), looks := false }, kinds := [], alts := [], laidByText := true, laidKinds := [.data], laidTests := true, laidLooks := .later }
def LinkWindowCardSaid : Prop := Claim7.holds Tryd.pinned (.plain (OpenSpec.ofChange linkWindowSpec)) linkWindowCard

/-- THE TIED CARD OF 'hoodwinklaw13.LinkOwes'. -/
def linkOwesCard : Claim7 := { stood := { row := linkOwesRow, standIns := [], harness := (true, "5ee3de7a74dd3c2a6ee4e53026dc8214ff76c3a134c619753005c462d88cc0fa"), looks := false }, kinds := [], alts := [], laidByText := true, laidKinds := [.data], laidTests := true, laidLooks := .later }
def LinkOwesCardSaid : Prop := Claim7.holds Tryd.pinned (.plain (OpenSpec.ofChange linkOwesSpec)) linkOwesCard

/-- THE TIED CARD OF 'hoodwinklaw13.LinkEpochs'. -/
def linkEpochsCard : Claim7 := { stood := { row := linkEpochsRow, standIns := [], harness := (true, "5ee3de7a74dd3c2a6ee4e53026dc8214ff76c3a134c619753005c462d88cc0fa"), looks := false }, kinds := [], alts := [], laidByText := true, laidKinds := [.data], laidTests := true, laidLooks := .later }
def LinkEpochsCardSaid : Prop := Claim7.holds Tryd.pinned (.plain (OpenSpec.ofChange linkEpochsSpec)) linkEpochsCard

/-- THE SECOND FORM's CARD OF 'hoodwinklaw13.LinkDelivers'. -/
def linkDeliversUptoCard : Claim7 := { stood := { row := linkDeliversUptoRow, standIns := [], harness := (true, "5ee3de7a74dd3c2a6ee4e53026dc8214ff76c3a134c619753005c462d88cc0fa"), looks := false }, kinds := [], alts := [], laidByText := true, laidKinds := [.data], laidTests := true, laidLooks := .later }
def LinkDeliversUptoCardSaid : Prop := Claim7.holds Tryd.pinned (.plain (OpenSpec.upto linkDeliversSpec)) linkDeliversUptoCard

/-- THE SECOND FORM's CARD OF 'hoodwinklaw13.LinkSilent'. -/
def linkSilentUptoCard : Claim7 := { stood := { row := linkSilentUptoRow, standIns := [], harness := (true, "5ee3de7a74dd3c2a6ee4e53026dc8214ff76c3a134c619753005c462d88cc0fa"), looks := false }, kinds := [], alts := [], laidByText := true, laidKinds := [.data], laidTests := true, laidLooks := .later }
def LinkSilentUptoCardSaid : Prop := Claim7.holds Tryd.pinned (.plain (OpenSpec.upto linkSilentSpec)) linkSilentUptoCard

/-- THE SECOND FORM's CARD OF 'hoodwinklaw13.LinkFlows'. -/
def linkFlowsUptoCard : Claim7 := { stood := { row := linkFlowsUptoRow, standIns := [], harness := (true, "5ee3de7a74dd3c2a6ee4e53026dc8214ff76c3a134c619753005c462d88cc0fa"), looks := false }, kinds := [], alts := [], laidByText := true, laidKinds := [.data], laidTests := true, laidLooks := .later }
def LinkFlowsUptoCardSaid : Prop := Claim7.holds Tryd.pinned (.plain (OpenSpec.upto linkFlowsSpec)) linkFlowsUptoCard

/-- THE SECOND FORM's CARD OF 'hoodwinklaw13.LinkNil'. -/
def linkNilUptoCard : Claim7 := { stood := { row := linkNilUptoRow, standIns := [], harness := (true, "5ee3de7a74dd3c2a6ee4e53026dc8214ff76c3a134c619753005c462d88cc0fa"), looks := false }, kinds := [], alts := [], laidByText := true, laidKinds := [.data], laidTests := true, laidLooks := .later }
def LinkNilUptoCardSaid : Prop := Claim7.holds Tryd.pinned (.plain (OpenSpec.upto linkNilSpec)) linkNilUptoCard

/-- THE SECOND FORM's CARD OF 'hoodwinklaw13.LinkOnce'. -/
def linkOnceUptoCard : Claim7 := { stood := { row := linkOnceUptoRow, standIns := [], harness := (true, "5ee3de7a74dd3c2a6ee4e53026dc8214ff76c3a134c619753005c462d88cc0fa"), looks := false }, kinds := [], alts := [], laidByText := true, laidKinds := [.data], laidTests := true, laidLooks := .later }
def LinkOnceUptoCardSaid : Prop := Claim7.holds Tryd.pinned (.plain (OpenSpec.upto linkOnceSpec)) linkOnceUptoCard

/-- THE SECOND FORM's CARD OF 'hoodwinklaw13.LinkResends'. -/
def linkResendsUptoCard : Claim7 := { stood := { row := linkResendsUptoRow, standIns := [], harness := (true, "5ee3de7a74dd3c2a6ee4e53026dc8214ff76c3a134c619753005c462d88cc0fa"), looks := false }, kinds := [], alts := [], laidByText := true, laidKinds := [.data], laidTests := true, laidLooks := .later }
def LinkResendsUptoCardSaid : Prop := Claim7.holds Tryd.pinned (.plain (OpenSpec.upto linkResendsSpec)) linkResendsUptoCard

/-- THE SECOND FORM's CARD OF 'hoodwinklaw13.LinkWindow'. -/
def linkWindowUptoCard : Claim7 := { stood := { row := linkWindowUptoRow, standIns := [], harness := (true, "5ee3de7a74dd3c2a6ee4e53026dc8214ff76c3a134c619753005c462d88cc0fa"), looks := false }, kinds := [], alts := [], laidByText := true, laidKinds := [.data], laidTests := true, laidLooks := .later }
def LinkWindowUptoCardSaid : Prop := Claim7.holds Tryd.pinned (.plain (OpenSpec.upto linkWindowSpec)) linkWindowUptoCard

/-- THE SECOND FORM's CARD OF 'hoodwinklaw13.LinkOwes'. -/
def linkOwesUptoCard : Claim7 := { stood := { row := linkOwesUptoRow, standIns := [], harness := (true, "5ee3de7a74dd3c2a6ee4e53026dc8214ff76c3a134c619753005c462d88cc0fa"), looks := false }, kinds := [], alts := [], laidByText := true, laidKinds := [.data], laidTests := true, laidLooks := .later }
def LinkOwesUptoCardSaid : Prop := Claim7.holds Tryd.pinned (.plain (OpenSpec.upto linkOwesSpec)) linkOwesUptoCard

/-- THE SECOND FORM's CARD OF 'hoodwinklaw13.LinkEpochs'. -/
def linkEpochsUptoCard : Claim7 := { stood := { row := linkEpochsUptoRow, standIns := [], harness := (true, "5ee3de7a74dd3c2a6ee4e53026dc8214ff76c3a134c619753005c462d88cc0fa"), looks := false }, kinds := [], alts := [], laidByText := true, laidKinds := [.data], laidTests := true, laidLooks := .later }
def LinkEpochsUptoCardSaid : Prop := Claim7.holds Tryd.pinned (.plain (OpenSpec.upto linkEpochsSpec)) linkEpochsUptoCard
end Rows
end Go.Proofs.YtcgbamkfflcdfaaDoor
