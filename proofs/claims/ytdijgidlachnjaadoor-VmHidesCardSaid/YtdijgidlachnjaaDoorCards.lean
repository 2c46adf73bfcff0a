/-
  DERIVED. GIVEN WITH THE SEED: THE CARDS: each row of YtdijgidlachnjaaDoorRows.lean that lists a variable, with what it lists TIED to the program's text (the seventh form; the later family's looks); each row that meets fmt, with fmt's text TOLD by the authors' own Lean function (tested against real Go, not proved from fmt's source: count such statements apart). THE CARD IS WHAT COUNTS. Prove the row's statement (the work); the ties are given (YtdijgidlachnjaaDoorTie.lean); close each card by the builder's one call (the guide's Derived/Test/ToyasCard.lean, 'card_holds'). Laid BY PROGRAM, IN A SANDBOX (cutbox-door.mjs). By AI agents, Wed Nov 11 2026. No macro, syntax, notation, axiom, sorry.
-/
import Derived.Test.YtdijgidlachnjaaDoorRows
import GoSem.ClaimSeven
namespace Go.Proofs.YtdijgidlachnjaaDoor
namespace Rows

/-- THE TIED CARD OF 'hoodwinklaw09.VmHides'. -/
def vmHidesCard : Claim7 := { stood := { row := vmHidesRow, standIns := [], harness := (true, "0a4654c868db6d6ffd8ebdf1e71c94c48aa494dee0746db8c1da99a7cc0b7809"), looks := false }, kinds := [], alts := [], laidByText := true, laidKinds := [.data], laidTests := true, laidLooks := .later }
def VmHidesCardSaid : Prop := Claim7.holds Tryd.pinned (.plain (OpenSpec.ofChange vmHidesSpec)) vmHidesCard

/-- THE TIED CARD OF 'hoodwinklaw09.VmComputes'. -/
def vmComputesCard : Claim7 := { stood := { row := vmComputesRow, standIns := [], harness := (true, "0a4654c868db6d6ffd8ebdf1e71c94c48aa494dee0746db8c1da99a7cc0b7809"), looks := false }, kinds := [], alts := [], laidByText := true, laidKinds := [.data], laidTests := true, laidLooks := .later }
def VmComputesCardSaid : Prop := Claim7.holds Tryd.pinned (.plain (OpenSpec.ofChange vmComputesSpec)) vmComputesCard

/-- THE TIED CARD OF 'hoodwinklaw09.VmKeeps'. -/
def vmKeepsCard : Claim7 := { stood := { row := vmKeepsRow, standIns := [], harness := (true, "0a4654c868db6d6ffd8ebdf1e71c94c48aa494dee0746db8c1da99a7cc0b7809"), looks := false }, kinds := [], alts := [], laidByText := true, laidKinds := [.data], laidTests := true, laidLooks := .later }
def VmKeepsCardSaid : Prop := Claim7.holds Tryd.pinned (.plain (OpenSpec.ofChange vmKeepsSpec)) vmKeepsCard

/-- THE TIED CARD OF 'hoodwinklaw09.VmViews'. -/
def vmViewsCard : Claim7 := { stood := { row := vmViewsRow, standIns := [], harness := (true, "0a4654c868db6d6ffd8ebdf1e71c94c48aa494dee0746db8c1da99a7cc0b7809"), looks := false }, kinds := [], alts := [], laidByText := true, laidKinds := [.data], laidTests := true, laidLooks := .later }
def VmViewsCardSaid : Prop := Claim7.holds Tryd.pinned (.plain (OpenSpec.ofChange vmViewsSpec)) vmViewsCard

/-- THE TIED CARD OF 'hoodwinklaw09.VmNone'. -/
def vmNoneCard : Claim7 := { stood := { row := vmNoneRow, standIns := [], harness := (true, "0a4654c868db6d6ffd8ebdf1e71c94c48aa494dee0746db8c1da99a7cc0b7809"), looks := false }, kinds := [], alts := [], laidByText := true, laidKinds := [.data], laidTests := true, laidLooks := .later }
def VmNoneCardSaid : Prop := Claim7.holds Tryd.pinned (.plain (OpenSpec.ofChange vmNoneSpec)) vmNoneCard

/-- THE TIED CARD OF 'hoodwinklaw09.VmFuel'. -/
def vmFuelCard : Claim7 := { stood := { row := vmFuelRow, standIns := [], harness := (true, "0a4654c868db6d6ffd8ebdf1e71c94c48aa494dee0746db8c1da99a7cc0b7809"), looks := false }, kinds := [], alts := [], laidByText := true, laidKinds := [.data], laidTests := true, laidLooks := .later }
def VmFuelCardSaid : Prop := Claim7.holds Tryd.pinned (.plain (OpenSpec.ofChange vmFuelSpec)) vmFuelCard

/-- THE TIED CARD OF 'hoodwinklaw09.VmTaint'. -/
def vmTaintCard : Claim7 := { stood := { row := vmTaintRow, standIns := [], harness := (true, "0a4654c868db6d6ffd8ebdf1e71c94c48aa494dee0746db8c1da99a7cc0b7809"), looks := false }, kinds := [], alts := [], laidByText := true, laidKinds := [.data], laidTests := true, laidLooks := .later }
def VmTaintCardSaid : Prop := Claim7.holds Tryd.pinned (.plain (OpenSpec.ofChange vmTaintSpec)) vmTaintCard

/-- THE TIED CARD OF 'hoodwinklaw09.VmLabels'. -/
def vmLabelsCard : Claim7 := { stood := { row := vmLabelsRow, standIns := [], harness := (true, "0a4654c868db6d6ffd8ebdf1e71c94c48aa494dee0746db8c1da99a7cc0b7809"), looks := false }, kinds := [], alts := [], laidByText := true, laidKinds := [.data], laidTests := true, laidLooks := .later }
def VmLabelsCardSaid : Prop := Claim7.holds Tryd.pinned (.plain (OpenSpec.ofChange vmLabelsSpec)) vmLabelsCard

/-- THE TIED CARD OF 'hoodwinklaw09.VmRolls'. -/
def vmRollsCard : Claim7 := { stood := { row := vmRollsRow, standIns := [], harness := (true, "0a4654c868db6d6ffd8ebdf1e71c94c48aa494dee0746db8c1da99a7cc0b7809"), looks := false }, kinds := [], alts := [], laidByText := true, laidKinds := [.data], laidTests := true, laidLooks := .later }
def VmRollsCardSaid : Prop := Claim7.holds Tryd.pinned (.plain (OpenSpec.ofChange vmRollsSpec)) vmRollsCard

/-- THE SECOND FORM's CARD OF 'hoodwinklaw09.VmHides'. -/
def vmHidesUptoCard : Claim7 := { stood := { row := vmHidesUptoRow, standIns := [], harness := (true, "0a4654c868db6d6ffd8ebdf1e71c94c48aa494dee0746db8c1da99a7cc0b7809"), looks := false }, kinds := [], alts := [], laidByText := true, laidKinds := [.data], laidTests := true, laidLooks := .later }
def VmHidesUptoCardSaid : Prop := Claim7.holds Tryd.pinned (.plain (OpenSpec.upto vmHidesSpec)) vmHidesUptoCard

/-- THE SECOND FORM's CARD OF 'hoodwinklaw09.VmComputes'. -/
def vmComputesUptoCard : Claim7 := { stood := { row := vmComputesUptoRow, standIns := [], harness := (true, "0a4654c868db6d6ffd8ebdf1e71c94c48aa494dee0746db8c1da99a7cc0b7809"), looks := false }, kinds := [], alts := [], laidByText := true, laidKinds := [.data], laidTests := true, laidLooks := .later }
def VmComputesUptoCardSaid : Prop := Claim7.holds Tryd.pinned (.plain (OpenSpec.upto vmComputesSpec)) vmComputesUptoCard

/-- THE SECOND FORM's CARD OF 'hoodwinklaw09.VmKeeps'. -/
def vmKeepsUptoCard : Claim7 := { stood := { row := vmKeepsUptoRow, standIns := [], harness := (true, "0a4654c868db6d6ffd8ebdf1e71c94c48aa494dee0746db8c1da99a7cc0b7809"), looks := false }, kinds := [], alts := [], laidByText := true, laidKinds := [.data], laidTests := true, laidLooks := .later }
def VmKeepsUptoCardSaid : Prop := Claim7.holds Tryd.pinned (.plain (OpenSpec.upto vmKeepsSpec)) vmKeepsUptoCard

/-- THE SECOND FORM's CARD OF 'hoodwinklaw09.VmViews'. -/
def vmViewsUptoCard : Claim7 := { stood := { row := vmViewsUptoRow, standIns := [], harness := (true, "0a4654c868db6d6ffd8ebdf1e71c94c48aa494dee0746db8c1da99a7cc0b7809"), looks := false }, kinds := [], alts := [], laidByText := true, laidKinds := [.data], laidTests := true, laidLooks := .later }
def VmViewsUptoCardSaid : Prop := Claim7.holds Tryd.pinned (.plain (OpenSpec.upto vmViewsSpec)) vmViewsUptoCard

/-- THE SECOND FORM's CARD OF 'hoodwinklaw09.VmNone'. -/
def vmNoneUptoCard : Claim7 := { stood := { row := vmNoneUptoRow, standIns := [], harness := (true, "0a4654c868db6d6ffd8ebdf1e71c94c48aa494dee0746db8c1da99a7cc0b7809"), looks := false }, kinds := [], alts := [], laidByText := true, laidKinds := [.data], laidTests := true, laidLooks := .later }
def VmNoneUptoCardSaid : Prop := Claim7.holds Tryd.pinned (.plain (OpenSpec.upto vmNoneSpec)) vmNoneUptoCard

/-- THE SECOND FORM's CARD OF 'hoodwinklaw09.VmFuel'. -/
def vmFuelUptoCard : Claim7 := { stood := { row := vmFuelUptoRow, standIns := [], harness := (true, "0a4654c868db6d6ffd8ebdf1e71c94c48aa494dee0746db8c1da99a7cc0b7809"), looks := false }, kinds := [], alts := [], laidByText := true, laidKinds := [.data], laidTests := true, laidLooks := .later }
def VmFuelUptoCardSaid : Prop := Claim7.holds Tryd.pinned (.plain (OpenSpec.upto vmFuelSpec)) vmFuelUptoCard

/-- THE SECOND FORM's CARD OF 'hoodwinklaw09.VmTaint'. -/
def vmTaintUptoCard : Claim7 := { stood := { row := vmTaintUptoRow, standIns := [], harness := (true, "0a4654c868db6d6ffd8ebdf1e71c94c48aa494dee0746db8c1da99a7cc0b7809"), looks := false }, kinds := [], alts := [], laidByText := true, laidKinds := [.data], laidTests := true, laidLooks := .later }
def VmTaintUptoCardSaid : Prop := Claim7.holds Tryd.pinned (.plain (OpenSpec.upto vmTaintSpec)) vmTaintUptoCard

/-- THE SECOND FORM's CARD OF 'hoodwinklaw09.VmLabels'. -/
def vmLabelsUptoCard : Claim7 := { stood := { row := vmLabelsUptoRow, standIns := [], harness := (true, "0a4654c868db6d6ffd8ebdf1e71c94c48aa494dee0746db8c1da99a7cc0b7809"), looks := false }, kinds := [], alts := [], laidByText := true, laidKinds := [.data], laidTests := true, laidLooks := .later }
def VmLabelsUptoCardSaid : Prop := Claim7.holds Tryd.pinned (.plain (OpenSpec.upto vmLabelsSpec)) vmLabelsUptoCard

/-- THE SECOND FORM's CARD OF 'hoodwinklaw09.VmRolls'. -/
def vmRollsUptoCard : Claim7 := { stood := { row := vmRollsUptoRow, standIns := [], harness := (true, "0a4654c868db6d6ffd8ebdf1e71c94c48aa494dee0746db8c1da99a7cc0b7809"), looks := false }, kinds := [], alts := [], laidByText := true, laidKinds := [.data], laidTests := true, laidLooks := .later }
def VmRollsUptoCardSaid : Prop := Claim7.holds Tryd.pinned (.plain (OpenSpec.upto vmRollsSpec)) vmRollsUptoCard
end Rows
end Go.Proofs.YtdijgidlachnjaaDoor
