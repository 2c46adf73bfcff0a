/-
  DERIVED. GIVEN WITH THE SEED: THE CARDS: each row of YtglmciklegifaaaDoorRows.lean that lists a variable, with what it lists TIED to the program's text (the seventh form; the later family's looks); each row that meets fmt, with fmt's text TOLD by the authors' own Lean function (tested against real Go, not proved from fmt's source: count such statements apart). THE CARD IS WHAT COUNTS. Prove the row's statement (the work); the ties are given (YtglmciklegifaaaDoorTie.lean); close each card by the builder's one call (the guide's Derived/Test/ToyasCard.lean, 'card_holds'). Laid BY PROGRAM, IN A SANDBOX (cutbox-door.mjs). By AI agents, Wed Nov 11 2026. No macro, syntax, notation, axiom, sorry.
-/
import Derived.Test.YtglmciklegifaaaDoorRows
import GoSem.ClaimSeven
namespace Go.Proofs.YtglmciklegifaaaDoor
namespace Rows

/-- THE TIED CARD OF 'hoodwinklaw14.DeskPlays'. -/
def deskPlaysCard : Claim7 := { stood := { row := deskPlaysRow, standIns := [], harness := (true, "49648e48853dc8036339acc049d5894e5141fcd437ea609b38d5001fe7e370be"), looks := true }, kinds := [], alts := [], laidByText := true, laidKinds := [.data], laidTests := true, laidLooks := .later }
def DeskPlaysCardSaid : Prop := Claim7.holds Tryd.pinned (.plain (OpenSpec.ofChange deskPlaysSpec)) deskPlaysCard

/-- THE TIED CARD OF 'hoodwinklaw14.DeskApart'. -/
def deskApartCard : Claim7 := { stood := { row := deskApartRow, standIns := [], harness := (true, "49648e48853dc8036339acc049d5894e5141fcd437ea609b38d5001fe7e370be"), looks := true }, kinds := [], alts := [], laidByText := true, laidKinds := [.data], laidTests := true, laidLooks := .later }
def DeskApartCardSaid : Prop := Claim7.holds Tryd.pinned (.plain (OpenSpec.ofChange deskApartSpec)) deskApartCard

/-- THE TIED CARD OF 'hoodwinklaw14.DeskNil'. -/
def deskNilCard : Claim7 := { stood := { row := deskNilRow, standIns := [], harness := (true, "49648e48853dc8036339acc049d5894e5141fcd437ea609b38d5001fe7e370be"), looks := true }, kinds := [], alts := [], laidByText := true, laidKinds := [.data], laidTests := true, laidLooks := .later }
def DeskNilCardSaid : Prop := Claim7.holds Tryd.pinned (.plain (OpenSpec.ofChange deskNilSpec)) deskNilCard

/-- THE TIED CARD OF 'hoodwinklaw14.DeskFirst'. -/
def deskFirstCard : Claim7 := { stood := { row := deskFirstRow, standIns := [], harness := (true, "49648e48853dc8036339acc049d5894e5141fcd437ea609b38d5001fe7e370be"), looks := true }, kinds := [], alts := [], laidByText := true, laidKinds := [.data], laidTests := true, laidLooks := .later }
def DeskFirstCardSaid : Prop := Claim7.holds Tryd.pinned (.plain (OpenSpec.ofChange deskFirstSpec)) deskFirstCard

/-- THE TIED CARD OF 'hoodwinklaw14.DeskTimes'. -/
def deskTimesCard : Claim7 := { stood := { row := deskTimesRow, standIns := [], harness := (true, "49648e48853dc8036339acc049d5894e5141fcd437ea609b38d5001fe7e370be"), looks := true }, kinds := [], alts := [], laidByText := true, laidKinds := [.data], laidTests := true, laidLooks := .later }
def DeskTimesCardSaid : Prop := Claim7.holds Tryd.pinned (.plain (OpenSpec.ofChange deskTimesSpec)) deskTimesCard

/-- THE TIED CARD OF 'hoodwinklaw14.DeskWrong'. -/
def deskWrongCard : Claim7 := { stood := { row := deskWrongRow, standIns := [], harness := (true, "49648e48853dc8036339acc049d5894e5141fcd437ea609b38d5001fe7e370be"), looks := true }, kinds := [], alts := [], laidByText := true, laidKinds := [.data], laidTests := true, laidLooks := .later }
def DeskWrongCardSaid : Prop := Claim7.holds Tryd.pinned (.plain (OpenSpec.ofChange deskWrongSpec)) deskWrongCard

/-- THE SECOND FORM's CARD OF 'hoodwinklaw14.DeskPlays'. -/
def deskPlaysUptoCard : Claim7 := { stood := { row := deskPlaysUptoRow, standIns := [], harness := (true, "49648e48853dc8036339acc049d5894e5141fcd437ea609b38d5001fe7e370be"), looks := true }, kinds := [], alts := [], laidByText := true, laidKinds := [.data], laidTests := true, laidLooks := .later }
def DeskPlaysUptoCardSaid : Prop := Claim7.holds Tryd.pinned (.plain (OpenSpec.upto deskPlaysSpec)) deskPlaysUptoCard

/-- THE SECOND FORM's CARD OF 'hoodwinklaw14.DeskApart'. -/
def deskApartUptoCard : Claim7 := { stood := { row := deskApartUptoRow, standIns := [], harness := (true, "49648e48853dc8036339acc049d5894e5141fcd437ea609b38d5001fe7e370be"), looks := true }, kinds := [], alts := [], laidByText := true, laidKinds := [.data], laidTests := true, laidLooks := .later }
def DeskApartUptoCardSaid : Prop := Claim7.holds Tryd.pinned (.plain (OpenSpec.upto deskApartSpec)) deskApartUptoCard

/-- THE SECOND FORM's CARD OF 'hoodwinklaw14.DeskNil'. -/
def deskNilUptoCard : Claim7 := { stood := { row := deskNilUptoRow, standIns := [], harness := (true, "49648e48853dc8036339acc049d5894e5141fcd437ea609b38d5001fe7e370be"), looks := true }, kinds := [], alts := [], laidByText := true, laidKinds := [.data], laidTests := true, laidLooks := .later }
def DeskNilUptoCardSaid : Prop := Claim7.holds Tryd.pinned (.plain (OpenSpec.upto deskNilSpec)) deskNilUptoCard

/-- THE SECOND FORM's CARD OF 'hoodwinklaw14.DeskFirst'. -/
def deskFirstUptoCard : Claim7 := { stood := { row := deskFirstUptoRow, standIns := [], harness := (true, "49648e48853dc8036339acc049d5894e5141fcd437ea609b38d5001fe7e370be"), looks := true }, kinds := [], alts := [], laidByText := true, laidKinds := [.data], laidTests := true, laidLooks := .later }
def DeskFirstUptoCardSaid : Prop := Claim7.holds Tryd.pinned (.plain (OpenSpec.upto deskFirstSpec)) deskFirstUptoCard

/-- THE SECOND FORM's CARD OF 'hoodwinklaw14.DeskTimes'. -/
def deskTimesUptoCard : Claim7 := { stood := { row := deskTimesUptoRow, standIns := [], harness := (true, "49648e48853dc8036339acc049d5894e5141fcd437ea609b38d5001fe7e370be"), looks := true }, kinds := [], alts := [], laidByText := true, laidKinds := [.data], laidTests := true, laidLooks := .later }
def DeskTimesUptoCardSaid : Prop := Claim7.holds Tryd.pinned (.plain (OpenSpec.upto deskTimesSpec)) deskTimesUptoCard

/-- THE SECOND FORM's CARD OF 'hoodwinklaw14.DeskWrong'. -/
def deskWrongUptoCard : Claim7 := { stood := { row := deskWrongUptoRow, standIns := [], harness := (true, "49648e48853dc8036339acc049d5894e5141fcd437ea609b38d5001fe7e370be"), looks := true }, kinds := [], alts := [], laidByText := true, laidKinds := [.data], laidTests := true, laidLooks := .later }
def DeskWrongUptoCardSaid : Prop := Claim7.holds Tryd.pinned (.plain (OpenSpec.upto deskWrongSpec)) deskWrongUptoCard
end Rows
end Go.Proofs.YtglmciklegifaaaDoor
