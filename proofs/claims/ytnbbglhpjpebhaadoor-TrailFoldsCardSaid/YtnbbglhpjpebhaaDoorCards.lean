/-
  DERIVED. GIVEN WITH THE SEED: THE CARDS: each row of YtnbbglhpjpebhaaDoorRows.lean that lists a variable, with what it lists TIED to the program's text (the seventh form; the later family's looks); each row that meets fmt, with fmt's text TOLD by the authors' own Lean function (tested against real Go, not proved from fmt's source: count such statements apart). THE CARD IS WHAT COUNTS. Prove the row's statement (the work); the ties are given (YtnbbglhpjpebhaaDoorTie.lean); close each card by the builder's one call (the guide's Derived/Test/ToyasCard.lean, 'card_holds'). Laid BY PROGRAM, IN A SANDBOX (cutbox-door.mjs). By AI agents, Wed Nov 11 2026. No macro, syntax, notation, axiom, sorry.
-/
import Derived.Test.YtnbbglhpjpebhaaDoorRows
import GoSem.ClaimSeven
namespace Go.Proofs.YtnbbglhpjpebhaaDoor
namespace Rows

/-- THE TIED CARD OF 'hoodwinklaw16.TrailRight'. -/
def trailRightCard : Claim7 := { stood := { row := trailRightRow, standIns := [], harness := (true, "4f229cd60a1c4e13510e9848858b37d07f45542e12c0116f2f3f1a803ec84d1e"), looks := false }, kinds := [], alts := [], laidByText := true, laidKinds := [.data], laidTests := true, laidLooks := .later }
def TrailRightCardSaid : Prop := Claim7.holds Tryd.pinned (.plain (OpenSpec.ofChange trailRightSpec)) trailRightCard

/-- THE TIED CARD OF 'hoodwinklaw16.TrailFull'. -/
def trailFullCard : Claim7 := { stood := { row := trailFullRow, standIns := [], harness := (true, "4f229cd60a1c4e13510e9848858b37d07f45542e12c0116f2f3f1a803ec84d1e"), looks := false }, kinds := [], alts := [], laidByText := true, laidKinds := [.data], laidTests := true, laidLooks := .later }
def TrailFullCardSaid : Prop := Claim7.holds Tryd.pinned (.plain (OpenSpec.ofChange trailFullSpec)) trailFullCard

/-- THE TIED CARD OF 'hoodwinklaw16.TrailNil'. -/
def trailNilCard : Claim7 := { stood := { row := trailNilRow, standIns := [], harness := (true, "4f229cd60a1c4e13510e9848858b37d07f45542e12c0116f2f3f1a803ec84d1e"), looks := false }, kinds := [], alts := [], laidByText := true, laidKinds := [.data], laidTests := true, laidLooks := .later }
def TrailNilCardSaid : Prop := Claim7.holds Tryd.pinned (.plain (OpenSpec.ofChange trailNilSpec)) trailNilCard

/-- THE TIED CARD OF 'hoodwinklaw16.TrailRolls'. -/
def trailRollsCard : Claim7 := { stood := { row := trailRollsRow, standIns := [], harness := (true, "4f229cd60a1c4e13510e9848858b37d07f45542e12c0116f2f3f1a803ec84d1e"), looks := false }, kinds := [], alts := [], laidByText := true, laidKinds := [.data], laidTests := true, laidLooks := .later }
def TrailRollsCardSaid : Prop := Claim7.holds Tryd.pinned (.plain (OpenSpec.ofChange trailRollsSpec)) trailRollsCard

/-- THE TIED CARD OF 'hoodwinklaw16.TrailFolds'. -/
def trailFoldsCard : Claim7 := { stood := { row := trailFoldsRow, standIns := [], harness := (true, "4f229cd60a1c4e13510e9848858b37d07f45542e12c0116f2f3f1a803ec84d1e"), looks := false }, kinds := [], alts := [], laidByText := true, laidKinds := [.data], laidTests := true, laidLooks := .later }
def TrailFoldsCardSaid : Prop := Claim7.holds Tryd.pinned (.plain (OpenSpec.ofChange trailFoldsSpec)) trailFoldsCard

/-- THE SECOND FORM's CARD OF 'hoodwinklaw16.TrailRight'. -/
def trailRightUptoCard : Claim7 := { stood := { row := trailRightUptoRow, standIns := [], harness := (true, "4f229cd60a1c4e13510e9848858b37d07f45542e12c0116f2f3f1a803ec84d1e"), looks := false }, kinds := [], alts := [], laidByText := true, laidKinds := [.data], laidTests := true, laidLooks := .later }
def TrailRightUptoCardSaid : Prop := Claim7.holds Tryd.pinned (.plain (OpenSpec.upto trailRightSpec)) trailRightUptoCard

/-- THE SECOND FORM's CARD OF 'hoodwinklaw16.TrailFull'. -/
def trailFullUptoCard : Claim7 := { stood := { row := trailFullUptoRow, standIns := [], harness := (true, "4f229cd60a1c4e13510e9848858b37d07f45542e12c0116f2f3f1a803ec84d1e"), looks := false }, kinds := [], alts := [], laidByText := true, laidKinds := [.data], laidTests := true, laidLooks := .later }
def TrailFullUptoCardSaid : Prop := Claim7.holds Tryd.pinned (.plain (OpenSpec.upto trailFullSpec)) trailFullUptoCard

/-- THE SECOND FORM's CARD OF 'hoodwinklaw16.TrailNil'. -/
def trailNilUptoCard : Claim7 := { stood := { row := trailNilUptoRow, standIns := [], harness := (true, "4f229cd60a1c4e13510e9848858b37d07f45542e12c0116f2f3f1a803ec84d1e"), looks := false }, kinds := [], alts := [], laidByText := true, laidKinds := [.data], laidTests := true, laidLooks := .later }
def TrailNilUptoCardSaid : Prop := Claim7.holds Tryd.pinned (.plain (OpenSpec.upto trailNilSpec)) trailNilUptoCard

/-- THE SECOND FORM's CARD OF 'hoodwinklaw16.TrailRolls'. -/
def trailRollsUptoCard : Claim7 := { stood := { row := trailRollsUptoRow, standIns := [], harness := (true, "4f229cd60a1c4e13510e9848858b37d07f45542e12c0116f2f3f1a803ec84d1e"), looks := false }, kinds := [], alts := [], laidByText := true, laidKinds := [.data], laidTests := true, laidLooks := .later }
def TrailRollsUptoCardSaid : Prop := Claim7.holds Tryd.pinned (.plain (OpenSpec.upto trailRollsSpec)) trailRollsUptoCard

/-- THE SECOND FORM's CARD OF 'hoodwinklaw16.TrailFolds'. -/
def trailFoldsUptoCard : Claim7 := { stood := { row := trailFoldsUptoRow, standIns := [], harness := (true, "4f229cd60a1c4e13510e9848858b37d07f45542e12c0116f2f3f1a803ec84d1e"), looks := false }, kinds := [], alts := [], laidByText := true, laidKinds := [.data], laidTests := true, laidLooks := .later }
def TrailFoldsUptoCardSaid : Prop := Claim7.holds Tryd.pinned (.plain (OpenSpec.upto trailFoldsSpec)) trailFoldsUptoCard
end Rows
end Go.Proofs.YtnbbglhpjpebhaaDoor
