/-
  DERIVED. GIVEN WITH THE SEED: THE CARDS: each row of YtfopdoeiahlhpaaDoorRows.lean that lists a variable, with what it lists TIED to the program's text (the seventh form; the later family's looks); each row that meets fmt, with fmt's text TOLD by the authors' own Lean function (tested against real Go, not proved from fmt's source: count such statements apart). THE CARD IS WHAT COUNTS. Prove the row's statement (the work); the ties are given (YtfopdoeiahlhpaaDoorTie.lean); close each card by the builder's one call (the guide's Derived/Test/ToyasCard.lean, 'card_holds'). Laid BY PROGRAM, IN A SANDBOX (cutbox-door.mjs). By AI agents, Wed Nov 11 2026. No macro, syntax, notation, axiom, sorry.
-/
import Derived.Test.YtfopdoeiahlhpaaDoorRows
import GoSem.ClaimSeven
namespace Go.Proofs.YtfopdoeiahlhpaaDoor
namespace Rows

/-- THE TIED CARD OF 'hoodwinklaw10.RulesPlays'. -/
def rulesPlaysCard : Claim7 := { stood := { row := rulesPlaysRow, standIns := [], harness := (true, "76c8d8a99d1758dcaf335c839b58cd72c1e04c0ec12a8d388c3952c212517bd6"), looks := false }, kinds := [], alts := [], laidByText := true, laidKinds := [.data], laidTests := true, laidLooks := .later }
def RulesPlaysCardSaid : Prop := Claim7.holds Tryd.pinned (.plain (OpenSpec.ofChange rulesPlaysSpec)) rulesPlaysCard

/-- THE TIED CARD OF 'hoodwinklaw10.RulesNarrow'. -/
def rulesNarrowCard : Claim7 := { stood := { row := rulesNarrowRow, standIns := [], harness := (true, "76c8d8a99d1758dcaf335c839b58cd72c1e04c0ec12a8d388c3952c212517bd6"), looks := false }, kinds := [], alts := [], laidByText := true, laidKinds := [.data], laidTests := true, laidLooks := .later }
def RulesNarrowCardSaid : Prop := Claim7.holds Tryd.pinned (.plain (OpenSpec.ofChange rulesNarrowSpec)) rulesNarrowCard

/-- THE TIED CARD OF 'hoodwinklaw10.RulesHides'. -/
def rulesHidesCard : Claim7 := { stood := { row := rulesHidesRow, standIns := [], harness := (true, "76c8d8a99d1758dcaf335c839b58cd72c1e04c0ec12a8d388c3952c212517bd6"), looks := false }, kinds := [], alts := [], laidByText := true, laidKinds := [.data], laidTests := true, laidLooks := .later }
def RulesHidesCardSaid : Prop := Claim7.holds Tryd.pinned (.plain (OpenSpec.ofChange rulesHidesSpec)) rulesHidesCard

/-- THE TIED CARD OF 'hoodwinklaw10.RulesForms'. -/
def rulesFormsCard : Claim7 := { stood := { row := rulesFormsRow, standIns := [], harness := (true, "76c8d8a99d1758dcaf335c839b58cd72c1e04c0ec12a8d388c3952c212517bd6"), looks := false }, kinds := [], alts := [], laidByText := true, laidKinds := [.data], laidTests := true, laidLooks := .later }
def RulesFormsCardSaid : Prop := Claim7.holds Tryd.pinned (.plain (OpenSpec.ofChange rulesFormsSpec)) rulesFormsCard

/-- THE TIED CARD OF 'hoodwinklaw10.RulesTells'. -/
def rulesTellsCard : Claim7 := { stood := { row := rulesTellsRow, standIns := [], harness := (true, "76c8d8a99d1758dcaf335c839b58cd72c1e04c0ec12a8d388c3952c212517bd6"), looks := false }, kinds := [], alts := [], laidByText := true, laidKinds := [.data], laidTests := true, laidLooks := .later }
def RulesTellsCardSaid : Prop := Claim7.holds Tryd.pinned (.plain (OpenSpec.ofChange rulesTellsSpec)) rulesTellsCard

/-- THE TIED CARD OF 'hoodwinklaw10.RulesStarts'. -/
def rulesStartsCard : Claim7 := { stood := { row := rulesStartsRow, standIns := [], harness := (true, "76c8d8a99d1758dcaf335c839b58cd72c1e04c0ec12a8d388c3952c212517bd6"), looks := false }, kinds := [], alts := [], laidByText := true, laidKinds := [.data], laidTests := true, laidLooks := .later }
def RulesStartsCardSaid : Prop := Claim7.holds Tryd.pinned (.plain (OpenSpec.ofChange rulesStartsSpec)) rulesStartsCard

/-- THE TIED CARD OF 'hoodwinklaw10.RulesDefaults'. -/
def rulesDefaultsCard : Claim7 := { stood := { row := rulesDefaultsRow, standIns := [], harness := (true, "76c8d8a99d1758dcaf335c839b58cd72c1e04c0ec12a8d388c3952c212517bd6"), looks := false }, kinds := [], alts := [], laidByText := true, laidKinds := [.data], laidTests := true, laidLooks := .later }
def RulesDefaultsCardSaid : Prop := Claim7.holds Tryd.pinned (.plain (OpenSpec.ofChange rulesDefaultsSpec)) rulesDefaultsCard

/-- THE TIED CARD OF 'hoodwinklaw10.RulesTicks'. -/
def rulesTicksCard : Claim7 := { stood := { row := rulesTicksRow, standIns := [], harness := (true, "76c8d8a99d1758dcaf335c839b58cd72c1e04c0ec12a8d388c3952c212517bd6"), looks := false }, kinds := [], alts := [], laidByText := true, laidKinds := [.data], laidTests := true, laidLooks := .later }
def RulesTicksCardSaid : Prop := Claim7.holds Tryd.pinned (.plain (OpenSpec.ofChange rulesTicksSpec)) rulesTicksCard

/-- THE TIED CARD OF 'hoodwinklaw10.RulesShows'. -/
def rulesShowsCard : Claim7 := { stood := { row := rulesShowsRow, standIns := [], harness := (true, "76c8d8a99d1758dcaf335c839b58cd72c1e04c0ec12a8d388c3952c212517bd6"), looks := false }, kinds := [], alts := [], laidByText := true, laidKinds := [.data], laidTests := true, laidLooks := .later }
def RulesShowsCardSaid : Prop := Claim7.holds Tryd.pinned (.plain (OpenSpec.ofChange rulesShowsSpec)) rulesShowsCard

/-- THE SECOND FORM's CARD OF 'hoodwinklaw10.RulesPlays'. -/
def rulesPlaysUptoCard : Claim7 := { stood := { row := rulesPlaysUptoRow, standIns := [], harness := (true, "76c8d8a99d1758dcaf335c839b58cd72c1e04c0ec12a8d388c3952c212517bd6"), looks := false }, kinds := [], alts := [], laidByText := true, laidKinds := [.data], laidTests := true, laidLooks := .later }
def RulesPlaysUptoCardSaid : Prop := Claim7.holds Tryd.pinned (.plain (OpenSpec.upto rulesPlaysSpec)) rulesPlaysUptoCard

/-- THE SECOND FORM's CARD OF 'hoodwinklaw10.RulesNarrow'. -/
def rulesNarrowUptoCard : Claim7 := { stood := { row := rulesNarrowUptoRow, standIns := [], harness := (true, "76c8d8a99d1758dcaf335c839b58cd72c1e04c0ec12a8d388c3952c212517bd6"), looks := false }, kinds := [], alts := [], laidByText := true, laidKinds := [.data], laidTests := true, laidLooks := .later }
def RulesNarrowUptoCardSaid : Prop := Claim7.holds Tryd.pinned (.plain (OpenSpec.upto rulesNarrowSpec)) rulesNarrowUptoCard

/-- THE SECOND FORM's CARD OF 'hoodwinklaw10.RulesHides'. -/
def rulesHidesUptoCard : Claim7 := { stood := { row := rulesHidesUptoRow, standIns := [], harness := (true, "76c8d8a99d1758dcaf335c839b58cd72c1e04c0ec12a8d388c3952c212517bd6"), looks := false }, kinds := [], alts := [], laidByText := true, laidKinds := [.data], laidTests := true, laidLooks := .later }
def RulesHidesUptoCardSaid : Prop := Claim7.holds Tryd.pinned (.plain (OpenSpec.upto rulesHidesSpec)) rulesHidesUptoCard

/-- THE SECOND FORM's CARD OF 'hoodwinklaw10.RulesForms'. -/
def rulesFormsUptoCard : Claim7 := { stood := { row := rulesFormsUptoRow, standIns := [], harness := (true, "76c8d8a99d1758dcaf335c839b58cd72c1e04c0ec12a8d388c3952c212517bd6"), looks := false }, kinds := [], alts := [], laidByText := true, laidKinds := [.data], laidTests := true, laidLooks := .later }
def RulesFormsUptoCardSaid : Prop := Claim7.holds Tryd.pinned (.plain (OpenSpec.upto rulesFormsSpec)) rulesFormsUptoCard

/-- THE SECOND FORM's CARD OF 'hoodwinklaw10.RulesTells'. -/
def rulesTellsUptoCard : Claim7 := { stood := { row := rulesTellsUptoRow, standIns := [], harness := (true, "76c8d8a99d1758dcaf335c839b58cd72c1e04c0ec12a8d388c3952c212517bd6"), looks := false }, kinds := [], alts := [], laidByText := true, laidKinds := [.data], laidTests := true, laidLooks := .later }
def RulesTellsUptoCardSaid : Prop := Claim7.holds Tryd.pinned (.plain (OpenSpec.upto rulesTellsSpec)) rulesTellsUptoCard

/-- THE SECOND FORM's CARD OF 'hoodwinklaw10.RulesStarts'. -/
def rulesStartsUptoCard : Claim7 := { stood := { row := rulesStartsUptoRow, standIns := [], harness := (true, "76c8d8a99d1758dcaf335c839b58cd72c1e04c0ec12a8d388c3952c212517bd6"), looks := false }, kinds := [], alts := [], laidByText := true, laidKinds := [.data], laidTests := true, laidLooks := .later }
def RulesStartsUptoCardSaid : Prop := Claim7.holds Tryd.pinned (.plain (OpenSpec.upto rulesStartsSpec)) rulesStartsUptoCard

/-- THE SECOND FORM's CARD OF 'hoodwinklaw10.RulesDefaults'. -/
def rulesDefaultsUptoCard : Claim7 := { stood := { row := rulesDefaultsUptoRow, standIns := [], harness := (true, "76c8d8a99d1758dcaf335c839b58cd72c1e04c0ec12a8d388c3952c212517bd6"), looks := false }, kinds := [], alts := [], laidByText := true, laidKinds := [.data], laidTests := true, laidLooks := .later }
def RulesDefaultsUptoCardSaid : Prop := Claim7.holds Tryd.pinned (.plain (OpenSpec.upto rulesDefaultsSpec)) rulesDefaultsUptoCard

/-- THE SECOND FORM's CARD OF 'hoodwinklaw10.RulesTicks'. -/
def rulesTicksUptoCard : Claim7 := { stood := { row := rulesTicksUptoRow, standIns := [], harness := (true, "76c8d8a99d1758dcaf335c839b58cd72c1e04c0ec12a8d388c3952c212517bd6"), looks := false }, kinds := [], alts := [], laidByText := true, laidKinds := [.data], laidTests := true, laidLooks := .later }
def RulesTicksUptoCardSaid : Prop := Claim7.holds Tryd.pinned (.plain (OpenSpec.upto rulesTicksSpec)) rulesTicksUptoCard

/-- THE SECOND FORM's CARD OF 'hoodwinklaw10.RulesShows'. -/
def rulesShowsUptoCard : Claim7 := { stood := { row := rulesShowsUptoRow, standIns := [], harness := (true, "76c8d8a99d1758dcaf335c839b58cd72c1e04c0ec12a8d388c3952c212517bd6"), looks := false }, kinds := [], alts := [], laidByText := true, laidKinds := [.data], laidTests := true, laidLooks := .later }
def RulesShowsUptoCardSaid : Prop := Claim7.holds Tryd.pinned (.plain (OpenSpec.upto rulesShowsSpec)) rulesShowsUptoCard
end Rows
end Go.Proofs.YtfopdoeiahlhpaaDoor
