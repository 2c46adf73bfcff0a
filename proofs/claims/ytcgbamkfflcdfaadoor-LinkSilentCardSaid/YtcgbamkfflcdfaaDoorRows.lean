/-
  NARROWER THAN 'FOR EVERY INPUT', by the rows' own cells (each row's printed sentence says how): LinkDelivers: laid · LinkSilent: laid · LinkFlows: laid · LinkNil: laid · LinkOnce: laid · LinkResends: laid · LinkWindow: laid · LinkOwes: laid · LinkEpochs: laid.
  DERIVED. THE GIVEN ROWS OF THIS SEAT. 9 by the template 'for every input the law returns true; each argument reads behind the call as it read before'; 0 by the template 'total and deterministic' (their statements: YtcgbamkfflcdfaaDoorTotals.lean).
  GIVEN WITH THE SEED: the statements are not yours to turn. If you find one false, say at which input.
  Laid BY PROGRAM, IN A SANDBOX (cutbox-rows.mjs): the forced cells as the released guide's own fill.sh prints them over the translation 9d82d59b5ddacece… (all of the seat's roots in one cut). By AI agents, Wed Nov 11 2026. No macro, syntax, notation, axiom, sorry.
-/
import Derived.Test.YtcgbamkfflcdfaaDoorChecked
import GoSem.Claim
import GoSem.ClaimJoined
import GoSem.ClaimMapViews
import Derived.JoinedTies
import Derived.KernelRfl
namespace Go.Proofs.YtcgbamkfflcdfaaDoor
/- THE CELL 'sum', in the pinned program and in every row, IS THE sha256 OF THE DUMP (.gsa) THAT YtcgbamkfflcdfaaDoorProg.lean LOADS. Nothing in Lean hashes anything: it is a label: what it is worth is what the hold of that sum in a sandbox is worth. -/
noncomputable def Tryd.pinned : Pinned := { name := "ytcgbamkfflcdfaadoor", sum := "9d82d59b5ddacece80afdc831ed0d1dd7fdc8bc4209c18a1daeb3589aadf2199", checked := Tryd.checked }
namespace Rows
def none {H : Type} : Left H := { results := [], args := [] }

/- WHAT THE LISTED PACKAGE-LEVEL VARIABLES READ AS WHEN THE CALL BEGINS. Each datum BY PROGRAM (the guide's laid-datum.mjs) off the statement by which the dump's own 'gosem.cut.vars' lays the variable. In a bare row this is a premise. The card (YtcgbamkfflcdfaaDoorCards.lean) ties it to the program's text. -/
def laid_math_bits_deBruijn32tab {H : Type} : DataW H := .agg [.lit (.int .u8 0), .lit (.int .u8 1), .lit (.int .u8 28), .lit (.int .u8 2), .lit (.int .u8 29), .lit (.int .u8 14), .lit (.int .u8 24), .lit (.int .u8 3), .lit (.int .u8 30), .lit (.int .u8 22), .lit (.int .u8 20), .lit (.int .u8 15), .lit (.int .u8 25), .lit (.int .u8 17), .lit (.int .u8 4), .lit (.int .u8 8), .lit (.int .u8 31), .lit (.int .u8 27), .lit (.int .u8 13), .lit (.int .u8 23), .lit (.int .u8 21), .lit (.int .u8 19), .lit (.int .u8 16), .lit (.int .u8 7), .lit (.int .u8 26), .lit (.int .u8 12), .lit (.int .u8 18), .lit (.int .u8 6), .lit (.int .u8 11), .lit (.int .u8 5), .lit (.int .u8 10), .lit (.int .u8 9)]

/-- 'hoodwinklaw13.LinkDelivers': WHATEVER THE INPUT: true; the input reads as it did. -/
def linkDeliversSpec : ChangeSpec := { name := "linkDelivers", fn := fun _ => fun
  | [d1, d2, d3, d4] => { results := [.lit (.bool true)], args := [d1, d2, d3, d4] }
  | _ => none }
def linkDeliversRow : OpenClaim := { program := "ytcgbamkfflcdfaadoor", sum := "9d82d59b5ddacece80afdc831ed0d1dd7fdc8bc4209c18a1daeb3589aadf2199", func := "hoodwink/hoodwinklaw13.LinkDelivers", spec := "linkDelivers", unfollowed := true, recurses := true, named := ["math/bits.deBruijn32tab"], apart := false, laid := [("math/bits.deBruijn32tab", laid_math_bits_deBruijn32tab)] }
def LinkDeliversSaid : Prop := linkDeliversRow.holds Tryd.pinned (OpenSpec.ofChange linkDeliversSpec)

/-- ITS FALSE NEIGHBOUR: 'it returns false'. Refute it at one input. -/
def linkDeliversWrong : ChangeSpec := { name := "linkDelivers", fn := fun _ => fun
  | [d1, d2, d3, d4] => { results := [.lit (.bool false)], args := [d1, d2, d3, d4] }
  | _ => none }
def LinkDeliversWrongFalsely : Prop := linkDeliversRow.holds Tryd.pinned (OpenSpec.ofChange linkDeliversWrong)

/-- 'hoodwinklaw13.LinkSilent': WHATEVER THE INPUT: true; the input reads as it did. -/
def linkSilentSpec : ChangeSpec := { name := "linkSilent", fn := fun _ => fun
  | [d1, d2, d3] => { results := [.lit (.bool true)], args := [d1, d2, d3] }
  | _ => none }
def linkSilentRow : OpenClaim := { program := "ytcgbamkfflcdfaadoor", sum := "9d82d59b5ddacece80afdc831ed0d1dd7fdc8bc4209c18a1daeb3589aadf2199", func := "hoodwink/hoodwinklaw13.LinkSilent", spec := "linkSilent", unfollowed := true, recurses := true, named := ["math/bits.deBruijn32tab"], apart := false, laid := [("math/bits.deBruijn32tab", laid_math_bits_deBruijn32tab)] }
def LinkSilentSaid : Prop := linkSilentRow.holds Tryd.pinned (OpenSpec.ofChange linkSilentSpec)

/-- ITS FALSE NEIGHBOUR: 'it returns false'. Refute it at one input. -/
def linkSilentWrong : ChangeSpec := { name := "linkSilent", fn := fun _ => fun
  | [d1, d2, d3] => { results := [.lit (.bool false)], args := [d1, d2, d3] }
  | _ => none }
def LinkSilentWrongFalsely : Prop := linkSilentRow.holds Tryd.pinned (OpenSpec.ofChange linkSilentWrong)

/-- 'hoodwinklaw13.LinkFlows': WHATEVER THE INPUT: true; the input reads as it did. -/
def linkFlowsSpec : ChangeSpec := { name := "linkFlows", fn := fun _ => fun
  | [d1, d2] => { results := [.lit (.bool true)], args := [d1, d2] }
  | _ => none }
def linkFlowsRow : OpenClaim := { program := "ytcgbamkfflcdfaadoor", sum := "9d82d59b5ddacece80afdc831ed0d1dd7fdc8bc4209c18a1daeb3589aadf2199", func := "hoodwink/hoodwinklaw13.LinkFlows", spec := "linkFlows", unfollowed := true, recurses := true, named := ["math/bits.deBruijn32tab"], apart := false, laid := [("math/bits.deBruijn32tab", laid_math_bits_deBruijn32tab)] }
def LinkFlowsSaid : Prop := linkFlowsRow.holds Tryd.pinned (OpenSpec.ofChange linkFlowsSpec)

/-- ITS FALSE NEIGHBOUR: 'it returns false'. Refute it at one input. -/
def linkFlowsWrong : ChangeSpec := { name := "linkFlows", fn := fun _ => fun
  | [d1, d2] => { results := [.lit (.bool false)], args := [d1, d2] }
  | _ => none }
def LinkFlowsWrongFalsely : Prop := linkFlowsRow.holds Tryd.pinned (OpenSpec.ofChange linkFlowsWrong)

/-- 'hoodwinklaw13.LinkNil': WHATEVER THE INPUT: true; the input reads as it did. -/
def linkNilSpec : ChangeSpec := { name := "linkNil", fn := fun _ => fun
  | [d1, d2, d3] => { results := [.lit (.bool true)], args := [d1, d2, d3] }
  | _ => none }
def linkNilRow : OpenClaim := { program := "ytcgbamkfflcdfaadoor", sum := "9d82d59b5ddacece80afdc831ed0d1dd7fdc8bc4209c18a1daeb3589aadf2199", func := "hoodwink/hoodwinklaw13.LinkNil", spec := "linkNil", unfollowed := true, recurses := true, named := ["math/bits.deBruijn32tab"], apart := false, laid := [("math/bits.deBruijn32tab", laid_math_bits_deBruijn32tab)] }
def LinkNilSaid : Prop := linkNilRow.holds Tryd.pinned (OpenSpec.ofChange linkNilSpec)

/-- ITS FALSE NEIGHBOUR: 'it returns false'. Refute it at one input. -/
def linkNilWrong : ChangeSpec := { name := "linkNil", fn := fun _ => fun
  | [d1, d2, d3] => { results := [.lit (.bool false)], args := [d1, d2, d3] }
  | _ => none }
def LinkNilWrongFalsely : Prop := linkNilRow.holds Tryd.pinned (OpenSpec.ofChange linkNilWrong)

/-- 'hoodwinklaw13.LinkOnce': WHATEVER THE INPUT: true; the input reads as it did. -/
def linkOnceSpec : ChangeSpec := { name := "linkOnce", fn := fun _ => fun
  | [d1, d2, d3] => { results := [.lit (.bool true)], args := [d1, d2, d3] }
  | _ => none }
def linkOnceRow : OpenClaim := { program := "ytcgbamkfflcdfaadoor", sum := "9d82d59b5ddacece80afdc831ed0d1dd7fdc8bc4209c18a1daeb3589aadf2199", func := "hoodwink/hoodwinklaw13.LinkOnce", spec := "linkOnce", unfollowed := true, recurses := true, named := ["math/bits.deBruijn32tab"], apart := false, laid := [("math/bits.deBruijn32tab", laid_math_bits_deBruijn32tab)] }
def LinkOnceSaid : Prop := linkOnceRow.holds Tryd.pinned (OpenSpec.ofChange linkOnceSpec)

/-- ITS FALSE NEIGHBOUR: 'it returns false'. Refute it at one input. -/
def linkOnceWrong : ChangeSpec := { name := "linkOnce", fn := fun _ => fun
  | [d1, d2, d3] => { results := [.lit (.bool false)], args := [d1, d2, d3] }
  | _ => none }
def LinkOnceWrongFalsely : Prop := linkOnceRow.holds Tryd.pinned (OpenSpec.ofChange linkOnceWrong)

/-- 'hoodwinklaw13.LinkResends': WHATEVER THE INPUT: true; the input reads as it did. -/
def linkResendsSpec : ChangeSpec := { name := "linkResends", fn := fun _ => fun
  | [d1, d2, d3] => { results := [.lit (.bool true)], args := [d1, d2, d3] }
  | _ => none }
def linkResendsRow : OpenClaim := { program := "ytcgbamkfflcdfaadoor", sum := "9d82d59b5ddacece80afdc831ed0d1dd7fdc8bc4209c18a1daeb3589aadf2199", func := "hoodwink/hoodwinklaw13.LinkResends", spec := "linkResends", unfollowed := true, recurses := true, named := ["math/bits.deBruijn32tab"], apart := false, laid := [("math/bits.deBruijn32tab", laid_math_bits_deBruijn32tab)] }
def LinkResendsSaid : Prop := linkResendsRow.holds Tryd.pinned (OpenSpec.ofChange linkResendsSpec)

/-- ITS FALSE NEIGHBOUR: 'it returns false'. Refute it at one input. -/
def linkResendsWrong : ChangeSpec := { name := "linkResends", fn := fun _ => fun
  | [d1, d2, d3] => { results := [.lit (.bool false)], args := [d1, d2, d3] }
  | _ => none }
def LinkResendsWrongFalsely : Prop := linkResendsRow.holds Tryd.pinned (OpenSpec.ofChange linkResendsWrong)

/-- 'hoodwinklaw13.LinkWindow': WHATEVER THE INPUT: true; the input reads as it did. -/
def linkWindowSpec : ChangeSpec := { name := "linkWindow", fn := fun _ => fun
  | [d1, d2] => { results := [.lit (.bool true)], args := [d1, d2] }
  | _ => none }
def linkWindowRow : OpenClaim := { program := "ytcgbamkfflcdfaadoor", sum := "9d82d59b5ddacece80afdc831ed0d1dd7fdc8bc4209c18a1daeb3589aadf2199", func := "hoodwink/hoodwinklaw13.LinkWindow", spec := "linkWindow", unfollowed := true, recurses := true, named := ["math/bits.deBruijn32tab"], apart := false, laid := [("math/bits.deBruijn32tab", laid_math_bits_deBruijn32tab)] }
def LinkWindowSaid : Prop := linkWindowRow.holds Tryd.pinned (OpenSpec.ofChange linkWindowSpec)

/-- ITS FALSE NEIGHBOUR: 'it returns false'. Refute it at one input. -/
def linkWindowWrong : ChangeSpec := { name := "linkWindow", fn := fun _ => fun
  | [d1, d2] => { results := [.lit (.bool false)], args := [d1, d2] }
  | _ => none }
def LinkWindowWrongFalsely : Prop := linkWindowRow.holds Tryd.pinned (OpenSpec.ofChange linkWindowWrong)

/-- 'hoodwinklaw13.LinkOwes': WHATEVER THE INPUT: true; the input reads as it did. -/
def linkOwesSpec : ChangeSpec := { name := "linkOwes", fn := fun _ => fun
  | [d1, d2, d3] => { results := [.lit (.bool true)], args := [d1, d2, d3] }
  | _ => none }
def linkOwesRow : OpenClaim := { program := "ytcgbamkfflcdfaadoor", sum := "9d82d59b5ddacece80afdc831ed0d1dd7fdc8bc4209c18a1daeb3589aadf2199", func := "hoodwink/hoodwinklaw13.LinkOwes", spec := "linkOwes", unfollowed := true, recurses := true, named := ["math/bits.deBruijn32tab"], apart := false, laid := [("math/bits.deBruijn32tab", laid_math_bits_deBruijn32tab)] }
def LinkOwesSaid : Prop := linkOwesRow.holds Tryd.pinned (OpenSpec.ofChange linkOwesSpec)

/-- ITS FALSE NEIGHBOUR: 'it returns false'. Refute it at one input. -/
def linkOwesWrong : ChangeSpec := { name := "linkOwes", fn := fun _ => fun
  | [d1, d2, d3] => { results := [.lit (.bool false)], args := [d1, d2, d3] }
  | _ => none }
def LinkOwesWrongFalsely : Prop := linkOwesRow.holds Tryd.pinned (OpenSpec.ofChange linkOwesWrong)

/-- 'hoodwinklaw13.LinkEpochs': WHATEVER THE INPUT: true; the input reads as it did. -/
def linkEpochsSpec : ChangeSpec := { name := "linkEpochs", fn := fun _ => fun
  | [d1, d2, d3] => { results := [.lit (.bool true)], args := [d1, d2, d3] }
  | _ => none }
def linkEpochsRow : OpenClaim := { program := "ytcgbamkfflcdfaadoor", sum := "9d82d59b5ddacece80afdc831ed0d1dd7fdc8bc4209c18a1daeb3589aadf2199", func := "hoodwink/hoodwinklaw13.LinkEpochs", spec := "linkEpochs", unfollowed := true, recurses := true, named := ["math/bits.deBruijn32tab"], apart := false, laid := [("math/bits.deBruijn32tab", laid_math_bits_deBruijn32tab)] }
def LinkEpochsSaid : Prop := linkEpochsRow.holds Tryd.pinned (OpenSpec.ofChange linkEpochsSpec)

/-- ITS FALSE NEIGHBOUR: 'it returns false'. Refute it at one input. -/
def linkEpochsWrong : ChangeSpec := { name := "linkEpochs", fn := fun _ => fun
  | [d1, d2, d3] => { results := [.lit (.bool false)], args := [d1, d2, d3] }
  | _ => none }
def LinkEpochsWrongFalsely : Prop := linkEpochsRow.holds Tryd.pinned (OpenSpec.ofChange linkEpochsWrong)

/- THE SECOND FORM. 'bulk': how many values and letters a reading holds, each counted each time it is reached (what is shared counts as often as it is met; a slice's spare places count too). A statement '..UptoSaid' is the law's where the arguments, and the package variables that the reading takes, are together of bulk at most 1048576: NARROWER than '..Said'. Prove '..Said' where nothing that the law and all that it calls make is longer than what came in: it says more and counts as full. Else prove '..UptoSaid'. A law counts once. -/
mutual
def uptoBulk {H : Type} : DataW H → Nat
  | .lit (.string bytes) => bytes.length + 1
  | .lit _ => 1
  | .nil => 1
  | .ptr d => uptoBulk d + 1
  | .slice elems spare => uptoBulkAll elems + uptoBulkAll spare + 1
  | .agg parts => uptoBulkAll parts + 1
  | .iface _ d => uptoBulk d + 1
  | .map entries => uptoBulkEntries entries + 1
  | .held _ => 1
def uptoBulkAll {H : Type} : List (DataW H) → Nat
  | [] => 0
  | d :: r => uptoBulk d + uptoBulkAll r
def uptoBulkEntries {H : Type} : List (Lit × DataW H) → Nat
  | [] => 0
  | x :: r => uptoBulkEntry x + uptoBulkEntries r
def uptoBulkEntry {H : Type} : Lit × DataW H → Nat
  | (.string bytes, d) => bytes.length + uptoBulk d + 1
  | (_, d) => uptoBulk d + 1
 end
def uptoSmall : (H : Type) → List (DataW H) → Bool := fun _ ds => decide (uptoBulkAll ds ≤ 1048576)
def OpenSpec.upto (s : _root_.Go.ChangeSpec) : _root_.Go.OpenSpec := { _root_.Go.OpenSpec.ofChange s with cond := some uptoSmall }

/-- 'hoodwinklaw13.LinkDelivers', WHERE WHAT IT READS IS OF BULK AT MOST 1048576: true; the input reads as it did. -/
def linkDeliversUptoRow : OpenClaim := { program := "ytcgbamkfflcdfaadoor", sum := "9d82d59b5ddacece80afdc831ed0d1dd7fdc8bc4209c18a1daeb3589aadf2199", func := "hoodwink/hoodwinklaw13.LinkDelivers", spec := "linkDelivers", unfollowed := true, recurses := true, named := ["math/bits.deBruijn32tab"], apart := false, laid := [("math/bits.deBruijn32tab", laid_math_bits_deBruijn32tab)], narrowed := true }
def LinkDeliversUptoSaid : Prop := linkDeliversUptoRow.holds Tryd.pinned (OpenSpec.upto linkDeliversSpec)

/-- 'hoodwinklaw13.LinkSilent', WHERE WHAT IT READS IS OF BULK AT MOST 1048576: true; the input reads as it did. -/
def linkSilentUptoRow : OpenClaim := { program := "ytcgbamkfflcdfaadoor", sum := "9d82d59b5ddacece80afdc831ed0d1dd7fdc8bc4209c18a1daeb3589aadf2199", func := "hoodwink/hoodwinklaw13.LinkSilent", spec := "linkSilent", unfollowed := true, recurses := true, named := ["math/bits.deBruijn32tab"], apart := false, laid := [("math/bits.deBruijn32tab", laid_math_bits_deBruijn32tab)], narrowed := true }
def LinkSilentUptoSaid : Prop := linkSilentUptoRow.holds Tryd.pinned (OpenSpec.upto linkSilentSpec)

/-- 'hoodwinklaw13.LinkFlows', WHERE WHAT IT READS IS OF BULK AT MOST 1048576: true; the input reads as it did. -/
def linkFlowsUptoRow : OpenClaim := { program := "ytcgbamkfflcdfaadoor", sum := "9d82d59b5ddacece80afdc831ed0d1dd7fdc8bc4209c18a1daeb3589aadf2199", func := "hoodwink/hoodwinklaw13.LinkFlows", spec := "linkFlows", unfollowed := true, recurses := true, named := ["math/bits.deBruijn32tab"], apart := false, laid := [("math/bits.deBruijn32tab", laid_math_bits_deBruijn32tab)], narrowed := true }
def LinkFlowsUptoSaid : Prop := linkFlowsUptoRow.holds Tryd.pinned (OpenSpec.upto linkFlowsSpec)

/-- 'hoodwinklaw13.LinkNil', WHERE WHAT IT READS IS OF BULK AT MOST 1048576: true; the input reads as it did. -/
def linkNilUptoRow : OpenClaim := { program := "ytcgbamkfflcdfaadoor", sum := "9d82d59b5ddacece80afdc831ed0d1dd7fdc8bc4209c18a1daeb3589aadf2199", func := "hoodwink/hoodwinklaw13.LinkNil", spec := "linkNil", unfollowed := true, recurses := true, named := ["math/bits.deBruijn32tab"], apart := false, laid := [("math/bits.deBruijn32tab", laid_math_bits_deBruijn32tab)], narrowed := true }
def LinkNilUptoSaid : Prop := linkNilUptoRow.holds Tryd.pinned (OpenSpec.upto linkNilSpec)

/-- 'hoodwinklaw13.LinkOnce', WHERE WHAT IT READS IS OF BULK AT MOST 1048576: true; the input reads as it did. -/
def linkOnceUptoRow : OpenClaim := { program := "ytcgbamkfflcdfaadoor", sum := "9d82d59b5ddacece80afdc831ed0d1dd7fdc8bc4209c18a1daeb3589aadf2199", func := "hoodwink/hoodwinklaw13.LinkOnce", spec := "linkOnce", unfollowed := true, recurses := true, named := ["math/bits.deBruijn32tab"], apart := false, laid := [("math/bits.deBruijn32tab", laid_math_bits_deBruijn32tab)], narrowed := true }
def LinkOnceUptoSaid : Prop := linkOnceUptoRow.holds Tryd.pinned (OpenSpec.upto linkOnceSpec)

/-- 'hoodwinklaw13.LinkResends', WHERE WHAT IT READS IS OF BULK AT MOST 1048576: true; the input reads as it did. -/
def linkResendsUptoRow : OpenClaim := { program := "ytcgbamkfflcdfaadoor", sum := "9d82d59b5ddacece80afdc831ed0d1dd7fdc8bc4209c18a1daeb3589aadf2199", func := "hoodwink/hoodwinklaw13.LinkResends", spec := "linkResends", unfollowed := true, recurses := true, named := ["math/bits.deBruijn32tab"], apart := false, laid := [("math/bits.deBruijn32tab", laid_math_bits_deBruijn32tab)], narrowed := true }
def LinkResendsUptoSaid : Prop := linkResendsUptoRow.holds Tryd.pinned (OpenSpec.upto linkResendsSpec)

/-- 'hoodwinklaw13.LinkWindow', WHERE WHAT IT READS IS OF BULK AT MOST 1048576: true; the input reads as it did. -/
def linkWindowUptoRow : OpenClaim := { program := "ytcgbamkfflcdfaadoor", sum := "9d82d59b5ddacece80afdc831ed0d1dd7fdc8bc4209c18a1daeb3589aadf2199", func := "hoodwink/hoodwinklaw13.LinkWindow", spec := "linkWindow", unfollowed := true, recurses := true, named := ["math/bits.deBruijn32tab"], apart := false, laid := [("math/bits.deBruijn32tab", laid_math_bits_deBruijn32tab)], narrowed := true }
def LinkWindowUptoSaid : Prop := linkWindowUptoRow.holds Tryd.pinned (OpenSpec.upto linkWindowSpec)

/-- 'hoodwinklaw13.LinkOwes', WHERE WHAT IT READS IS OF BULK AT MOST 1048576: true; the input reads as it did. -/
def linkOwesUptoRow : OpenClaim := { program := "ytcgbamkfflcdfaadoor", sum := "9d82d59b5ddacece80afdc831ed0d1dd7fdc8bc4209c18a1daeb3589aadf2199", func := "hoodwink/hoodwinklaw13.LinkOwes", spec := "linkOwes", unfollowed := true, recurses := true, named := ["math/bits.deBruijn32tab"], apart := false, laid := [("math/bits.deBruijn32tab", laid_math_bits_deBruijn32tab)], narrowed := true }
def LinkOwesUptoSaid : Prop := linkOwesUptoRow.holds Tryd.pinned (OpenSpec.upto linkOwesSpec)

/-- 'hoodwinklaw13.LinkEpochs', WHERE WHAT IT READS IS OF BULK AT MOST 1048576: true; the input reads as it did. -/
def linkEpochsUptoRow : OpenClaim := { program := "ytcgbamkfflcdfaadoor", sum := "9d82d59b5ddacece80afdc831ed0d1dd7fdc8bc4209c18a1daeb3589aadf2199", func := "hoodwink/hoodwinklaw13.LinkEpochs", spec := "linkEpochs", unfollowed := true, recurses := true, named := ["math/bits.deBruijn32tab"], apart := false, laid := [("math/bits.deBruijn32tab", laid_math_bits_deBruijn32tab)], narrowed := true }
def LinkEpochsUptoSaid : Prop := linkEpochsUptoRow.holds Tryd.pinned (OpenSpec.upto linkEpochsSpec)

end Rows
end Go.Proofs.YtcgbamkfflcdfaaDoor
