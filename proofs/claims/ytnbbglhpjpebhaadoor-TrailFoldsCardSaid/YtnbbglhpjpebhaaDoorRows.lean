/-
  NARROWER THAN 'FOR EVERY INPUT', by the rows' own cells (each row's printed sentence says how): TrailRight: laid · TrailFull: laid · TrailNil: laid · TrailRolls: laid · TrailFolds: laid.
  DERIVED. THE GIVEN ROWS OF THIS SEAT. 5 by the template 'for every input the law returns true; each argument reads behind the call as it read before'; 0 by the template 'total and deterministic' (their statements: YtnbbglhpjpebhaaDoorTotals.lean).
  GIVEN WITH THE SEED: the statements are not yours to turn. If you find one false, say at which input.
  Laid BY PROGRAM, IN A SANDBOX (cutbox-rows.mjs): the forced cells as the released guide's own fill.sh prints them over the translation 2250ac4b0e5d6ffb… (all of the seat's roots in one cut). By AI agents, Wed Nov 11 2026. No macro, syntax, notation, axiom, sorry.
-/
import Derived.Test.YtnbbglhpjpebhaaDoorChecked
import GoSem.Claim
import GoSem.ClaimJoined
import GoSem.ClaimMapViews
import Derived.JoinedTies
import Derived.KernelRfl
namespace Go.Proofs.YtnbbglhpjpebhaaDoor
/- THE CELL 'sum', in the pinned program and in every row, IS THE sha256 OF THE DUMP (.gsa) THAT YtnbbglhpjpebhaaDoorProg.lean LOADS. Nothing in Lean hashes anything: it is a label: what it is worth is what the hold of that sum in a sandbox is worth. -/
noncomputable def Tryd.pinned : Pinned := { name := "ytnbbglhpjpebhaadoor", sum := "2250ac4b0e5d6ffbc2b34f358b96ac79528d39f872ef45fa2ad3c67c05efb604", checked := Tryd.checked }
namespace Rows
def none {H : Type} : Left H := { results := [], args := [] }

/- WHAT THE LISTED PACKAGE-LEVEL VARIABLES READ AS WHEN THE CALL BEGINS. Each datum BY PROGRAM (the guide's laid-datum.mjs) off the statement by which the dump's own 'gosem.cut.vars' lays the variable. In a bare row this is a premise. The card (YtnbbglhpjpebhaaDoorCards.lean) ties it to the program's text. -/
def laid_hoodwink_code_shapes {H : Type} : DataW H := .agg [.agg [.lit (.string [115, 116, 111, 112]), .lit (.int .u8 0), .lit (.int .u8 0)], .agg [.lit (.string [115, 101, 116]), .lit (.int .u8 1), .lit (.int .u8 1)], .agg [.lit (.string [108, 111, 97, 100]), .lit (.int .u8 1), .lit (.int .u8 3)], .agg [.lit (.string [115, 116, 111, 114, 101]), .lit (.int .u8 1), .lit (.int .u8 3)], .agg [.lit (.string [108, 111, 97, 100, 97, 116]), .lit (.int .u8 3), .lit (.int .u8 3)], .agg [.lit (.string [115, 116, 111, 114, 101, 97, 116]), .lit (.int .u8 3), .lit (.int .u8 3)], .agg [.lit (.string [97, 100, 100]), .lit (.int .u8 7), .lit (.int .u8 0)], .agg [.lit (.string [115, 117, 98]), .lit (.int .u8 7), .lit (.int .u8 0)], .agg [.lit (.string [109, 117, 108]), .lit (.int .u8 7), .lit (.int .u8 0)], .agg [.lit (.string [100, 105, 118]), .lit (.int .u8 7), .lit (.int .u8 0)], .agg [.lit (.string [109, 111, 100]), .lit (.int .u8 7), .lit (.int .u8 0)], .agg [.lit (.string [97, 110, 100]), .lit (.int .u8 7), .lit (.int .u8 0)], .agg [.lit (.string [111, 114]), .lit (.int .u8 7), .lit (.int .u8 0)], .agg [.lit (.string [120, 111, 114]), .lit (.int .u8 7), .lit (.int .u8 0)], .agg [.lit (.string [115, 104, 108]), .lit (.int .u8 7), .lit (.int .u8 0)], .agg [.lit (.string [115, 104, 114]), .lit (.int .u8 7), .lit (.int .u8 0)], .agg [.lit (.string [108, 101, 115, 115]), .lit (.int .u8 7), .lit (.int .u8 0)], .agg [.lit (.string [101, 113, 117, 97, 108]), .lit (.int .u8 7), .lit (.int .u8 0)], .agg [.lit (.string [115, 101, 108, 101, 99, 116]), .lit (.int .u8 7), .lit (.int .u8 0)], .agg [.lit (.string [98, 114, 97, 110, 99, 104]), .lit (.int .u8 1), .lit (.int .u8 4)], .agg [.lit (.string [106, 117, 109, 112]), .lit (.int .u8 0), .lit (.int .u8 4)], .agg [.lit (.string [109, 111, 118, 101]), .lit (.int .u8 1), .lit (.int .u8 5)], .agg [.lit (.string [114, 101, 118, 101, 97, 108]), .lit (.int .u8 18), .lit (.int .u8 3)], .agg [.lit (.string [114, 111, 108, 108]), .lit (.int .u8 1), .lit (.int .u8 2)], .agg [.lit (.string [115, 104, 117, 102, 102, 108, 101]), .lit (.int .u8 8), .lit (.int .u8 3)], .agg [.lit (.string [99, 108, 111, 99, 107]), .lit (.int .u8 1), .lit (.int .u8 0)]]

/-- 'hoodwinklaw16.TrailRight': WHATEVER THE INPUT: true; the input reads as it did. -/
def trailRightSpec : ChangeSpec := { name := "trailRight", fn := fun _ => fun
  | [d1, d2, d3] => { results := [.lit (.bool true)], args := [d1, d2, d3] }
  | _ => none }
def trailRightRow : OpenClaim := { program := "ytnbbglhpjpebhaadoor", sum := "2250ac4b0e5d6ffbc2b34f358b96ac79528d39f872ef45fa2ad3c67c05efb604", func := "hoodwink/hoodwinklaw16.TrailRight", spec := "trailRight", unfollowed := true, recurses := true, named := ["hoodwink/code.shapes"], apart := false, laid := [("hoodwink/code.shapes", laid_hoodwink_code_shapes)] }
def TrailRightSaid : Prop := trailRightRow.holds Tryd.pinned (OpenSpec.ofChange trailRightSpec)

/-- ITS FALSE NEIGHBOUR: 'it returns false'. Refute it at one input. -/
def trailRightWrong : ChangeSpec := { name := "trailRight", fn := fun _ => fun
  | [d1, d2, d3] => { results := [.lit (.bool false)], args := [d1, d2, d3] }
  | _ => none }
def TrailRightWrongFalsely : Prop := trailRightRow.holds Tryd.pinned (OpenSpec.ofChange trailRightWrong)

/-- 'hoodwinklaw16.TrailFull': WHATEVER THE INPUT: true; the input reads as it did. -/
def trailFullSpec : ChangeSpec := { name := "trailFull", fn := fun _ => fun
  | [d1, d2, d3] => { results := [.lit (.bool true)], args := [d1, d2, d3] }
  | _ => none }
def trailFullRow : OpenClaim := { program := "ytnbbglhpjpebhaadoor", sum := "2250ac4b0e5d6ffbc2b34f358b96ac79528d39f872ef45fa2ad3c67c05efb604", func := "hoodwink/hoodwinklaw16.TrailFull", spec := "trailFull", unfollowed := true, recurses := true, named := ["hoodwink/code.shapes"], apart := false, laid := [("hoodwink/code.shapes", laid_hoodwink_code_shapes)] }
def TrailFullSaid : Prop := trailFullRow.holds Tryd.pinned (OpenSpec.ofChange trailFullSpec)

/-- ITS FALSE NEIGHBOUR: 'it returns false'. Refute it at one input. -/
def trailFullWrong : ChangeSpec := { name := "trailFull", fn := fun _ => fun
  | [d1, d2, d3] => { results := [.lit (.bool false)], args := [d1, d2, d3] }
  | _ => none }
def TrailFullWrongFalsely : Prop := trailFullRow.holds Tryd.pinned (OpenSpec.ofChange trailFullWrong)

/-- 'hoodwinklaw16.TrailNil': WHATEVER THE INPUT: true; the input reads as it did. -/
def trailNilSpec : ChangeSpec := { name := "trailNil", fn := fun _ => fun
  | [d1, d2, d3] => { results := [.lit (.bool true)], args := [d1, d2, d3] }
  | _ => none }
def trailNilRow : OpenClaim := { program := "ytnbbglhpjpebhaadoor", sum := "2250ac4b0e5d6ffbc2b34f358b96ac79528d39f872ef45fa2ad3c67c05efb604", func := "hoodwink/hoodwinklaw16.TrailNil", spec := "trailNil", unfollowed := true, recurses := true, named := ["hoodwink/code.shapes"], apart := false, laid := [("hoodwink/code.shapes", laid_hoodwink_code_shapes)] }
def TrailNilSaid : Prop := trailNilRow.holds Tryd.pinned (OpenSpec.ofChange trailNilSpec)

/-- ITS FALSE NEIGHBOUR: 'it returns false'. Refute it at one input. -/
def trailNilWrong : ChangeSpec := { name := "trailNil", fn := fun _ => fun
  | [d1, d2, d3] => { results := [.lit (.bool false)], args := [d1, d2, d3] }
  | _ => none }
def TrailNilWrongFalsely : Prop := trailNilRow.holds Tryd.pinned (OpenSpec.ofChange trailNilWrong)

/-- 'hoodwinklaw16.TrailRolls': WHATEVER THE INPUT: true; the input reads as it did. -/
def trailRollsSpec : ChangeSpec := { name := "trailRolls", fn := fun _ => fun
  | [d1, d2, d3, d4] => { results := [.lit (.bool true)], args := [d1, d2, d3, d4] }
  | _ => none }
def trailRollsRow : OpenClaim := { program := "ytnbbglhpjpebhaadoor", sum := "2250ac4b0e5d6ffbc2b34f358b96ac79528d39f872ef45fa2ad3c67c05efb604", func := "hoodwink/hoodwinklaw16.TrailRolls", spec := "trailRolls", unfollowed := true, recurses := true, named := ["hoodwink/code.shapes"], apart := false, laid := [("hoodwink/code.shapes", laid_hoodwink_code_shapes)] }
def TrailRollsSaid : Prop := trailRollsRow.holds Tryd.pinned (OpenSpec.ofChange trailRollsSpec)

/-- ITS FALSE NEIGHBOUR: 'it returns false'. Refute it at one input. -/
def trailRollsWrong : ChangeSpec := { name := "trailRolls", fn := fun _ => fun
  | [d1, d2, d3, d4] => { results := [.lit (.bool false)], args := [d1, d2, d3, d4] }
  | _ => none }
def TrailRollsWrongFalsely : Prop := trailRollsRow.holds Tryd.pinned (OpenSpec.ofChange trailRollsWrong)

/-- 'hoodwinklaw16.TrailFolds': WHATEVER THE INPUT: true; the input reads as it did. -/
def trailFoldsSpec : ChangeSpec := { name := "trailFolds", fn := fun _ => fun
  | [d1, d2, d3, d4] => { results := [.lit (.bool true)], args := [d1, d2, d3, d4] }
  | _ => none }
def trailFoldsRow : OpenClaim := { program := "ytnbbglhpjpebhaadoor", sum := "2250ac4b0e5d6ffbc2b34f358b96ac79528d39f872ef45fa2ad3c67c05efb604", func := "hoodwink/hoodwinklaw16.TrailFolds", spec := "trailFolds", unfollowed := true, recurses := true, named := ["hoodwink/code.shapes"], apart := false, laid := [("hoodwink/code.shapes", laid_hoodwink_code_shapes)] }
def TrailFoldsSaid : Prop := trailFoldsRow.holds Tryd.pinned (OpenSpec.ofChange trailFoldsSpec)

/-- ITS FALSE NEIGHBOUR: 'it returns false'. Refute it at one input. -/
def trailFoldsWrong : ChangeSpec := { name := "trailFolds", fn := fun _ => fun
  | [d1, d2, d3, d4] => { results := [.lit (.bool false)], args := [d1, d2, d3, d4] }
  | _ => none }
def TrailFoldsWrongFalsely : Prop := trailFoldsRow.holds Tryd.pinned (OpenSpec.ofChange trailFoldsWrong)

/- THE SECOND FORM. 'bulk': how many values and letters a reading holds, each counted each time it is reached (what is shared counts as often as it is met; a slice's spare places count too). A statement '..UptoSaid' is the law's where the arguments, and the package variables that the reading takes, are together of bulk at most 1048576: NARROWER than '..Said'. Prove '..Said' where nothing that the law and all that it calls make is longer than what came in: it says more and counts as full. Else prove '..UptoSaid'. A law counts once. -/
mutual
def uptoBulk {H : Type} : DataW H → Nat
  | .lit (.string bytes) => bytes.length + 1
  | .lit _ => 1
  | .nil => 1
  | .ptr d => uptoBulk d + 1
  | .slice elems spare => uptoBulkAll elems + uptoBulkAll spare + 1
  | .agg parts => uptoBulkAll parts + 1
  | .iface _ d => uptoBulk d + 1
  | .map entries => uptoBulkEntries entries + 1
  | .held _ => 1
def uptoBulkAll {H : Type} : List (DataW H) → Nat
  | [] => 0
  | d :: r => uptoBulk d + uptoBulkAll r
def uptoBulkEntries {H : Type} : List (Lit × DataW H) → Nat
  | [] => 0
  | x :: r => uptoBulkEntry x + uptoBulkEntries r
def uptoBulkEntry {H : Type} : Lit × DataW H → Nat
  | (.string bytes, d) => bytes.length + uptoBulk d + 1
  | (_, d) => uptoBulk d + 1
 end
def uptoSmall : (H : Type) → List (DataW H) → Bool := fun _ ds => decide (uptoBulkAll ds ≤ 1048576)
def OpenSpec.upto (s : _root_.Go.ChangeSpec) : _root_.Go.OpenSpec := { _root_.Go.OpenSpec.ofChange s with cond := some uptoSmall }

/-- 'hoodwinklaw16.TrailRight', WHERE WHAT IT READS IS OF BULK AT MOST 1048576: true; the input reads as it did. -/
def trailRightUptoRow : OpenClaim := { program := "ytnbbglhpjpebhaadoor", sum := "2250ac4b0e5d6ffbc2b34f358b96ac79528d39f872ef45fa2ad3c67c05efb604", func := "hoodwink/hoodwinklaw16.TrailRight", spec := "trailRight", unfollowed := true, recurses := true, named := ["hoodwink/code.shapes"], apart := false, laid := [("hoodwink/code.shapes", laid_hoodwink_code_shapes)], narrowed := true }
def TrailRightUptoSaid : Prop := trailRightUptoRow.holds Tryd.pinned (OpenSpec.upto trailRightSpec)

/-- 'hoodwinklaw16.TrailFull', WHERE WHAT IT READS IS OF BULK AT MOST 1048576: true; the input reads as it did. -/
def trailFullUptoRow : OpenClaim := { program := "ytnbbglhpjpebhaadoor", sum := "2250ac4b0e5d6ffbc2b34f358b96ac79528d39f872ef45fa2ad3c67c05efb604", func := "hoodwink/hoodwinklaw16.TrailFull", spec := "trailFull", unfollowed := true, recurses := true, named := ["hoodwink/code.shapes"], apart := false, laid := [("hoodwink/code.shapes", laid_hoodwink_code_shapes)], narrowed := true }
def TrailFullUptoSaid : Prop := trailFullUptoRow.holds Tryd.pinned (OpenSpec.upto trailFullSpec)

/-- 'hoodwinklaw16.TrailNil', WHERE WHAT IT READS IS OF BULK AT MOST 1048576: true; the input reads as it did. -/
def trailNilUptoRow : OpenClaim := { program := "ytnbbglhpjpebhaadoor", sum := "2250ac4b0e5d6ffbc2b34f358b96ac79528d39f872ef45fa2ad3c67c05efb604", func := "hoodwink/hoodwinklaw16.TrailNil", spec := "trailNil", unfollowed := true, recurses := true, named := ["hoodwink/code.shapes"], apart := false, laid := [("hoodwink/code.shapes", laid_hoodwink_code_shapes)], narrowed := true }
def TrailNilUptoSaid : Prop := trailNilUptoRow.holds Tryd.pinned (OpenSpec.upto trailNilSpec)

/-- 'hoodwinklaw16.TrailRolls', WHERE WHAT IT READS IS OF BULK AT MOST 1048576: true; the input reads as it did. -/
def trailRollsUptoRow : OpenClaim := { program := "ytnbbglhpjpebhaadoor", sum := "2250ac4b0e5d6ffbc2b34f358b96ac79528d39f872ef45fa2ad3c67c05efb604", func := "hoodwink/hoodwinklaw16.TrailRolls", spec := "trailRolls", unfollowed := true, recurses := true, named := ["hoodwink/code.shapes"], apart := false, laid := [("hoodwink/code.shapes", laid_hoodwink_code_shapes)], narrowed := true }
def TrailRollsUptoSaid : Prop := trailRollsUptoRow.holds Tryd.pinned (OpenSpec.upto trailRollsSpec)

/-- 'hoodwinklaw16.TrailFolds', WHERE WHAT IT READS IS OF BULK AT MOST 1048576: true; the input reads as it did. -/
def trailFoldsUptoRow : OpenClaim := { program := "ytnbbglhpjpebhaadoor", sum := "2250ac4b0e5d6ffbc2b34f358b96ac79528d39f872ef45fa2ad3c67c05efb604", func := "hoodwink/hoodwinklaw16.TrailFolds", spec := "trailFolds", unfollowed := true, recurses := true, named := ["hoodwink/code.shapes"], apart := false, laid := [("hoodwink/code.shapes", laid_hoodwink_code_shapes)], narrowed := true }
def TrailFoldsUptoSaid : Prop := trailFoldsUptoRow.holds Tryd.pinned (OpenSpec.upto trailFoldsSpec)

end Rows
end Go.Proofs.YtnbbglhpjpebhaaDoor
