/-
  NARROWER THAN 'FOR EVERY INPUT', by the rows' own cells (each row's printed sentence says how): DeskPlays: laid · DeskApart: laid · DeskNil: laid · DeskFirst: laid · DeskTimes: laid · DeskWrong: laid.
  DERIVED. THE GIVEN ROWS OF THIS SEAT. 6 by the template 'for every input the law returns true; each argument reads behind the call as it read before'; 0 by the template 'total and deterministic' (their statements: YtglmciklegifaaaDoorTotals.lean).
  GIVEN WITH THE SEED: the statements are not yours to turn. If you find one false, say at which input.
  Laid BY PROGRAM, IN A SANDBOX (cutbox-rows.mjs): the forced cells as the released guide's own fill.sh prints them over the translation 47d7be8fc5a3f4ea… (all of the seat's roots in one cut). By AI agents, Wed Nov 11 2026. No macro, syntax, notation, axiom, sorry.
-/
import Derived.Test.YtglmciklegifaaaDoorChecked
import GoSem.Claim
import GoSem.ClaimJoined
import GoSem.ClaimMapViews
import Derived.JoinedTies
import Derived.KernelRfl
namespace Go.Proofs.YtglmciklegifaaaDoor
/- THE CELL 'sum', in the pinned program and in every row, IS THE sha256 OF THE DUMP (.gsa) THAT YtglmciklegifaaaDoorProg.lean LOADS. Nothing in Lean hashes anything: it is a label: what it is worth is what the hold of that sum in a sandbox is worth. -/
noncomputable def Tryd.pinned : Pinned := { name := "ytglmciklegifaaadoor", sum := "47d7be8fc5a3f4ea879d52148cff904a0103146323f33ac366054b1374f69bf7", checked := Tryd.checked }
namespace Rows
def none {H : Type} : Left H := { results := [], args := [] }

/- WHAT THE LISTED PACKAGE-LEVEL VARIABLES READ AS WHEN THE CALL BEGINS. Each datum BY PROGRAM (the guide's laid-datum.mjs) off the statement by which the dump's own 'gosem.cut.vars' lays the variable. In a bare row this is a premise. The card (YtglmciklegifaaaDoorCards.lean) ties it to the program's text. -/
def laid_hoodwink_code_shapes {H : Type} : DataW H := .agg [.agg [.lit (.string [115, 116, 111, 112]), .lit (.int .u8 0), .lit (.int .u8 0)], .agg [.lit (.string [115, 101, 116]), .lit (.int .u8 1), .lit (.int .u8 1)], .agg [.lit (.string [108, 111, 97, 100]), .lit (.int .u8 1), .lit (.int .u8 3)], .agg [.lit (.string [115, 116, 111, 114, 101]), .lit (.int .u8 1), .lit (.int .u8 3)], .agg [.lit (.string [108, 111, 97, 100, 97, 116]), .lit (.int .u8 3), .lit (.int .u8 3)], .agg [.lit (.string [115, 116, 111, 114, 101, 97, 116]), .lit (.int .u8 3), .lit (.int .u8 3)], .agg [.lit (.string [97, 100, 100]), .lit (.int .u8 7), .lit (.int .u8 0)], .agg [.lit (.string [115, 117, 98]), .lit (.int .u8 7), .lit (.int .u8 0)], .agg [.lit (.string [109, 117, 108]), .lit (.int .u8 7), .lit (.int .u8 0)], .agg [.lit (.string [100, 105, 118]), .lit (.int .u8 7), .lit (.int .u8 0)], .agg [.lit (.string [109, 111, 100]), .lit (.int .u8 7), .lit (.int .u8 0)], .agg [.lit (.string [97, 110, 100]), .lit (.int .u8 7), .lit (.int .u8 0)], .agg [.lit (.string [111, 114]), .lit (.int .u8 7), .lit (.int .u8 0)], .agg [.lit (.string [120, 111, 114]), .lit (.int .u8 7), .lit (.int .u8 0)], .agg [.lit (.string [115, 104, 108]), .lit (.int .u8 7), .lit (.int .u8 0)], .agg [.lit (.string [115, 104, 114]), .lit (.int .u8 7), .lit (.int .u8 0)], .agg [.lit (.string [108, 101, 115, 115]), .lit (.int .u8 7), .lit (.int .u8 0)], .agg [.lit (.string [101, 113, 117, 97, 108]), .lit (.int .u8 7), .lit (.int .u8 0)], .agg [.lit (.string [115, 101, 108, 101, 99, 116]), .lit (.int .u8 7), .lit (.int .u8 0)], .agg [.lit (.string [98, 114, 97, 110, 99, 104]), .lit (.int .u8 1), .lit (.int .u8 4)], .agg [.lit (.string [106, 117, 109, 112]), .lit (.int .u8 0), .lit (.int .u8 4)], .agg [.lit (.string [109, 111, 118, 101]), .lit (.int .u8 1), .lit (.int .u8 5)], .agg [.lit (.string [114, 101, 118, 101, 97, 108]), .lit (.int .u8 18), .lit (.int .u8 3)], .agg [.lit (.string [114, 111, 108, 108]), .lit (.int .u8 1), .lit (.int .u8 2)], .agg [.lit (.string [115, 104, 117, 102, 102, 108, 101]), .lit (.int .u8 8), .lit (.int .u8 3)], .agg [.lit (.string [99, 108, 111, 99, 107]), .lit (.int .u8 1), .lit (.int .u8 0)]]

/-- 'hoodwinklaw14.DeskPlays': WHATEVER THE INPUT: true; the input reads as it did. -/
def deskPlaysSpec : ChangeSpec := { name := "deskPlays", fn := fun _ => fun
  | [d1, d2] => { results := [.lit (.bool true)], args := [d1, d2] }
  | _ => none }
def deskPlaysRow : OpenClaim := { program := "ytglmciklegifaaadoor", sum := "47d7be8fc5a3f4ea879d52148cff904a0103146323f33ac366054b1374f69bf7", func := "hoodwink/hoodwinklaw14.DeskPlays", spec := "deskPlays", recurses := true, named := ["hoodwink/code.shapes"], plainKeys := false, apart := false, laid := [("hoodwink/code.shapes", laid_hoodwink_code_shapes)] }
def DeskPlaysSaid : Prop := deskPlaysRow.holds Tryd.pinned (OpenSpec.ofChange deskPlaysSpec)

/-- ITS FALSE NEIGHBOUR: 'it returns false'. Refute it at one input. -/
def deskPlaysWrong : ChangeSpec := { name := "deskPlays", fn := fun _ => fun
  | [d1, d2] => { results := [.lit (.bool false)], args := [d1, d2] }
  | _ => none }
def DeskPlaysWrongFalsely : Prop := deskPlaysRow.holds Tryd.pinned (OpenSpec.ofChange deskPlaysWrong)

/-- 'hoodwinklaw14.DeskApart': WHATEVER THE INPUT: true; the input reads as it did. -/
def deskApartSpec : ChangeSpec := { name := "deskApart", fn := fun _ => fun
  | [d1, d2, d3, d4] => { results := [.lit (.bool true)], args := [d1, d2, d3, d4] }
  | _ => none }
def deskApartRow : OpenClaim := { program := "ytglmciklegifaaadoor", sum := "47d7be8fc5a3f4ea879d52148cff904a0103146323f33ac366054b1374f69bf7", func := "hoodwink/hoodwinklaw14.DeskApart", spec := "deskApart", inPlace := ["maps.clone"], named := ["hoodwink/code.shapes"], plainKeys := false, apart := false, laid := [("hoodwink/code.shapes", laid_hoodwink_code_shapes)] }
def DeskApartSaid : Prop := deskApartRow.holds Tryd.pinned (OpenSpec.ofChange deskApartSpec)

/-- ITS FALSE NEIGHBOUR: 'it returns false'. Refute it at one input. -/
def deskApartWrong : ChangeSpec := { name := "deskApart", fn := fun _ => fun
  | [d1, d2, d3, d4] => { results := [.lit (.bool false)], args := [d1, d2, d3, d4] }
  | _ => none }
def DeskApartWrongFalsely : Prop := deskApartRow.holds Tryd.pinned (OpenSpec.ofChange deskApartWrong)

/-- 'hoodwinklaw14.DeskNil': WHATEVER THE INPUT: true; the input reads as it did. -/
def deskNilSpec : ChangeSpec := { name := "deskNil", fn := fun _ => fun
  | [d1, d2, d3] => { results := [.lit (.bool true)], args := [d1, d2, d3] }
  | _ => none }
def deskNilRow : OpenClaim := { program := "ytglmciklegifaaadoor", sum := "47d7be8fc5a3f4ea879d52148cff904a0103146323f33ac366054b1374f69bf7", func := "hoodwink/hoodwinklaw14.DeskNil", spec := "deskNil", inPlace := ["maps.clone"], recurses := true, named := ["hoodwink/code.shapes"], plainKeys := false, apart := false, laid := [("hoodwink/code.shapes", laid_hoodwink_code_shapes)] }
def DeskNilSaid : Prop := deskNilRow.holds Tryd.pinned (OpenSpec.ofChange deskNilSpec)

/-- ITS FALSE NEIGHBOUR: 'it returns false'. Refute it at one input. -/
def deskNilWrong : ChangeSpec := { name := "deskNil", fn := fun _ => fun
  | [d1, d2, d3] => { results := [.lit (.bool false)], args := [d1, d2, d3] }
  | _ => none }
def DeskNilWrongFalsely : Prop := deskNilRow.holds Tryd.pinned (OpenSpec.ofChange deskNilWrong)

/-- 'hoodwinklaw14.DeskFirst': WHATEVER THE INPUT: true; the input reads as it did. -/
def deskFirstSpec : ChangeSpec := { name := "deskFirst", fn := fun _ => fun
  | [d1, d2, d3, d4, d5] => { results := [.lit (.bool true)], args := [d1, d2, d3, d4, d5] }
  | _ => none }
def deskFirstRow : OpenClaim := { program := "ytglmciklegifaaadoor", sum := "47d7be8fc5a3f4ea879d52148cff904a0103146323f33ac366054b1374f69bf7", func := "hoodwink/hoodwinklaw14.DeskFirst", spec := "deskFirst", recurses := true, named := ["hoodwink/code.shapes"], plainKeys := false, apart := false, laid := [("hoodwink/code.shapes", laid_hoodwink_code_shapes)] }
def DeskFirstSaid : Prop := deskFirstRow.holds Tryd.pinned (OpenSpec.ofChange deskFirstSpec)

/-- ITS FALSE NEIGHBOUR: 'it returns false'. Refute it at one input. -/
def deskFirstWrong : ChangeSpec := { name := "deskFirst", fn := fun _ => fun
  | [d1, d2, d3, d4, d5] => { results := [.lit (.bool false)], args := [d1, d2, d3, d4, d5] }
  | _ => none }
def DeskFirstWrongFalsely : Prop := deskFirstRow.holds Tryd.pinned (OpenSpec.ofChange deskFirstWrong)

/-- 'hoodwinklaw14.DeskTimes': WHATEVER THE INPUT: true; the input reads as it did. -/
def deskTimesSpec : ChangeSpec := { name := "deskTimes", fn := fun _ => fun
  | [d1, d2] => { results := [.lit (.bool true)], args := [d1, d2] }
  | _ => none }
def deskTimesRow : OpenClaim := { program := "ytglmciklegifaaadoor", sum := "47d7be8fc5a3f4ea879d52148cff904a0103146323f33ac366054b1374f69bf7", func := "hoodwink/hoodwinklaw14.DeskTimes", spec := "deskTimes", recurses := true, named := ["hoodwink/code.shapes"], plainKeys := false, apart := false, laid := [("hoodwink/code.shapes", laid_hoodwink_code_shapes)] }
def DeskTimesSaid : Prop := deskTimesRow.holds Tryd.pinned (OpenSpec.ofChange deskTimesSpec)

/-- ITS FALSE NEIGHBOUR: 'it returns false'. Refute it at one input. -/
def deskTimesWrong : ChangeSpec := { name := "deskTimes", fn := fun _ => fun
  | [d1, d2] => { results := [.lit (.bool false)], args := [d1, d2] }
  | _ => none }
def DeskTimesWrongFalsely : Prop := deskTimesRow.holds Tryd.pinned (OpenSpec.ofChange deskTimesWrong)

/-- 'hoodwinklaw14.DeskWrong': WHATEVER THE INPUT: true; the input reads as it did. -/
def deskWrongSpec : ChangeSpec := { name := "deskWrong", fn := fun _ => fun
  | [d1, d2, d3] => { results := [.lit (.bool true)], args := [d1, d2, d3] }
  | _ => none }
def deskWrongRow : OpenClaim := { program := "ytglmciklegifaaadoor", sum := "47d7be8fc5a3f4ea879d52148cff904a0103146323f33ac366054b1374f69bf7", func := "hoodwink/hoodwinklaw14.DeskWrong", spec := "deskWrong", recurses := true, named := ["hoodwink/code.shapes"], plainKeys := false, apart := false, laid := [("hoodwink/code.shapes", laid_hoodwink_code_shapes)] }
def DeskWrongSaid : Prop := deskWrongRow.holds Tryd.pinned (OpenSpec.ofChange deskWrongSpec)

/-- ITS FALSE NEIGHBOUR: 'it returns false'. Refute it at one input. -/
def deskWrongWrong : ChangeSpec := { name := "deskWrong", fn := fun _ => fun
  | [d1, d2, d3] => { results := [.lit (.bool false)], args := [d1, d2, d3] }
  | _ => none }
def DeskWrongWrongFalsely : Prop := deskWrongRow.holds Tryd.pinned (OpenSpec.ofChange deskWrongWrong)

/- THE SECOND FORM. 'bulk': how many values and letters a reading holds, each counted each time it is reached (what is shared counts as often as it is met; a slice's spare places count too). A statement '..UptoSaid' is the law's where the arguments, and the package variables that the reading takes, are together of bulk at most 1048576: NARROWER than '..Said'. Prove '..Said' where nothing that the law and all that it calls make is longer than what came in: it says more and counts as full. Else prove '..UptoSaid'. A law counts once. -/
mutual
def uptoBulk {H : Type} : DataW H → Nat
  | .lit (.string bytes) => bytes.length + 1
  | .lit _ => 1
  | .nil => 1
  | .ptr d => uptoBulk d + 1
  | .slice elems spare => uptoBulkAll elems + uptoBulkAll spare + 1
  | .agg parts => uptoBulkAll parts + 1
  | .iface _ d => uptoBulk d + 1
  | .map entries => uptoBulkEntries entries + 1
  | .held _ => 1
def uptoBulkAll {H : Type} : List (DataW H) → Nat
  | [] => 0
  | d :: r => uptoBulk d + uptoBulkAll r
def uptoBulkEntries {H : Type} : List (Lit × DataW H) → Nat
  | [] => 0
  | x :: r => uptoBulkEntry x + uptoBulkEntries r
def uptoBulkEntry {H : Type} : Lit × DataW H → Nat
  | (.string bytes, d) => bytes.length + uptoBulk d + 1
  | (_, d) => uptoBulk d + 1
 end
def uptoSmall : (H : Type) → List (DataW H) → Bool := fun _ ds => decide (uptoBulkAll ds ≤ 1048576)
def OpenSpec.upto (s : _root_.Go.ChangeSpec) : _root_.Go.OpenSpec := { _root_.Go.OpenSpec.ofChange s with cond := some uptoSmall }

/-- 'hoodwinklaw14.DeskPlays', WHERE WHAT IT READS IS OF BULK AT MOST 1048576: true; the input reads as it did. -/
def deskPlaysUptoRow : OpenClaim := { program := "ytglmciklegifaaadoor", sum := "47d7be8fc5a3f4ea879d52148cff904a0103146323f33ac366054b1374f69bf7", func := "hoodwink/hoodwinklaw14.DeskPlays", spec := "deskPlays", recurses := true, named := ["hoodwink/code.shapes"], plainKeys := false, apart := false, laid := [("hoodwink/code.shapes", laid_hoodwink_code_shapes)], narrowed := true }
def DeskPlaysUptoSaid : Prop := deskPlaysUptoRow.holds Tryd.pinned (OpenSpec.upto deskPlaysSpec)

/-- 'hoodwinklaw14.DeskApart', WHERE WHAT IT READS IS OF BULK AT MOST 1048576: true; the input reads as it did. -/
def deskApartUptoRow : OpenClaim := { program := "ytglmciklegifaaadoor", sum := "47d7be8fc5a3f4ea879d52148cff904a0103146323f33ac366054b1374f69bf7", func := "hoodwink/hoodwinklaw14.DeskApart", spec := "deskApart", inPlace := ["maps.clone"], named := ["hoodwink/code.shapes"], plainKeys := false, apart := false, laid := [("hoodwink/code.shapes", laid_hoodwink_code_shapes)], narrowed := true }
def DeskApartUptoSaid : Prop := deskApartUptoRow.holds Tryd.pinned (OpenSpec.upto deskApartSpec)

/-- 'hoodwinklaw14.DeskNil', WHERE WHAT IT READS IS OF BULK AT MOST 1048576: true; the input reads as it did. -/
def deskNilUptoRow : OpenClaim := { program := "ytglmciklegifaaadoor", sum := "47d7be8fc5a3f4ea879d52148cff904a0103146323f33ac366054b1374f69bf7", func := "hoodwink/hoodwinklaw14.DeskNil", spec := "deskNil", inPlace := ["maps.clone"], recurses := true, named := ["hoodwink/code.shapes"], plainKeys := false, apart := false, laid := [("hoodwink/code.shapes", laid_hoodwink_code_shapes)], narrowed := true }
def DeskNilUptoSaid : Prop := deskNilUptoRow.holds Tryd.pinned (OpenSpec.upto deskNilSpec)

/-- 'hoodwinklaw14.DeskFirst', WHERE WHAT IT READS IS OF BULK AT MOST 1048576: true; the input reads as it did. -/
def deskFirstUptoRow : OpenClaim := { program := "ytglmciklegifaaadoor", sum := "47d7be8fc5a3f4ea879d52148cff904a0103146323f33ac366054b1374f69bf7", func := "hoodwink/hoodwinklaw14.DeskFirst", spec := "deskFirst", recurses := true, named := ["hoodwink/code.shapes"], plainKeys := false, apart := false, laid := [("hoodwink/code.shapes", laid_hoodwink_code_shapes)], narrowed := true }
def DeskFirstUptoSaid : Prop := deskFirstUptoRow.holds Tryd.pinned (OpenSpec.upto deskFirstSpec)

/-- 'hoodwinklaw14.DeskTimes', WHERE WHAT IT READS IS OF BULK AT MOST 1048576: true; the input reads as it did. -/
def deskTimesUptoRow : OpenClaim := { program := "ytglmciklegifaaadoor", sum := "47d7be8fc5a3f4ea879d52148cff904a0103146323f33ac366054b1374f69bf7", func := "hoodwink/hoodwinklaw14.DeskTimes", spec := "deskTimes", recurses := true, named := ["hoodwink/code.shapes"], plainKeys := false, apart := false, laid := [("hoodwink/code.shapes", laid_hoodwink_code_shapes)], narrowed := true }
def DeskTimesUptoSaid : Prop := deskTimesUptoRow.holds Tryd.pinned (OpenSpec.upto deskTimesSpec)

/-- 'hoodwinklaw14.DeskWrong', WHERE WHAT IT READS IS OF BULK AT MOST 1048576: true; the input reads as it did. -/
def deskWrongUptoRow : OpenClaim := { program := "ytglmciklegifaaadoor", sum := "47d7be8fc5a3f4ea879d52148cff904a0103146323f33ac366054b1374f69bf7", func := "hoodwink/hoodwinklaw14.DeskWrong", spec := "deskWrong", recurses := true, named := ["hoodwink/code.shapes"], plainKeys := false, apart := false, laid := [("hoodwink/code.shapes", laid_hoodwink_code_shapes)], narrowed := true }
def DeskWrongUptoSaid : Prop := deskWrongUptoRow.holds Tryd.pinned (OpenSpec.upto deskWrongSpec)

end Rows
end Go.Proofs.YtglmciklegifaaaDoor
