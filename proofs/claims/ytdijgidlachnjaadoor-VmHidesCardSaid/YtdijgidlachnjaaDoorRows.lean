/-
  NARROWER THAN 'FOR EVERY INPUT', by the rows' own cells (each row's printed sentence says how): VmHides: laid · VmComputes: laid · VmKeeps: laid · VmViews: laid · VmNone: laid · VmFuel: laid · VmTaint: laid · VmLabels: laid · VmRolls: laid.
  DERIVED. THE GIVEN ROWS OF THIS SEAT. 9 by the template 'for every input the law returns true; each argument reads behind the call as it read before'; 0 by the template 'total and deterministic' (their statements: YtdijgidlachnjaaDoorTotals.lean).
  GIVEN WITH THE SEED: the statements are not yours to turn. If you find one false, say at which input.
  Laid BY PROGRAM, IN A SANDBOX (cutbox-rows.mjs): the forced cells as the released guide's own fill.sh prints them over the translation a0807e22532f0962… (all of the seat's roots in one cut). By AI agents, Wed Nov 11 2026. No macro, syntax, notation, axiom, sorry.
-/
import Derived.Test.YtdijgidlachnjaaDoorChecked
import GoSem.Claim
import GoSem.ClaimJoined
import GoSem.ClaimMapViews
import Derived.JoinedTies
import Derived.KernelRfl
namespace Go.Proofs.YtdijgidlachnjaaDoor
/- THE CELL 'sum', in the pinned program and in every row, IS THE sha256 OF THE DUMP (.gsa) THAT YtdijgidlachnjaaDoorProg.lean LOADS. Nothing in Lean hashes anything: it is a label: what it is worth is what the hold of that sum in a sandbox is worth. -/
noncomputable def Tryd.pinned : Pinned := { name := "ytdijgidlachnjaadoor", sum := "a0807e22532f09627f1128661a8b3b431c515bfa0cc208fa6e2dc53185482750", checked := Tryd.checked }
namespace Rows
def none {H : Type} : Left H := { results := [], args := [] }

/- WHAT THE LISTED PACKAGE-LEVEL VARIABLES READ AS WHEN THE CALL BEGINS. Each datum BY PROGRAM (the guide's laid-datum.mjs) off the statement by which the dump's own 'gosem.cut.vars' lays the variable. In a bare row this is a premise. The card (YtdijgidlachnjaaDoorCards.lean) ties it to the program's text. -/
def laid_hoodwink_code_shapes {H : Type} : DataW H := .agg [.agg [.lit (.string [115, 116, 111, 112]), .lit (.int .u8 0), .lit (.int .u8 0)], .agg [.lit (.string [115, 101, 116]), .lit (.int .u8 1), .lit (.int .u8 1)], .agg [.lit (.string [108, 111, 97, 100]), .lit (.int .u8 1), .lit (.int .u8 3)], .agg [.lit (.string [115, 116, 111, 114, 101]), .lit (.int .u8 1), .lit (.int .u8 3)], .agg [.lit (.string [108, 111, 97, 100, 97, 116]), .lit (.int .u8 3), .lit (.int .u8 3)], .agg [.lit (.string [115, 116, 111, 114, 101, 97, 116]), .lit (.int .u8 3), .lit (.int .u8 3)], .agg [.lit (.string [97, 100, 100]), .lit (.int .u8 7), .lit (.int .u8 0)], .agg [.lit (.string [115, 117, 98]), .lit (.int .u8 7), .lit (.int .u8 0)], .agg [.lit (.string [109, 117, 108]), .lit (.int .u8 7), .lit (.int .u8 0)], .agg [.lit (.string [100, 105, 118]), .lit (.int .u8 7), .lit (.int .u8 0)], .agg [.lit (.string [109, 111, 100]), .lit (.int .u8 7), .lit (.int .u8 0)], .agg [.lit (.string [97, 110, 100]), .lit (.int .u8 7), .lit (.int .u8 0)], .agg [.lit (.string [111, 114]), .lit (.int .u8 7), .lit (.int .u8 0)], .agg [.lit (.string [120, 111, 114]), .lit (.int .u8 7), .lit (.int .u8 0)], .agg [.lit (.string [115, 104, 108]), .lit (.int .u8 7), .lit (.int .u8 0)], .agg [.lit (.string [115, 104, 114]), .lit (.int .u8 7), .lit (.int .u8 0)], .agg [.lit (.string [108, 101, 115, 115]), .lit (.int .u8 7), .lit (.int .u8 0)], .agg [.lit (.string [101, 113, 117, 97, 108]), .lit (.int .u8 7), .lit (.int .u8 0)], .agg [.lit (.string [115, 101, 108, 101, 99, 116]), .lit (.int .u8 7), .lit (.int .u8 0)], .agg [.lit (.string [98, 114, 97, 110, 99, 104]), .lit (.int .u8 1), .lit (.int .u8 4)], .agg [.lit (.string [106, 117, 109, 112]), .lit (.int .u8 0), .lit (.int .u8 4)], .agg [.lit (.string [109, 111, 118, 101]), .lit (.int .u8 1), .lit (.int .u8 5)], .agg [.lit (.string [114, 101, 118, 101, 97, 108]), .lit (.int .u8 18), .lit (.int .u8 3)], .agg [.lit (.string [114, 111, 108, 108]), .lit (.int .u8 1), .lit (.int .u8 2)], .agg [.lit (.string [115, 104, 117, 102, 102, 108, 101]), .lit (.int .u8 8), .lit (.int .u8 3)], .agg [.lit (.string [99, 108, 111, 99, 107]), .lit (.int .u8 1), .lit (.int .u8 0)]]

/-- 'hoodwinklaw09.VmHides': WHATEVER THE INPUT: true; the input reads as it did. -/
def vmHidesSpec : ChangeSpec := { name := "vmHides", fn := fun _ => fun
  | [d1, d2, d3, d4, d5, d6, d7, d8, d9] => { results := [.lit (.bool true)], args := [d1, d2, d3, d4, d5, d6, d7, d8, d9] }
  | _ => none }
def vmHidesRow : OpenClaim := { program := "ytdijgidlachnjaadoor", sum := "a0807e22532f09627f1128661a8b3b431c515bfa0cc208fa6e2dc53185482750", func := "hoodwink/hoodwinklaw09.VmHides", spec := "vmHides", unfollowed := true, recurses := true, named := ["hoodwink/code.shapes"], apart := false, laid := [("hoodwink/code.shapes", laid_hoodwink_code_shapes)] }
def VmHidesSaid : Prop := vmHidesRow.holds Tryd.pinned (OpenSpec.ofChange vmHidesSpec)

/-- ITS FALSE NEIGHBOUR: 'it returns false'. Refute it at one input. -/
def vmHidesWrong : ChangeSpec := { name := "vmHides", fn := fun _ => fun
  | [d1, d2, d3, d4, d5, d6, d7, d8, d9] => { results := [.lit (.bool false)], args := [d1, d2, d3, d4, d5, d6, d7, d8, d9] }
  | _ => none }
def VmHidesWrongFalsely : Prop := vmHidesRow.holds Tryd.pinned (OpenSpec.ofChange vmHidesWrong)

/-- 'hoodwinklaw09.VmComputes': WHATEVER THE INPUT: true; the input reads as it did. -/
def vmComputesSpec : ChangeSpec := { name := "vmComputes", fn := fun _ => fun
  | [d1, d2, d3] => { results := [.lit (.bool true)], args := [d1, d2, d3] }
  | _ => none }
def vmComputesRow : OpenClaim := { program := "ytdijgidlachnjaadoor", sum := "a0807e22532f09627f1128661a8b3b431c515bfa0cc208fa6e2dc53185482750", func := "hoodwink/hoodwinklaw09.VmComputes", spec := "vmComputes", unfollowed := true, recurses := true, named := ["hoodwink/code.shapes"], apart := false, laid := [("hoodwink/code.shapes", laid_hoodwink_code_shapes)] }
def VmComputesSaid : Prop := vmComputesRow.holds Tryd.pinned (OpenSpec.ofChange vmComputesSpec)

/-- ITS FALSE NEIGHBOUR: 'it returns false'. Refute it at one input. -/
def vmComputesWrong : ChangeSpec := { name := "vmComputes", fn := fun _ => fun
  | [d1, d2, d3] => { results := [.lit (.bool false)], args := [d1, d2, d3] }
  | _ => none }
def VmComputesWrongFalsely : Prop := vmComputesRow.holds Tryd.pinned (OpenSpec.ofChange vmComputesWrong)

/-- 'hoodwinklaw09.VmKeeps': WHATEVER THE INPUT: true; the input reads as it did. -/
def vmKeepsSpec : ChangeSpec := { name := "vmKeeps", fn := fun _ => fun
  | [d1, d2, d3, d4] => { results := [.lit (.bool true)], args := [d1, d2, d3, d4] }
  | _ => none }
def vmKeepsRow : OpenClaim := { program := "ytdijgidlachnjaadoor", sum := "a0807e22532f09627f1128661a8b3b431c515bfa0cc208fa6e2dc53185482750", func := "hoodwink/hoodwinklaw09.VmKeeps", spec := "vmKeeps", unfollowed := true, recurses := true, named := ["hoodwink/code.shapes"], apart := false, laid := [("hoodwink/code.shapes", laid_hoodwink_code_shapes)] }
def VmKeepsSaid : Prop := vmKeepsRow.holds Tryd.pinned (OpenSpec.ofChange vmKeepsSpec)

/-- ITS FALSE NEIGHBOUR: 'it returns false'. Refute it at one input. -/
def vmKeepsWrong : ChangeSpec := { name := "vmKeeps", fn := fun _ => fun
  | [d1, d2, d3, d4] => { results := [.lit (.bool false)], args := [d1, d2, d3, d4] }
  | _ => none }
def VmKeepsWrongFalsely : Prop := vmKeepsRow.holds Tryd.pinned (OpenSpec.ofChange vmKeepsWrong)

/-- 'hoodwinklaw09.VmViews': WHATEVER THE INPUT: true; the input reads as it did. -/
def vmViewsSpec : ChangeSpec := { name := "vmViews", fn := fun _ => fun
  | [d1, d2, d3, d4, d5, d6] => { results := [.lit (.bool true)], args := [d1, d2, d3, d4, d5, d6] }
  | _ => none }
def vmViewsRow : OpenClaim := { program := "ytdijgidlachnjaadoor", sum := "a0807e22532f09627f1128661a8b3b431c515bfa0cc208fa6e2dc53185482750", func := "hoodwink/hoodwinklaw09.VmViews", spec := "vmViews", unfollowed := true, recurses := true, named := ["hoodwink/code.shapes"], apart := false, laid := [("hoodwink/code.shapes", laid_hoodwink_code_shapes)] }
def VmViewsSaid : Prop := vmViewsRow.holds Tryd.pinned (OpenSpec.ofChange vmViewsSpec)

/-- ITS FALSE NEIGHBOUR: 'it returns false'. Refute it at one input. -/
def vmViewsWrong : ChangeSpec := { name := "vmViews", fn := fun _ => fun
  | [d1, d2, d3, d4, d5, d6] => { results := [.lit (.bool false)], args := [d1, d2, d3, d4, d5, d6] }
  | _ => none }
def VmViewsWrongFalsely : Prop := vmViewsRow.holds Tryd.pinned (OpenSpec.ofChange vmViewsWrong)

/-- 'hoodwinklaw09.VmNone': WHATEVER THE INPUT: true; the input reads as it did. -/
def vmNoneSpec : ChangeSpec := { name := "vmNone", fn := fun _ => fun
  | [d1, d2, d3] => { results := [.lit (.bool true)], args := [d1, d2, d3] }
  | _ => none }
def vmNoneRow : OpenClaim := { program := "ytdijgidlachnjaadoor", sum := "a0807e22532f09627f1128661a8b3b431c515bfa0cc208fa6e2dc53185482750", func := "hoodwink/hoodwinklaw09.VmNone", spec := "vmNone", unfollowed := true, recurses := true, named := ["hoodwink/code.shapes"], apart := false, laid := [("hoodwink/code.shapes", laid_hoodwink_code_shapes)] }
def VmNoneSaid : Prop := vmNoneRow.holds Tryd.pinned (OpenSpec.ofChange vmNoneSpec)

/-- ITS FALSE NEIGHBOUR: 'it returns false'. Refute it at one input. -/
def vmNoneWrong : ChangeSpec := { name := "vmNone", fn := fun _ => fun
  | [d1, d2, d3] => { results := [.lit (.bool false)], args := [d1, d2, d3] }
  | _ => none }
def VmNoneWrongFalsely : Prop := vmNoneRow.holds Tryd.pinned (OpenSpec.ofChange vmNoneWrong)

/-- 'hoodwinklaw09.VmFuel': WHATEVER THE INPUT: true; the input reads as it did. -/
def vmFuelSpec : ChangeSpec := { name := "vmFuel", fn := fun _ => fun
  | [d1, d2] => { results := [.lit (.bool true)], args := [d1, d2] }
  | _ => none }
def vmFuelRow : OpenClaim := { program := "ytdijgidlachnjaadoor", sum := "a0807e22532f09627f1128661a8b3b431c515bfa0cc208fa6e2dc53185482750", func := "hoodwink/hoodwinklaw09.VmFuel", spec := "vmFuel", unfollowed := true, recurses := true, named := ["hoodwink/code.shapes"], apart := false, laid := [("hoodwink/code.shapes", laid_hoodwink_code_shapes)] }
def VmFuelSaid : Prop := vmFuelRow.holds Tryd.pinned (OpenSpec.ofChange vmFuelSpec)

/-- ITS FALSE NEIGHBOUR: 'it returns false'. Refute it at one input. -/
def vmFuelWrong : ChangeSpec := { name := "vmFuel", fn := fun _ => fun
  | [d1, d2] => { results := [.lit (.bool false)], args := [d1, d2] }
  | _ => none }
def VmFuelWrongFalsely : Prop := vmFuelRow.holds Tryd.pinned (OpenSpec.ofChange vmFuelWrong)

/-- 'hoodwinklaw09.VmTaint': WHATEVER THE INPUT: true; the input reads as it did. -/
def vmTaintSpec : ChangeSpec := { name := "vmTaint", fn := fun _ => fun
  | [d1, d2, d3, d4] => { results := [.lit (.bool true)], args := [d1, d2, d3, d4] }
  | _ => none }
def vmTaintRow : OpenClaim := { program := "ytdijgidlachnjaadoor", sum := "a0807e22532f09627f1128661a8b3b431c515bfa0cc208fa6e2dc53185482750", func := "hoodwink/hoodwinklaw09.VmTaint", spec := "vmTaint", unfollowed := true, recurses := true, named := ["hoodwink/code.shapes"], apart := false, laid := [("hoodwink/code.shapes", laid_hoodwink_code_shapes)] }
def VmTaintSaid : Prop := vmTaintRow.holds Tryd.pinned (OpenSpec.ofChange vmTaintSpec)

/-- ITS FALSE NEIGHBOUR: 'it returns false'. Refute it at one input. -/
def vmTaintWrong : ChangeSpec := { name := "vmTaint", fn := fun _ => fun
  | [d1, d2, d3, d4] => { results := [.lit (.bool false)], args := [d1, d2, d3, d4] }
  | _ => none }
def VmTaintWrongFalsely : Prop := vmTaintRow.holds Tryd.pinned (OpenSpec.ofChange vmTaintWrong)

/-- 'hoodwinklaw09.VmLabels': WHATEVER THE INPUT: true; the input reads as it did. -/
def vmLabelsSpec : ChangeSpec := { name := "vmLabels", fn := fun _ => fun
  | [d1, d2, d3, d4, d5, d6] => { results := [.lit (.bool true)], args := [d1, d2, d3, d4, d5, d6] }
  | _ => none }
def vmLabelsRow : OpenClaim := { program := "ytdijgidlachnjaadoor", sum := "a0807e22532f09627f1128661a8b3b431c515bfa0cc208fa6e2dc53185482750", func := "hoodwink/hoodwinklaw09.VmLabels", spec := "vmLabels", unfollowed := true, recurses := true, named := ["hoodwink/code.shapes"], apart := false, laid := [("hoodwink/code.shapes", laid_hoodwink_code_shapes)] }
def VmLabelsSaid : Prop := vmLabelsRow.holds Tryd.pinned (OpenSpec.ofChange vmLabelsSpec)

/-- ITS FALSE NEIGHBOUR: 'it returns false'. Refute it at one input. -/
def vmLabelsWrong : ChangeSpec := { name := "vmLabels", fn := fun _ => fun
  | [d1, d2, d3, d4, d5, d6] => { results := [.lit (.bool false)], args := [d1, d2, d3, d4, d5, d6] }
  | _ => none }
def VmLabelsWrongFalsely : Prop := vmLabelsRow.holds Tryd.pinned (OpenSpec.ofChange vmLabelsWrong)

/-- 'hoodwinklaw09.VmRolls': WHATEVER THE INPUT: true; the input reads as it did. -/
def vmRollsSpec : ChangeSpec := { name := "vmRolls", fn := fun _ => fun
  | [d1, d2, d3, d4] => { results := [.lit (.bool true)], args := [d1, d2, d3, d4] }
  | _ => none }
def vmRollsRow : OpenClaim := { program := "ytdijgidlachnjaadoor", sum := "a0807e22532f09627f1128661a8b3b431c515bfa0cc208fa6e2dc53185482750", func := "hoodwink/hoodwinklaw09.VmRolls", spec := "vmRolls", unfollowed := true, recurses := true, named := ["hoodwink/code.shapes"], apart := false, laid := [("hoodwink/code.shapes", laid_hoodwink_code_shapes)] }
def VmRollsSaid : Prop := vmRollsRow.holds Tryd.pinned (OpenSpec.ofChange vmRollsSpec)

/-- ITS FALSE NEIGHBOUR: 'it returns false'. Refute it at one input. -/
def vmRollsWrong : ChangeSpec := { name := "vmRolls", fn := fun _ => fun
  | [d1, d2, d3, d4] => { results := [.lit (.bool false)], args := [d1, d2, d3, d4] }
  | _ => none }
def VmRollsWrongFalsely : Prop := vmRollsRow.holds Tryd.pinned (OpenSpec.ofChange vmRollsWrong)

/- THE SECOND FORM. 'bulk': how many values and letters a reading holds, each counted each time it is reached (what is shared counts as often as it is met; a slice's spare places count too). A statement '..UptoSaid' is the law's where the arguments, and the package variables that the reading takes, are together of bulk at most 1048576: NARROWER than '..Said'. Prove '..Said' where nothing that the law and all that it calls make is longer than what came in: it says more and counts as full. Else prove '..UptoSaid'. A law counts once. -/
mutual
def uptoBulk {H : Type} : DataW H → Nat
  | .lit (.string bytes) => bytes.length + 1
  | .lit _ => 1
  | .nil => 1
  | .ptr d => uptoBulk d + 1
  | .slice elems spare => uptoBulkAll elems + uptoBulkAll spare + 1
  | .agg parts => uptoBulkAll parts + 1
  | .iface _ d => uptoBulk d + 1
  | .map entries => uptoBulkEntries entries + 1
  | .held _ => 1
def uptoBulkAll {H : Type} : List (DataW H) → Nat
  | [] => 0
  | d :: r => uptoBulk d + uptoBulkAll r
def uptoBulkEntries {H : Type} : List (Lit × DataW H) → Nat
  | [] => 0
  | x :: r => uptoBulkEntry x + uptoBulkEntries r
def uptoBulkEntry {H : Type} : Lit × DataW H → Nat
  | (.string bytes, d) => bytes.length + uptoBulk d + 1
  | (_, d) => uptoBulk d + 1
 end
def uptoSmall : (H : Type) → List (DataW H) → Bool := fun _ ds => decide (uptoBulkAll ds ≤ 1048576)
def OpenSpec.upto (s : _root_.Go.ChangeSpec) : _root_.Go.OpenSpec := { _root_.Go.OpenSpec.ofChange s with cond := some uptoSmall }

/-- 'hoodwinklaw09.VmHides', WHERE WHAT IT READS IS OF BULK AT MOST 1048576: true; the input reads as it did. -/
def vmHidesUptoRow : OpenClaim := { program := "ytdijgidlachnjaadoor", sum := "a0807e22532f09627f1128661a8b3b431c515bfa0cc208fa6e2dc53185482750", func := "hoodwink/hoodwinklaw09.VmHides", spec := "vmHides", unfollowed := true, recurses := true, named := ["hoodwink/code.shapes"], apart := false, laid := [("hoodwink/code.shapes", laid_hoodwink_code_shapes)], narrowed := true }
def VmHidesUptoSaid : Prop := vmHidesUptoRow.holds Tryd.pinned (OpenSpec.upto vmHidesSpec)

/-- 'hoodwinklaw09.VmComputes', WHERE WHAT IT READS IS OF BULK AT MOST 1048576: true; the input reads as it did. -/
def vmComputesUptoRow : OpenClaim := { program := "ytdijgidlachnjaadoor", sum := "a0807e22532f09627f1128661a8b3b431c515bfa0cc208fa6e2dc53185482750", func := "hoodwink/hoodwinklaw09.VmComputes", spec := "vmComputes", unfollowed := true, recurses := true, named := ["hoodwink/code.shapes"], apart := false, laid := [("hoodwink/code.shapes", laid_hoodwink_code_shapes)], narrowed := true }
def VmComputesUptoSaid : Prop := vmComputesUptoRow.holds Tryd.pinned (OpenSpec.upto vmComputesSpec)

/-- 'hoodwinklaw09.VmKeeps', WHERE WHAT IT READS IS OF BULK AT MOST 1048576: true; the input reads as it did. -/
def vmKeepsUptoRow : OpenClaim := { program := "ytdijgidlachnjaadoor", sum := "a0807e22532f09627f1128661a8b3b431c515bfa0cc208fa6e2dc53185482750", func := "hoodwink/hoodwinklaw09.VmKeeps", spec := "vmKeeps", unfollowed := true, recurses := true, named := ["hoodwink/code.shapes"], apart := false, laid := [("hoodwink/code.shapes", laid_hoodwink_code_shapes)], narrowed := true }
def VmKeepsUptoSaid : Prop := vmKeepsUptoRow.holds Tryd.pinned (OpenSpec.upto vmKeepsSpec)

/-- 'hoodwinklaw09.VmViews', WHERE WHAT IT READS IS OF BULK AT MOST 1048576: true; the input reads as it did. -/
def vmViewsUptoRow : OpenClaim := { program := "ytdijgidlachnjaadoor", sum := "a0807e22532f09627f1128661a8b3b431c515bfa0cc208fa6e2dc53185482750", func := "hoodwink/hoodwinklaw09.VmViews", spec := "vmViews", unfollowed := true, recurses := true, named := ["hoodwink/code.shapes"], apart := false, laid := [("hoodwink/code.shapes", laid_hoodwink_code_shapes)], narrowed := true }
def VmViewsUptoSaid : Prop := vmViewsUptoRow.holds Tryd.pinned (OpenSpec.upto vmViewsSpec)

/-- 'hoodwinklaw09.VmNone', WHERE WHAT IT READS IS OF BULK AT MOST 1048576: true; the input reads as it did. -/
def vmNoneUptoRow : OpenClaim := { program := "ytdijgidlachnjaadoor", sum := "a0807e22532f09627f1128661a8b3b431c515bfa0cc208fa6e2dc53185482750", func := "hoodwink/hoodwinklaw09.VmNone", spec := "vmNone", unfollowed := true, recurses := true, named := ["hoodwink/code.shapes"], apart := false, laid := [("hoodwink/code.shapes", laid_hoodwink_code_shapes)], narrowed := true }
def VmNoneUptoSaid : Prop := vmNoneUptoRow.holds Tryd.pinned (OpenSpec.upto vmNoneSpec)

/-- 'hoodwinklaw09.VmFuel', WHERE WHAT IT READS IS OF BULK AT MOST 1048576: true; the input reads as it did. -/
def vmFuelUptoRow : OpenClaim := { program := "ytdijgidlachnjaadoor", sum := "a0807e22532f09627f1128661a8b3b431c515bfa0cc208fa6e2dc53185482750", func := "hoodwink/hoodwinklaw09.VmFuel", spec := "vmFuel", unfollowed := true, recurses := true, named := ["hoodwink/code.shapes"], apart := false, laid := [("hoodwink/code.shapes", laid_hoodwink_code_shapes)], narrowed := true }
def VmFuelUptoSaid : Prop := vmFuelUptoRow.holds Tryd.pinned (OpenSpec.upto vmFuelSpec)

/-- 'hoodwinklaw09.VmTaint', WHERE WHAT IT READS IS OF BULK AT MOST 1048576: true; the input reads as it did. -/
def vmTaintUptoRow : OpenClaim := { program := "ytdijgidlachnjaadoor", sum := "a0807e22532f09627f1128661a8b3b431c515bfa0cc208fa6e2dc53185482750", func := "hoodwink/hoodwinklaw09.VmTaint", spec := "vmTaint", unfollowed := true, recurses := true, named := ["hoodwink/code.shapes"], apart := false, laid := [("hoodwink/code.shapes", laid_hoodwink_code_shapes)], narrowed := true }
def VmTaintUptoSaid : Prop := vmTaintUptoRow.holds Tryd.pinned (OpenSpec.upto vmTaintSpec)

/-- 'hoodwinklaw09.VmLabels', WHERE WHAT IT READS IS OF BULK AT MOST 1048576: true; the input reads as it did. -/
def vmLabelsUptoRow : OpenClaim := { program := "ytdijgidlachnjaadoor", sum := "a0807e22532f09627f1128661a8b3b431c515bfa0cc208fa6e2dc53185482750", func := "hoodwink/hoodwinklaw09.VmLabels", spec := "vmLabels", unfollowed := true, recurses := true, named := ["hoodwink/code.shapes"], apart := false, laid := [("hoodwink/code.shapes", laid_hoodwink_code_shapes)], narrowed := true }
def VmLabelsUptoSaid : Prop := vmLabelsUptoRow.holds Tryd.pinned (OpenSpec.upto vmLabelsSpec)

/-- 'hoodwinklaw09.VmRolls', WHERE WHAT IT READS IS OF BULK AT MOST 1048576: true; the input reads as it did. -/
def vmRollsUptoRow : OpenClaim := { program := "ytdijgidlachnjaadoor", sum := "a0807e22532f09627f1128661a8b3b431c515bfa0cc208fa6e2dc53185482750", func := "hoodwink/hoodwinklaw09.VmRolls", spec := "vmRolls", unfollowed := true, recurses := true, named := ["hoodwink/code.shapes"], apart := false, laid := [("hoodwink/code.shapes", laid_hoodwink_code_shapes)], narrowed := true }
def VmRollsUptoSaid : Prop := vmRollsUptoRow.holds Tryd.pinned (OpenSpec.upto vmRollsSpec)

end Rows
end Go.Proofs.YtdijgidlachnjaaDoor
