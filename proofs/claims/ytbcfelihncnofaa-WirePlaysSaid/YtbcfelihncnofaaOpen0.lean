/- How an argument that came in reads, in the words of this seat's walks. No condition. -/
import Derived.Test.YtbcfelihncnofaaBase
import Derived.Test.YtbcfelihncnofaaRows
import Derived.ProofKit
import Derived.OpenShut
import Derived.ShutString
import Derived.ChangeOld
namespace Go.Proofs.Ytbcfelihncnofaa
open Go.ChangeShapes Go.WideShapes Go.ChangeAt Go.RowKit

theorem own : ownKnob Try.prog.godebug = none := by kernel_rfl
theorem laidOut : laidOutB Try.prog = true := by kernel_rfl
end Go.Proofs.Ytbcfelihncnofaa
