/- How an argument that came in reads, in the words of this seat's walks. No condition. -/
import Derived.Test.YtbkimknfhpbcfaaBase
import Derived.Test.YtbkimknfhpbcfaaRows
import Derived.ProofKit
import Derived.OpenShut
import Derived.ShutString
import Derived.ChangeOld
namespace Go.Proofs.Ytbkimknfhpbcfaa
open Go.ChangeShapes Go.WideShapes Go.ChangeAt Go.RowKit

theorem own : ownKnob Try.prog.godebug = none := by kernel_rfl
theorem laidOut : laidOutB Try.prog = true := by kernel_rfl
end Go.Proofs.Ytbkimknfhpbcfaa
