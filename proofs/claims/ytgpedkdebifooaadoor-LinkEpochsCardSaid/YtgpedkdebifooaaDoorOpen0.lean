/- How an argument that came in reads, in the words of this seat's walks. No condition. -/
import Derived.Test.YtgpedkdebifooaaDoorBase
import Derived.Test.YtgpedkdebifooaaDoorRows
import Derived.ProofKit
import Derived.OpenShut
import Derived.ShutString
import Derived.ChangeOld
namespace Go.Proofs.YtgpedkdebifooaaDoor
open Go.ChangeShapes Go.WideShapes Go.ChangeAt Go.RowKit

theorem own : ownKnob Tryd.prog.godebug = none := by kernel_rfl
theorem laidOut : laidOutB Tryd.prog = true := by kernel_rfl
end Go.Proofs.YtgpedkdebifooaaDoor
