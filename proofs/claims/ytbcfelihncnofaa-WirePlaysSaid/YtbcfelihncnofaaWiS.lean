/- A text and its sum, plainly. No condition. -/
import Derived.Test.YtbcfelihncnofaaRefSum
import Derived.Test.YtbcfelihncnofaaRefLow
namespace Go.Proofs.Ytbcfelihncnofaa

def sealedL (l : List UInt8) : List UInt8 := l ++ low (sumN l) 4
@[simp] theorem sealedL_length (l : List UInt8) : (sealedL l).length = l.length + 4 := by simp [sealedL]
def opensB (l : List UInt8) (k : Nat) : Bool := decide (l.drop k = low (sumN (l.take k)) 4)
end Go.Proofs.Ytbcfelihncnofaa
