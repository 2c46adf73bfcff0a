/- All that the laws of link rest on. No condition. -/
import Derived.Test.YtcgbamkfflcdfaaDoorZLkBase07
namespace Go.Proofs.YtcgbamkfflcdfaaDoor
theorem all_there_link : True := trivial
end Go.Proofs.YtcgbamkfflcdfaaDoor
