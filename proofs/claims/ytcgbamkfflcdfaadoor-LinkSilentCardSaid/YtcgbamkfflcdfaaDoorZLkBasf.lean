/- All that LinkSilent rests on. No condition. -/
import Derived.Test.YtcgbamkfflcdfaaDoorZLkBasf07
namespace Go.Proofs.YtcgbamkfflcdfaaDoor
theorem all_there_link2 : True := trivial
end Go.Proofs.YtcgbamkfflcdfaaDoor
