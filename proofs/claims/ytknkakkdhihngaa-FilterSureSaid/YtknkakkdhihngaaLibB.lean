/- The library's functions that layer 3 calls, by the shelf's contracts: math/bits.LeadingZeros64, TrailingZeros64, laid at this program in plain words. -/
import Derived.Test.YtknkakkdhihngaaLib
import Derived.RowKit
namespace Go.Proofs.Ytknkakkdhihngaa
open Go.Shelf Go.RowKit
end Go.Proofs.Ytknkakkdhihngaa
