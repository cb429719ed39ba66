/- The library's functions that layer 1 calls, by the shelf's contracts: math/bits.Len64, Mul64, laid at this program in plain words. -/
import Derived.Test.YtknkakkdhihngaaChecked
import Derived.KernelRfl
namespace Go.Shelf
end Go.Shelf
namespace Go.Proofs.Ytknkakkdhihngaa
open Go.Shelf
end Go.Proofs.Ytknkakkdhihngaa
