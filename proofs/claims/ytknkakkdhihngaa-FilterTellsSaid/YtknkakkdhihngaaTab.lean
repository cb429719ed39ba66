/- The table of math/bits stays where old memory stays. -/
import Derived.Test.YtknkakkdhihngaaLibB
import Derived.Test.YtknkakkdhihngaaMem
namespace Go.Proofs.Ytknkakkdhihngaa
open Go.RowKit

end Go.Proofs.Ytknkakkdhihngaa
