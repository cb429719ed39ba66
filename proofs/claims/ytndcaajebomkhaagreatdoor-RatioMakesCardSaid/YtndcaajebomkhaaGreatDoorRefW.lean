/- The document's own answers for layer 2: Add, Sub, Cmp, Small, Mul. -/
import Derived.Test.YtndcaajebomkhaaGreatDoorRefV
namespace Go.Proofs.YtndcaajebomkhaaGreatDoor
open Go.RowKit




end Go.Proofs.YtndcaajebomkhaaGreatDoor
