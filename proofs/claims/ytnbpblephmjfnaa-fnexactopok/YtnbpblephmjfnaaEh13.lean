/- The contracts of the laws' markSpan, heldSpan, markTrackS, heldTrackS. Conditions: tracks of at most 2^21 bytes together. -/
import Derived.Test.YtnbpblephmjfnaaEg13
namespace Go.Proofs.Ytnbpblephmjfnaa
open Go.RowKit
set_option maxRecDepth 100000
end Go.Proofs.Ytnbpblephmjfnaa