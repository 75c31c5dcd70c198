/- The contract of the specification's TrackReads. Conditions: texts of at most 2^21 bytes, at most 2^21 reads. -/
import Derived.Test.YtnbpblephmjfnaaEj13
import Derived.Test.YtnbpblephmjfnaaRk3
namespace Go.Proofs.Ytnbpblephmjfnaa
open Go.RowKit
set_option maxRecDepth 100000
end Go.Proofs.Ytnbpblephmjfnaa