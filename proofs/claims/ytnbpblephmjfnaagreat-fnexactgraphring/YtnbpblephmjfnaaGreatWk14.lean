/- The contract of the specification's GraphOrder. Conditions: texts of at most 2^21 bytes. -/
import Derived.Test.YtnbpblephmjfnaaGreatWi14
import Derived.Test.YtnbpblephmjfnaaGreatWj14
namespace Go.Proofs.YtnbpblephmjfnaaGreat
open Go.RowKit
set_option maxRecDepth 100000
end Go.Proofs.YtnbpblephmjfnaaGreat
