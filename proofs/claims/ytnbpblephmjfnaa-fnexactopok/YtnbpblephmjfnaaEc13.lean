/- The contracts of the laws' toItemS, szItemS, eqItemS, toSpanS, szSpanS, eqSpanS. Conditions: items of at most 2^21 bytes together. -/
import Derived.Test.YtnbpblephmjfnaaEb13
import Derived.Test.YtnbpblephmjfnaaNm9
namespace Go.Proofs.Ytnbpblephmjfnaa
open Go.RowKit
set_option maxRecDepth 100000
end Go.Proofs.Ytnbpblephmjfnaa