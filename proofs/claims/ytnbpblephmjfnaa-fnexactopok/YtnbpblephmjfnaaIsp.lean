/- InSpan, the specification's and the program's. -/
import Derived.Test.YtnbpblephmjfnaaIx
import Derived.Test.YtnbpblephmjfnaaAr
namespace Go.Proofs.Ytnbpblephmjfnaa
open Go.RowKit
end Go.Proofs.Ytnbpblephmjfnaa
