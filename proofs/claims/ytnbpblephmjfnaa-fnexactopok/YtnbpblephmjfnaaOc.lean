/- The program's compareOrdered, at numbers and at texts, and the library's Or. -/
import Derived.Test.YtnbpblephmjfnaaSt
namespace Go.Proofs.Ytnbpblephmjfnaa
open Go.RowKit
end Go.Proofs.Ytnbpblephmjfnaa
