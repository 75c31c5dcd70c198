/- Rows told apart by their type. No statement of its own; no conditions. -/
import Derived.Test.YtnbpblephmjfnaaDk
namespace Go.Proofs.Ytnbpblephmjfnaa
open Go.RowKit
end Go.Proofs.Ytnbpblephmjfnaa
