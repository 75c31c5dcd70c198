/- Bytes as strings: what the conversion gives, and how two such strings are held against each other. -/
import Derived.Test.YtnbpblephmjfnaaMga
import Derived.Test.YtnbpblephmjfnaaSb
import Derived.Laws.BytesArg
import Derived.Laws.Cover1
namespace Go.Proofs.Ytnbpblephmjfnaa
open Go.RowKit
end Go.Proofs.Ytnbpblephmjfnaa
