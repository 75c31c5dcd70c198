/- Bytes as strings: what the conversion gives. No conditions. -/
import Derived.Test.YtnbpblephmjfnaaMga
import Derived.Laws.BytesArg
import Derived.Laws.Cover1
namespace Go.Proofs.Ytnbpblephmjfnaa
open Go.RowKit
end Go.Proofs.Ytnbpblephmjfnaa
