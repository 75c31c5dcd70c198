/- An item as bytes: the contracts of the specification's l3bytes. Conditions: texts of at most 2^21 bytes. -/
import Derived.Test.YtnbpblephmjfnaaIt7
import Derived.Laws.AppendOwnNone
namespace Go.Proofs.Ytnbpblephmjfnaa
open Go.RowKit
end Go.Proofs.Ytnbpblephmjfnaa
