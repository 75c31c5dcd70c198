/- Eight bytes, high first: the program's putHighFirst. -/
import Derived.Test.YtnbpblephmjfnaaIt9
import Derived.WalkLawsBesides
namespace Go.Proofs.Ytnbpblephmjfnaa
open Go.RowKit
end Go.Proofs.Ytnbpblephmjfnaa
