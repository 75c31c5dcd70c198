/- Eight bytes, high first: the program's putHighFirst. -/
import Derived.Test.YtnhlfkffllbpiaaGreatIt9
import Derived.WalkLawsBesides
namespace Go.Proofs.YtnhlfkffllbpiaaGreat
open Go.RowKit
end Go.Proofs.YtnhlfkffllbpiaaGreat
