/- What an item holds, behind an interface: contentOf, and the methods of the kinds. -/
import Derived.Test.YtnhlfkffllbpiaaGreatPh
import Derived.Test.YtnhlfkffllbpiaaGreatAr
import Derived.Test.YtnhlfkffllbpiaaGreatId
namespace Go.Proofs.YtnhlfkffllbpiaaGreat
open Go.RowKit
end Go.Proofs.YtnhlfkffllbpiaaGreat
