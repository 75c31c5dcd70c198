/- The program's ItemCompare. -/
import Derived.Test.YtnbpblephmjfnaaIm2
import Derived.Test.YtnbpblephmjfnaaOc
import Derived.Deep.RegionHeld3
namespace Go.Proofs.Ytnbpblephmjfnaa
open Go.RowKit
end Go.Proofs.Ytnbpblephmjfnaa
