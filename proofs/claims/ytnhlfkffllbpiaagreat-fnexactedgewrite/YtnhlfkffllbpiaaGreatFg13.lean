/- The library's Grow and Concat, over tracks. Conditions: at most 2^20 tracks. -/
import Derived.Test.YtnhlfkffllbpiaaGreatFf13
import Derived.Lib.AppendZeros
namespace Go.Proofs.YtnhlfkffllbpiaaGreat
open Go.RowKit
set_option maxRecDepth 100000
end Go.Proofs.YtnhlfkffllbpiaaGreat
