/- The contract of the specification's ItemClean. Conditions: texts of at most 2^21 bytes. -/
import Derived.Test.YtnhlfkffllbpiaaGreatIc
namespace Go.Proofs.YtnhlfkffllbpiaaGreat
open Go.RowKit
end Go.Proofs.YtnhlfkffllbpiaaGreat
