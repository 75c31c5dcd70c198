/- The contract of the specification's l14behind, with its plain meaning. Conditions: texts of at most 2^21 bytes. -/
import Derived.Test.YtnbpblephmjfnaaGreatHv14
import Derived.Test.YtnbpblephmjfnaaGreatMge
namespace Go.Proofs.YtnbpblephmjfnaaGreat
open Go.RowKit
set_option maxRecDepth 100000
end Go.Proofs.YtnbpblephmjfnaaGreat
