/- The contract of the specification's l13has. Conditions: texts of at most 2^21 bytes, at most 2^21 items. -/
import Derived.Test.YtecdnheopmojfaaEk13
import Derived.Test.YtecdnheopmojfaaEp13
namespace Go.Proofs.Ytecdnheopmojfaa
open Go.RowKit
set_option maxRecDepth 100000
end Go.Proofs.Ytecdnheopmojfaa
