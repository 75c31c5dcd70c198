/- The contract of the specification's l14reads. Conditions: texts of at most 2^21 bytes, at most 2^21 reads. -/
import Derived.Test.YtecdnheopmojfaaGa14
import Derived.Test.YtecdnheopmojfaaEk13
import Derived.Test.YtecdnheopmojfaaMga
namespace Go.Proofs.Ytecdnheopmojfaa
open Go.RowKit
set_option maxRecDepth 100000
end Go.Proofs.Ytecdnheopmojfaa