/- The contract of the specification's TrackReads. Conditions: texts of at most 2^21 bytes, at most 2^21 reads. -/
import Derived.Test.YtecdnheopmojfaaEj13
import Derived.Test.YtecdnheopmojfaaMga
namespace Go.Proofs.Ytecdnheopmojfaa
open Go.RowKit
set_option maxRecDepth 100000
end Go.Proofs.Ytecdnheopmojfaa