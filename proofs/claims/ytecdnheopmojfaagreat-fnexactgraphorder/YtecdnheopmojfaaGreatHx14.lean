/- The contract of the specification's l14behind, with its plain meaning. Conditions: texts of at most 2^21 bytes. -/
import Derived.Test.YtecdnheopmojfaaGreatHv14
import Derived.Test.YtecdnheopmojfaaGreatMgc
namespace Go.Proofs.YtecdnheopmojfaaGreat
open Go.RowKit
set_option maxRecDepth 100000
end Go.Proofs.YtecdnheopmojfaaGreat
