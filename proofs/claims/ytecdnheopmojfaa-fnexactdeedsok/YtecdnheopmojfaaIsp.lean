/- InSpan, the specification's and the program's. -/
import Derived.Test.YtecdnheopmojfaaIx
import Derived.Test.YtecdnheopmojfaaAr
namespace Go.Proofs.Ytecdnheopmojfaa
open Go.RowKit
end Go.Proofs.Ytecdnheopmojfaa
