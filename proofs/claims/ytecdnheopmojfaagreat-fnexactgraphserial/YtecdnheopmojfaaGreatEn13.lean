/- The contracts of the specification's l13items and l13spans. Conditions: at most 100000 of them, texts of at most 2^21 bytes. -/
import Derived.Test.YtecdnheopmojfaaGreatEf13
import Derived.Test.YtecdnheopmojfaaGreatIc
namespace Go.Proofs.YtecdnheopmojfaaGreat
open Go.RowKit
set_option maxRecDepth 100000
end Go.Proofs.YtecdnheopmojfaaGreat