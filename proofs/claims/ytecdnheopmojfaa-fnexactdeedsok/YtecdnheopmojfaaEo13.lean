/- The contract of the specification's l13copy. Conditions: at most 2^20 tracks, reads and writes, texts of at most 2^21 bytes. -/
import Derived.Test.YtecdnheopmojfaaEn13
import Derived.Test.YtecdnheopmojfaaEl13
namespace Go.Proofs.Ytecdnheopmojfaa
open Go.RowKit
set_option maxRecDepth 100000
end Go.Proofs.Ytecdnheopmojfaa
