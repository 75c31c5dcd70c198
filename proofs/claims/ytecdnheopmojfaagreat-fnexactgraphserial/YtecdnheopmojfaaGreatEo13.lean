/- The contract of the specification's l13copy. Conditions: at most 2^20 tracks, reads and writes, texts of at most 2^21 bytes. -/
import Derived.Test.YtecdnheopmojfaaGreatEn13
import Derived.Test.YtecdnheopmojfaaGreatEl13
namespace Go.Proofs.YtecdnheopmojfaaGreat
open Go.RowKit
set_option maxRecDepth 100000
end Go.Proofs.YtecdnheopmojfaaGreat
