/- The contracts of both PagePlace. Conditions: lists of at most 2^47. -/
import Derived.Test.YtkfhfjghfadofaaGreatMgc
namespace Go.Proofs.YtkfhfjghfadofaaGreat
open Go.RowKit
set_option maxRecDepth 100000
end Go.Proofs.YtkfhfjghfadofaaGreat
