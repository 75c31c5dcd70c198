/- The contract of the specification's PageClear. Conditions: lists of at most 2^47. -/
import Derived.Test.YtkfhfjghfadofaaGreatPg
namespace Go.Proofs.YtkfhfjghfadofaaGreat
open Go.RowKit
set_option maxRecDepth 100000
section
variable {L : Int} {ss : List (List Int)} {slot : Int} {lsn : Int}
end
end Go.Proofs.YtkfhfjghfadofaaGreat
