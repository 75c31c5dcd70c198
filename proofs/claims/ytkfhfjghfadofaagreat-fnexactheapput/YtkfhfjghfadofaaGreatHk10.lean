/- The contract of the specification's HeapRows. Conditions: what the types say. -/
import Derived.Test.YtkfhfjghfadofaaGreatHj10
namespace Go.Proofs.YtkfhfjghfadofaaGreat
open Go.RowKit
set_option maxRecDepth 100000
end Go.Proofs.YtkfhfjghfadofaaGreat
