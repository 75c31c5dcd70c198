/- A place of a heap cleared, plain; the contract of the program's HeapClear. Conditions: what the types say. -/
import Derived.Test.YtkfhfjghfadofaaGreatMgc
import Derived.Test.YtkfhfjghfadofaaGreatIb10
import Derived.Test.YtkfhfjghfadofaaGreatWp
namespace Go.Proofs.YtkfhfjghfadofaaGreat
open Go.RowKit
set_option maxRecDepth 100000
end Go.Proofs.YtkfhfjghfadofaaGreat
