/- A tuple of a heap marked, plain: its bytes are as long as they were, so that the page takes them. No program, no conditions. -/
import Derived.Test.YtkfhfjghfadofaaGreatIo10
import Derived.Test.YtkfhfjghfadofaaGreatIq10
namespace Go.Proofs.YtkfhfjghfadofaaGreat
open Go.RowKit
set_option maxRecDepth 100000
end Go.Proofs.YtkfhfjghfadofaaGreat
