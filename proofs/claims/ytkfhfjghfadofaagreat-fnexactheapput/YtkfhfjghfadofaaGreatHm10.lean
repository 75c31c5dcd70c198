/- Rows marked, plain: what the laws' markRowS writes, cell by cell. No program, no conditions. -/
import Derived.Test.YtkfhfjghfadofaaGreatHl10
import Derived.Test.YtkfhfjghfadofaaGreatMga
namespace Go.Proofs.YtkfhfjghfadofaaGreat
open Go.RowKit
set_option maxRecDepth 100000
end Go.Proofs.YtkfhfjghfadofaaGreat
