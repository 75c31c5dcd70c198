/- Rows marked, plain: what the laws' markRowS writes, cell by cell. No program, no conditions. -/
import Derived.Test.YtebhipicfgnajaaGreatHl10
import Derived.Test.YtebhipicfgnajaaGreatMga
namespace Go.Proofs.YtebhipicfgnajaaGreat
open Go.RowKit
set_option maxRecDepth 100000
end Go.Proofs.YtebhipicfgnajaaGreat
