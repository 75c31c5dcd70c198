/- A place of a heap cleared, plain; the contract of the program's HeapClear. Conditions: what the types say. -/
import Derived.Test.YtebhipicfgnajaaGreatMgc
import Derived.Test.YtebhipicfgnajaaGreatIb10
import Derived.Test.YtebhipicfgnajaaGreatWp
namespace Go.Proofs.YtebhipicfgnajaaGreat
open Go.RowKit
set_option maxRecDepth 100000
end Go.Proofs.YtebhipicfgnajaaGreat
