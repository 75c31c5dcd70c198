/- A tuple of a heap marked, plain: its bytes are as long as they were, so that the page takes them. No program, no conditions. -/
import Derived.Test.YtebhipicfgnajaaGreatIo10
import Derived.Test.YtebhipicfgnajaaGreatIq10
namespace Go.Proofs.YtebhipicfgnajaaGreat
open Go.RowKit
set_option maxRecDepth 100000
end Go.Proofs.YtebhipicfgnajaaGreat
