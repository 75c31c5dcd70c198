/- The contract of the specification's HeapRows. Conditions: what the types say. -/
import Derived.Test.YtebhipicfgnajaaGreatHj10
namespace Go.Proofs.YtebhipicfgnajaaGreat
open Go.RowKit
set_option maxRecDepth 100000
end Go.Proofs.YtebhipicfgnajaaGreat
