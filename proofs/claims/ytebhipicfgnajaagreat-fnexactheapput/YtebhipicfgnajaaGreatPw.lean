/- The contracts of both PagePlace. Conditions: lists of at most 2^47. -/
import Derived.Test.YtebhipicfgnajaaGreatMgc
namespace Go.Proofs.YtebhipicfgnajaaGreat
open Go.RowKit
set_option maxRecDepth 100000
end Go.Proofs.YtebhipicfgnajaaGreat
