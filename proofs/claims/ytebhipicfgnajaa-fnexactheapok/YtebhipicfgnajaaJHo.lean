/- What the frame of this law wants, together. No statement of its own. -/
import Derived.Test.YtebhipicfgnajaaLaHo
import Derived.Test.YtebhipicfgnajaaIa10
namespace Go.Proofs.Ytebhipicfgnajaa
end Go.Proofs.Ytebhipicfgnajaa
