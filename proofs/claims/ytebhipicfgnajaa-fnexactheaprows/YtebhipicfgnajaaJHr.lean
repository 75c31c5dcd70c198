/- What the frame of this law wants, together. No statement of its own. -/
import Derived.Test.YtebhipicfgnajaaLaHr
import Derived.Test.YtebhipicfgnajaaId10
namespace Go.Proofs.Ytebhipicfgnajaa
end Go.Proofs.Ytebhipicfgnajaa
