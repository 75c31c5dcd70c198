/- What the frame of this law wants, together. No statement of its own. -/
import Derived.Test.YtebhipicfgnajaaLaHa
import Derived.Test.YtebhipicfgnajaaIb10
namespace Go.Proofs.Ytebhipicfgnajaa
end Go.Proofs.Ytebhipicfgnajaa
