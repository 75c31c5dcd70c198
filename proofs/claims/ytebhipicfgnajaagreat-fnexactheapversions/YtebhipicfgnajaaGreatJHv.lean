/- What the frame of this law wants, together. No statement of its own. -/
import Derived.Test.YtebhipicfgnajaaGreatLaHv
import Derived.Test.YtebhipicfgnajaaGreatIh10
namespace Go.Proofs.YtebhipicfgnajaaGreat
end Go.Proofs.YtebhipicfgnajaaGreat
