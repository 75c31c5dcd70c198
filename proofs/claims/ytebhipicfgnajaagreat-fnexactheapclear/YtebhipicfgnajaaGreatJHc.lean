/- What the frame of this law wants, together. No statement of its own. -/
import Derived.Test.YtebhipicfgnajaaGreatLaHc
import Derived.Test.YtebhipicfgnajaaGreatIm10
namespace Go.Proofs.YtebhipicfgnajaaGreat
end Go.Proofs.YtebhipicfgnajaaGreat
