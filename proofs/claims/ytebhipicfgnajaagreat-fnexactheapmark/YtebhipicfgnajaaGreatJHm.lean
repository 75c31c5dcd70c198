/- What the frame of this law wants, together. No statement of its own. -/
import Derived.Test.YtebhipicfgnajaaGreatLaHm
import Derived.Test.YtebhipicfgnajaaGreatIu10
namespace Go.Proofs.YtebhipicfgnajaaGreat
end Go.Proofs.YtebhipicfgnajaaGreat
