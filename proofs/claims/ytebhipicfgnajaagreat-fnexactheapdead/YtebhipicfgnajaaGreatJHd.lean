/- What the frame of this law wants, together. No statement of its own. -/
import Derived.Test.YtebhipicfgnajaaGreatLaHd
import Derived.Test.YtebhipicfgnajaaGreatIg10
namespace Go.Proofs.YtebhipicfgnajaaGreat
end Go.Proofs.YtebhipicfgnajaaGreat
