/- What the frame of this law wants, together. No statement of its own. -/
import Derived.Test.YtebhipicfgnajaaGreatLaHu
namespace Go.Proofs.YtebhipicfgnajaaGreat
end Go.Proofs.YtebhipicfgnajaaGreat
