/- What the frame of this law wants, together. No statement of its own. -/
import Derived.Test.YtkfhfjghfadofaaGreatLaHu
namespace Go.Proofs.YtkfhfjghfadofaaGreat
end Go.Proofs.YtkfhfjghfadofaaGreat
