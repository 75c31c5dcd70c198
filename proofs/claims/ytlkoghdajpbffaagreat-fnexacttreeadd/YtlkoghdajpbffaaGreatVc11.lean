/- The specification's step at an inner node, in the shape that the induction asks. No conditions. -/
import Derived.Test.YtlkoghdajpbffaaGreatUz11
namespace Go.Proofs.YtlkoghdajpbffaaGreat
open Go.RowKit
set_option maxRecDepth 100000
theorem innerS : InnerS := ⟨fun x kn r0 hN hx hlf hform hm hF hZ hkid hIH hsame hlen hup => ⟨fun hT hl hns hb he hA hav => spec_down_inner hT hl (by omega) hns hb (by omega) hlf hform hm he hF hZ hA hav hkid hIH hsame hlen hup⟩⟩
end Go.Proofs.YtlkoghdajpbffaaGreat
