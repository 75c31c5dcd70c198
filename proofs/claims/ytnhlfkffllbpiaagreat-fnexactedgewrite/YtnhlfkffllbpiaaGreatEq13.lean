/- Small facts for the walks of the laws of EdgeBegin and the like. No conditions. -/
import Derived.Test.YtnhlfkffllbpiaaGreatEp13
namespace Go.Proofs.YtnhlfkffllbpiaaGreat
open Go.RowKit
set_option maxRecDepth 100000
theorem lnT_of {ts : List Tk} (h : sumT ts ≤ 1048576) : lnT ts := by
 intro i
 have h1 := szT_at ts i
 unfold szT at h1
 omega
end Go.Proofs.YtnhlfkffllbpiaaGreat
