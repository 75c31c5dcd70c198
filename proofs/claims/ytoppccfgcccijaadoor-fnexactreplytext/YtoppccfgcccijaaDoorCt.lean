/- What an item holds, behind an interface: contentOf, and the methods of the kinds. -/
import Derived.Test.YtoppccfgcccijaaDoorMgb
import Derived.Test.YtoppccfgcccijaaDoorAr
import Derived.Test.YtoppccfgcccijaaDoorId
namespace Go.Proofs.YtoppccfgcccijaaDoor
open Go.RowKit

theorem lift_wrap (N : Int) (h0 : -9223372036854775808 ≤ N) (h1 : N ≤ 9223372036854775807) : IntKind.u64.wrap (IntKind.u64.wrap N + 9223372036854775808) = (((N + 9223372036854775808).toNat : Nat) : Int) := by
  simp [IntKind.wrap, IntKind.bits, IntKind.signed]
  omega

end Go.Proofs.YtoppccfgcccijaaDoor
