/- contentRead of the program. -/
import Derived.Test.YtioefplkadpfnaaGh
namespace Go.Proofs.Ytioefplkadpfnaa
open Go.RowKit

theorem unlift (x : Nat) (hx : x < 18446744073709551616) : IntKind.i64.wrap (IntKind.u64.wrap ((x : Int) - 9223372036854775808)) = (x : Int) - 9223372036854775808 := by
  simp [IntKind.wrap, IntKind.bits, IntKind.signed]
  omega

end Go.Proofs.Ytioefplkadpfnaa
