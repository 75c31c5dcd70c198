/- The contract of the laws' toItem: the same item with a text of its own. Conditions: texts of at most 2^21 bytes. -/
import Derived.Test.YtioefplkadpfnaaIt2
import Derived.Test.YtioefplkadpfnaaMga
import Derived.Laws.Tables
namespace Go.Proofs.Ytioefplkadpfnaa
open Go.RowKit

theorem size63 : (Try.prog.info? 63).map (·.size) = some 4 := by kernel_rfl







end Go.Proofs.Ytioefplkadpfnaa
