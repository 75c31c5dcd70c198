/- The contract of the laws' toItem: the same item with a text of its own. Conditions: texts of at most 2^21 bytes. -/
import Derived.Test.YtdfieopdbpklnaaIt2
import Derived.Test.YtdfieopdbpklnaaMga
import Derived.Laws.Tables
namespace Go.Proofs.Ytdfieopdbpklnaa
open Go.RowKit

theorem size58 : (Try.prog.info? 58).map (·.size) = some 4 := by kernel_rfl







end Go.Proofs.Ytdfieopdbpklnaa
