/- What the walks of this seat import, and the byte type's row of the table. No conditions. -/
import Derived.Test.YtchkbhdlmfchdaaRows
import Derived.Test.YtchkbhdlmfchdaaBase
import Derived.Deep.QuietTactic
import Derived.BigQuiet
namespace Go.Proofs.Ytchkbhdlmfchdaa
theorem Try.info5 : (Try.prog.info? 5).map (fun i => (i.zero, i.size, i.bytes)) = some (some (.int .u8 0), 1, 1) := by kernel_rfl
end Go.Proofs.Ytchkbhdlmfchdaa
