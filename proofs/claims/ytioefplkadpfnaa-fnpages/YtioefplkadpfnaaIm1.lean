/- The program's ItemOk. -/
import Derived.Test.YtioefplkadpfnaaIt9
namespace Go.Proofs.Ytioefplkadpfnaa
open Go.RowKit
end Go.Proofs.Ytioefplkadpfnaa
