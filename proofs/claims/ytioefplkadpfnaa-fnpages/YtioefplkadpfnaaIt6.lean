/- The contracts of the laws' markItem and heldItem. Conditions: texts of at most 2^21 bytes. -/
import Derived.Test.YtioefplkadpfnaaIt5
namespace Go.Proofs.Ytioefplkadpfnaa
open Go.RowKit

end Go.Proofs.Ytioefplkadpfnaa
