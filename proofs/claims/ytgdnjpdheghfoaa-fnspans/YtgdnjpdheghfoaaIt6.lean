/- The contracts of the laws' markItem and heldItem. Conditions: texts of at most 2^21 bytes. -/
import Derived.Test.YtgdnjpdheghfoaaIt5
namespace Go.Proofs.Ytgdnjpdheghfoaa
open Go.RowKit

end Go.Proofs.Ytgdnjpdheghfoaa
