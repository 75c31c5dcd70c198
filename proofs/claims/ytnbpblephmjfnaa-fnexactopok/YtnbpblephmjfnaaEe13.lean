/- The contracts of the laws' toTrack, szTrack, eqTrack. Conditions: tracks of at most 2^21 bytes, reads and writes together. -/
import Derived.Test.YtnbpblephmjfnaaEd13
namespace Go.Proofs.Ytnbpblephmjfnaa
open Go.RowKit
set_option maxRecDepth 100000
end Go.Proofs.Ytnbpblephmjfnaa