/- The contracts of the laws' toTrackS, szTrackS, eqTrackS. Conditions: tracks of at most 2^21 bytes together. -/
import Derived.Test.YtnbpblephmjfnaaEe13
namespace Go.Proofs.Ytnbpblephmjfnaa
open Go.RowKit
set_option maxRecDepth 100000
section
variable {w w' : World} {lo hi : Nat} {ms : List Mt} {ts : List Tk}
end
end Go.Proofs.Ytnbpblephmjfnaa