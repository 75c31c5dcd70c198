/- The contracts of the laws' eqItem, markItem and heldItem. Conditions: texts of at most 2^21 bytes. -/
import Derived.Test.YtdfieopdbpklnaaIt3
namespace Go.Proofs.Ytdfieopdbpklnaa
open Go.RowKit



end Go.Proofs.Ytdfieopdbpklnaa
