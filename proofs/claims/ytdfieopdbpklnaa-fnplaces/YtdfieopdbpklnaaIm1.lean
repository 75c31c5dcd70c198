/- The program's ItemOk. -/
import Derived.Test.YtdfieopdbpklnaaIt9
namespace Go.Proofs.Ytdfieopdbpklnaa
open Go.RowKit
end Go.Proofs.Ytdfieopdbpklnaa
