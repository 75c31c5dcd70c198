/- contentRead of the program, at floats and at what is none. -/
import Derived.Test.YtdfieopdbpklnaaCr
namespace Go.Proofs.Ytdfieopdbpklnaa
open Go.RowKit

end Go.Proofs.Ytdfieopdbpklnaa
