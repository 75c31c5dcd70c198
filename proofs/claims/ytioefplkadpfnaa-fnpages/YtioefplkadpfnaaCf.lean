/- contentRead of the program, at floats and at what is none. -/
import Derived.Test.YtioefplkadpfnaaCr
namespace Go.Proofs.Ytioefplkadpfnaa
open Go.RowKit

end Go.Proofs.Ytioefplkadpfnaa
