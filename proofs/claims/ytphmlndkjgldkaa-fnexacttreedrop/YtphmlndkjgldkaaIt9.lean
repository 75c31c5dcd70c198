/- The contract of the specification's KeyBytes. Conditions: texts of at most 2^21 bytes. -/
import Derived.Test.YtphmlndkjgldkaaIt8
import Derived.Deep.RegionHeld3
namespace Go.Proofs.Ytphmlndkjgldkaa
open Go.RowKit
end Go.Proofs.Ytphmlndkjgldkaa
