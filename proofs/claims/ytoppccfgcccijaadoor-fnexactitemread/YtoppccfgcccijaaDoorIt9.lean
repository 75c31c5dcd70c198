/- The contract of the specification's KeyBytes. Conditions: texts of at most 2^21 bytes. -/
import Derived.Test.YtoppccfgcccijaaDoorIt8
import Derived.Deep.RegionHeld3
namespace Go.Proofs.YtoppccfgcccijaaDoor
open Go.RowKit

/-- A key's bytes. -/
def keyB (K N : Int) (f n : Nat) (zs : List Int) : List Int := if okK K N f n = true then bytesI K N (frank f) zs else []

end Go.Proofs.YtoppccfgcccijaaDoor
