/- Entries picked out of entries, in a slice of its own; the program's TreeSpan. Conditions: texts of at most 2^21 bytes. -/
import Derived.Test.YtphmlndkjgldkaaMa11
import Derived.Test.YtphmlndkjgldkaaIsp
import Derived.Deep.DeepCutAuto
namespace Go.Proofs.Ytphmlndkjgldkaa
open Go.RowKit
set_option maxRecDepth 100000
section
variable {w w' : World} {lo mid : Nat} {ad : Option Addr} {m c : Nat} {qs : List En} {xs : List Value} {k : Nat}
end
end Go.Proofs.Ytphmlndkjgldkaa
