/- The contract of the specification's ItemClean. Conditions: texts of at most 2^21 bytes. -/
import Derived.Test.YtoppccfgcccijaaDoorIc
namespace Go.Proofs.YtoppccfgcccijaaDoor
open Go.RowKit

def cleanF (f : Nat) : Nat := if f = 9223372036854775808 then 0 else f
/-- What ItemClean answers. -/
def cleanV (K N : Int) (f n : Nat) (v : Value) : Value := if okI K N f n = true then .agg #[.int .i64 K, .int .i64 N, .float .f64 (cleanF f), v] else .agg #[.int .i64 0, .int .i64 0, .float .f64 0, .slice none 0 0]

end Go.Proofs.YtoppccfgcccijaaDoor
