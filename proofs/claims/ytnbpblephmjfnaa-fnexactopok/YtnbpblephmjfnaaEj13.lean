/- Spans and tracks, plain, and the contracts of the specification's SpanOk, Concurrent, TrackReads. Conditions: texts of at most 2^21 bytes, at most 2^21 reads. -/
import Derived.Test.YtnbpblephmjfnaaEd13
import Derived.Test.YtnbpblephmjfnaaIsp
import Derived.Test.YtnbpblephmjfnaaEi13
namespace Go.Proofs.Ytnbpblephmjfnaa
open Go.RowKit
set_option maxRecDepth 100000
def okM (e : Im) : Bool := okK e.K e.N e.F e.Z.length
def cmpM (e f : Im) : Int := cmpI e.K e.N e.F e.Z.length e.Z f.K f.N f.F f.Z.length f.Z
def spB (p : Im × Im) : Bool := okM p.1 && (okM p.2 && decide (cmpM p.1 p.2 ≤ 0))
end Go.Proofs.Ytnbpblephmjfnaa
