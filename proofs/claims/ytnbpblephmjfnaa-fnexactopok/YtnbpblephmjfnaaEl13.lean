/- Tracks that are right, plain, and the contract of the specification's TracksOk. Conditions: texts of at most 2^21 bytes. -/
import Derived.Test.YtnbpblephmjfnaaEk13
namespace Go.Proofs.Ytnbpblephmjfnaa
open Go.RowKit
set_option maxRecDepth 100000
def trackB (t : Tk) : Bool := decide (1 ≤ t.xid ∧ t.xid ≤ 400) && (decide (1 ≤ t.begun) && (decide (t.ended = 0 ∨ t.begun < t.ended) && (decide (t.rs.length ≤ 6) && (decide (t.all = false ∨ t.rs.length = 0) && (decide (t.ws.length ≤ 200) && (t.rs.all spB && t.ws.all okM))))))
def okTs (ts : List Tk) : Prop := ts.length ≤ 64 ∧ ∀ i, i < ts.length → trackB (ts.getD i tk0) = true ∧ ∀ k, k < i → (ts.getD k tk0).xid ≠ (ts.getD i tk0).xid
open Classical in
noncomputable def tracksB (ts : List Tk) : Bool := decide (okTs ts)
end Go.Proofs.Ytnbpblephmjfnaa