/- Rows of a heap, plain and in memory. No statement of its own; no conditions. -/
import Derived.Test.YtebhipicfgnajaaGreatHi10
namespace Go.Proofs.YtebhipicfgnajaaGreat
open Go.RowKit
set_option maxRecDepth 100000
structure Rw where
 p : Int
 s : Int
 t : Tu
def rw0 : Rw := ⟨0, 0, t0⟩
def cellsOne (r : Rw) (f : Nat × Nat) (x y : Value) : List Value := [.int .i64 r.p, .int .i64 r.s, .int .i64 r.t.A, .int .i64 r.t.B, .int .i64 r.t.K, .int .i64 r.t.N, .float .f64 f.1, x, .int .i64 r.t.L, .int .i64 r.t.M, .float .f64 f.2, y]
def SameR (r : Rw) (f : Nat × Nat) : Prop := Same r.t.F f.1 ∧ Same r.t.H f.2 ∧ f.1 < 18446744073709551616 ∧ f.2 < 18446744073709551616
section
variable {w w' : World} {lo hi : Nat} {v : Value} {rs : List Rw}
end
end Go.Proofs.YtebhipicfgnajaaGreat
