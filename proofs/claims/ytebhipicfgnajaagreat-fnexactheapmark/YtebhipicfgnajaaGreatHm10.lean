/- Rows marked, plain: what the laws' markRowS writes, cell by cell. No program, no conditions. -/
import Derived.Test.YtebhipicfgnajaaGreatHl10
import Derived.Test.YtebhipicfgnajaaGreatMga
namespace Go.Proofs.YtebhipicfgnajaaGreat
open Go.RowKit
set_option maxRecDepth 100000

/-- A number as a float. -/
def flI (z : Int) : Nat := floatOfInt .f64 z
/-- A row behind its marks, from k on. -/
def mkR1 (k : Int) (r : Rw) : Rw := ⟨k, k + 1, ⟨k + 2, k + 3, k + 4, k + 5, flI (k + 6), marks (k + 7) r.t.Z.length, k + 7 + r.t.Z.length, k + 8 + r.t.Z.length, flI (k + 9 + r.t.Z.length), marks (k + 10 + r.t.Z.length) r.t.Y.length, r.t.ok⟩⟩
def nmR (r : Rw) : Nat := 10 + r.t.Z.length + r.t.Y.length
def sumR : List Rw → Nat
  | [] => 0
  | r :: rs => nmR r + sumR rs
def mkRs : Int → List Rw → List Rw
  | _, [] => []
  | k, r :: rs => mkR1 k r :: mkRs (k + nmR r) rs
end Go.Proofs.YtebhipicfgnajaaGreat
