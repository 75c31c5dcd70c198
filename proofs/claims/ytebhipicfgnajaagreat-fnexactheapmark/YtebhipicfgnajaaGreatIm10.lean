/- A place of a heap cleared, plain; the contract of the program's HeapClear. Conditions: what the types say. -/
import Derived.Test.YtebhipicfgnajaaGreatMgc
import Derived.Test.YtebhipicfgnajaaGreatIb10
import Derived.Test.YtebhipicfgnajaaGreatWp
namespace Go.Proofs.YtebhipicfgnajaaGreat
open Go.RowKit
set_option maxRecDepth 100000

theorem atH_ok {ps : List Pg} {x y : Int} (h : (atH ps x y).ok = true) : okH ps = true ∧ (0 ≤ x ∧ x ≤ (ps.length : Int) - 1) ∧ (0 ≤ y ∧ y ≤ ((ps.getD x.toNat pg0).2.length : Int) - 1) := by
  refine Decidable.byContradiction (fun q => ?_)
  rw [atH_no q] at h
  cases h
def clrOk (ps : List Pg) (x y lsn : Int) : Bool := (atH ps x y).ok && decide (1 ≤ lsn ∧ lsn ≤ 1000000)
def clrH (ps : List Pg) (x y lsn : Int) : List Pg := if clrOk ps x y lsn = true then withH ps x.toNat (clearP (ps.getD x.toNat pg0).1 (ps.getD x.toNat pg0).2 y lsn) else []
end Go.Proofs.YtebhipicfgnajaaGreat
