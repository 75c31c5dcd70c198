/- The contracts of the laws' eqItem, markItem and heldItem. Conditions: texts of at most 2^21 bytes. -/
import Derived.Test.YtgdnjpdheghfoaaIt3
namespace Go.Proofs.Ytgdnjpdheghfoaa
open Go.RowKit

theorem two (w : World) (a b : Obj) : Below w.heap.size w ((w.alloc a).alloc b) := ((Below.refl _ _).alloc (Nat.le_refl _) _).alloc (by simp) _

end Go.Proofs.Ytgdnjpdheghfoaa
