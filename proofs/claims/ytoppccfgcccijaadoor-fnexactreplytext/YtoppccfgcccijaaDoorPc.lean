/- The contracts of the laws' toPage, szPage, eqPage, markPage, heldPage; a page that came in, read. Conditions: lists of at most 2^21 bytes together where memory is made or counted. -/
import Derived.Test.YtoppccfgcccijaaDoorPb
namespace Go.Proofs.YtoppccfgcccijaaDoor
open Go.RowKit
set_option maxRecDepth 100000

/-- What a block holds is kept while cells of another are written. -/
theorem heap_set_ne (w : World) (g o k : Nat) (u : Value) (h : k ≠ g) : (w.setCell ⟨g, o, none⟩ u).heap[k]? = w.heap[k]? := heap_setCell_other w ⟨g, o, none⟩ k u (by simpa using h)

theorem set_size (w : World) (a : Addr) (u : Value) : (w.setCell a u).heap.size = w.heap.size := by simp

section
variable {H : Type} {enc : TypeId × Value → H} {w : World} {base : Nat} {held : Bool}
end
end Go.Proofs.YtoppccfgcccijaaDoor
