/- The contracts of the laws' toSpan, szSpan, eqSpan. Conditions: items of at most 2^21 bytes. -/
import Derived.Test.YtoppccfgcccijaaDoorEa13
import Derived.Test.YtoppccfgcccijaaDoorIc
import Derived.Laws.CopyOwn
import Derived.Test.YtoppccfgcccijaaDoorPt
import Derived.Test.YtoppccfgcccijaaDoorMga
import Derived.Laws.Tables
import Derived.Deep.RegionHeld3
import Derived.Deep.MidRow
namespace Go.Proofs.YtoppccfgcccijaaDoor
open Go.RowKit
set_option maxRecDepth 100000

theorem row_grown13 (u : World) (q : Nat) (R : Array Value) : u.grownBy (u.setRow q R) (some q) := ⟨rfl, rfl, rfl, by simp, fun i _ hne => setRow_other _ _ _ _ (fun e => hne (by rw [e]))⟩
theorem two_rows13 (w : World) (a b : Obj) : ((w.alloc a).alloc b).heap[w.heap.size]? = some a ∧ ((w.alloc a).alloc b).heap[w.heap.size + 1]? = some b ∧ ((w.alloc a).alloc b).heap.size = w.heap.size + 2 := by
  have z1 := alloc_size w a
  have z2 := alloc_size (w.alloc a) b
  refine ⟨?_, ?_, by omega⟩
  · rw [heap_alloc_old _ _ (by omega)]; exact heap_alloc_new w a
  · have := heap_alloc_new (w.alloc a) b
    rwa [z1] at this
/-- What is left of a measure. -/
def lft13 (left : Int) (n : Nat) : Int := if left < n then -1 else left - n
theorem Tryd.infoIm : (Tryd.prog.info? 28).map (fun i => (i.zero, i.size, i.bytes)) = some (some (.agg #[.int .i64 0, .int .i64 0, .float .f64 0, .slice none 0 0]), 4, 48) := by kernel_rfl
theorem size_it13 : (Tryd.prog.info? 28).map (·.size) = some 4 := by kernel_rfl

end Go.Proofs.YtoppccfgcccijaaDoor