/- The contract of the specification's l3copy. Conditions: texts of at most 2^21 bytes. -/
import Derived.Test.YtoppccfgcccijaaDoorMgb
namespace Go.Proofs.YtoppccfgcccijaaDoor
open Go.RowKit

theorem three_first (w : World) (a b c : Obj) : (((w.alloc a).alloc b).alloc c).heap[w.heap.size]? = some a := by
  have h1 := alloc_size w a
  have h2 := alloc_size (w.alloc a) b
  rw [alloc_old _ _ _ (by omega), alloc_old _ _ _ (by omega)]
  exact heap_alloc_new w a

end Go.Proofs.YtoppccfgcccijaaDoor
