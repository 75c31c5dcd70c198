/- The library's Clone, and itemOf: a content turned back into an item. -/
import Derived.Test.YtoppccfgcccijaaDoorCt
import Derived.Laws.AppendOwnNone
import Derived.WalkLawsBesides
namespace Go.Proofs.YtoppccfgcccijaaDoor
open Go.RowKit

theorem eql_none (c : Nat) (w : World) : (binOp .eql 23 (.slice none 0 c) (.slice none 0 0)).run Tryd.prog w = .ok (.bool true) w := by kernel_rfl
theorem eql_some (a : Addr) (n c : Nat) (w : World) : (binOp .eql 23 (.slice (some a) n c) (.slice none 0 0)).run Tryd.prog w = .ok (.bool false) w := by kernel_rfl
end Go.Proofs.YtoppccfgcccijaaDoor
