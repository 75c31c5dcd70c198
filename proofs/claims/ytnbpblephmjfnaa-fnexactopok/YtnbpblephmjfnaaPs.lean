/- An append of whatever row to a row of the call's own, at a step of a region that draws and at a plain one; rows of rows that grow. No statement of its own; no conditions. -/
import Derived.Test.YtnbpblephmjfnaaPc
import Derived.Test.YtnbpblephmjfnaaRk3
import Derived.Deep.AppendLies
import Derived.Laws.AppendOwnNone
namespace Go.Proofs.Ytnbpblephmjfnaa
open Go.RowKit
theorem own_sl {w : World} {base n : Nat} {e : TypeId} {s : Nat} {v : Value} {xs : List Value} (h : w.ownsRow base e s v n xs) : ∃ a c, v = .slice a n c := by
 rcases h.2 with ⟨rfl, rfl⟩ | ⟨g, cap, cur, rfl, _⟩
 · exact ⟨none, 0, rfl⟩
 · exact ⟨_, cap, rfl⟩
section
variable {P : Program} {w : World}
end
end Go.Proofs.Ytnbpblephmjfnaa
