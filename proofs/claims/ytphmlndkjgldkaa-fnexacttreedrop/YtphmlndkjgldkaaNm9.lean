/- A slice of snapshots: what it reads as, its cells. No statement of its own; no conditions. -/
import Derived.Test.YtphmlndkjgldkaaNk9
namespace Go.Proofs.Ytphmlndkjgldkaa
open Go.RowKit
set_option maxRecDepth 100000
theorem set_rep9 {α : Type} (xs : List α) (k n : Nat) (z v : α) (hx : xs.length = k) (hk : k < n) : (xs ++ List.replicate (n - k) z).set k v = (xs ++ [v]) ++ List.replicate (n - (k + 1)) z := by
 rw [List.set_append_right _ _ (by omega), hx, Nat.sub_self, show n - k = (n - (k + 1)) + 1 by omega, List.replicate_succ, List.set_cons_zero]
 simp
end Go.Proofs.Ytphmlndkjgldkaa
