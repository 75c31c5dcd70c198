/- The program's compareOrdered, at numbers and at texts, and the library's Or. -/
import Derived.Test.YtioefplkadpfnaaSt
namespace Go.Proofs.Ytioefplkadpfnaa
open Go.RowKit

/-- How two numbers stand. -/
def ci (x y : Int) : Int := if x < y then -1 else if y < x then 1 else 0

theorem upto {p : Nat → Prop} {k : Nat} (h : ∀ j, j < k → p j) (hk : p k) : ∀ j, j < k + 1 → p j := by
  intro j hj
  by_cases e : j = k
  · subst e; exact hk
  · exact h j (by omega)

/-- The first number that is not 0. -/
def or4 (a b c d : Int) : Int := if a ≠ 0 then a else if b ≠ 0 then b else if c ≠ 0 then c else d

end Go.Proofs.Ytioefplkadpfnaa
