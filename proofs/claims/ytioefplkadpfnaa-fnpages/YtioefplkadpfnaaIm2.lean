/- The program's KeyOk. -/
import Derived.Test.YtioefplkadpfnaaIm1
namespace Go.Proofs.Ytioefplkadpfnaa
open Go.RowKit
theorem fbits_top (f : Nat) : fbits f = 9223372036854775808 ↔ f = 9223372036854775808 := by
  by_cases h : isN f = true
  · rw [fbits, if_pos h]
    constructor
    · intro h'; omega
    · intro h'; subst h'; exact absurd h (by decide)
  · rw [fbits, if_neg h]

end Go.Proofs.Ytioefplkadpfnaa
