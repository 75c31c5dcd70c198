/- The contracts of the laws' toSnap, szSnap, eqSnap, toSnapS, szSnapS, eqSnapS. Conditions: lists of at most 2^21 numbers together. -/
import Derived.Test.YtphmlndkjgldkaaNm9
import Derived.Test.YtphmlndkjgldkaaMga
import Derived.Laws.Tables
import Derived.Deep.RegionHeld3
namespace Go.Proofs.Ytphmlndkjgldkaa
open Go.RowKit
set_option maxRecDepth 100000
def lft9 (left : Int) (n : Nat) : Int := if left < n then -1 else left - n
theorem szIntS (ad : Option Addr) (n cap : Nat) (left : Int) (hn : n ≤ 9223372036854775807) (h0 : 0 ≤ left) (h1 : left ≤ 1048576) (w : World) :
 Calls Try.prog 124 #[.slice ad n cap, .int .i64 left] w fun e w' => e = .returned (.int .i64 (lft9 left n)) ∧ w' = w := by
 unfold lft9
 have a1 : (0 : Int) ≤ (n : Int) := by omega
 have a2 : (n : Int) ≤ 9223372036854775807 := by omega
 by_cases h : left < n
 · rw [if_pos h]
   have q : left - (n : Int) < 0 := by omega
   go_enter Try.func124, Try.ntmps124
   go_wp2
   go_ret
   exact ⟨rfl, rfl⟩
 · rw [if_neg h]
   have q : ¬ left - (n : Int) < 0 := by omega
   go_enter Try.func124, Try.ntmps124
   go_wp2
   go_ret
   exact ⟨rfl, rfl⟩
end Go.Proofs.Ytphmlndkjgldkaa
