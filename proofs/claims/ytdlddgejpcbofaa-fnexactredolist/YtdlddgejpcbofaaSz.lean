/- The contract of the laws' szByteS: how much is left of a measure. Conditions: a measure of at most 2^20. -/
import Derived.Test.YtdlddgejpcbofaaHelp
namespace Go.Proofs.Ytdlddgejpcbofaa
open Go.RowKit
set_option maxRecDepth 100000

/-- What is left, or -1. -/
def lft (left : Int) (n : Nat) : Int := if left < n then -1 else left - n

theorem szByteS (ad : Option Addr) (n cap : Nat) (left : Int) (hn : n ≤ 9223372036854775807) (h0 : 0 ≤ left) (h1 : left ≤ 1048576) (w : World) :
    Calls Try.prog 26 #[.slice ad n cap, .int .i64 left] w fun e w' => e = .returned (.int .i64 (lft left n)) ∧ w' = w := by
  unfold lft
  have a1 : (0 : Int) ≤ (n : Int) := by omega
  have a2 : (n : Int) ≤ 9223372036854775807 := by omega
  by_cases h : left < n
  · rw [if_pos h]
    have q : left - (n : Int) < 0 := by omega
    go_enter Try.func26, Try.ntmps26
    go_wp2
    go_ret
    exact ⟨rfl, rfl⟩
  · rw [if_neg h]
    have q : ¬ left - (n : Int) < 0 := by omega
    go_enter Try.func26, Try.ntmps26
    go_wp2
    go_ret
    exact ⟨rfl, rfl⟩

end Go.Proofs.Ytdlddgejpcbofaa
