/- contentRead of the program. -/
import Derived.Test.YtlapfmfaammheaaGh
namespace Go.Proofs.Ytlapfmfaammheaa
open Go.RowKit

theorem unlift (x : Nat) (hx : x < 18446744073709551616) : IntKind.i64.wrap (IntKind.u64.wrap ((x : Int) - 9223372036854775808)) = (x : Int) - 9223372036854775808 := by
  simp [IntKind.wrap, IntKind.bits, IntKind.signed]
  omega

set_option maxRecDepth 100000 in
set_option maxHeartbeats 1600000 in
theorem read_text (fn : Nat) (ad : Option Addr) (n cap : Nat) (w : World) :
    Calls Try.prog 81 #[.int .i64 3, .slice ad n cap, .func (.func fn) #[] #[]] w fun e w' => e = .returned (.tuple #[.iface 100 (.slice ad n cap), .bool (decide (n ≤ 40))]) ∧ w' = w := by
  by_cases h : n ≤ 40
  · rw [decide_eq_true h]
    have h' : (n : Int) ≤ 40 := by omega
    go_enter Try.func81, Try.ntmps81
    go_wp2
    go_ret2
    exact ⟨rfl, rfl⟩
  · rw [decide_eq_false h]
    have h' : ¬ (n : Int) ≤ 40 := by omega
    go_enter Try.func81, Try.ntmps81
    go_wp2
    go_ret2
    exact ⟨by first | rfl | (show Ending.returned (.tuple #[_, .bool (decide ((n : Int) ≤ 40))]) = _; rw [decide_eq_false (show ¬ (n : Int) ≤ 40 by omega)]), rfl⟩

set_option maxRecDepth 100000 in
set_option maxHeartbeats 1600000 in
theorem read_int (fn : Nat) {ad : Option Addr} {n : Nat} (cap : Nat) {zs : List Int} {w : World} (h : Reads w ad n zs) (hn : n = 8) :
    Calls Try.prog 81 #[.int .i64 1, .slice ad n cap, .func (.func fn) #[] #[]] w fun e w' => e = .returned (.tuple #[.iface 98 (.int .i64 ((low zs : Int) - 9223372036854775808)), .bool true]) ∧ w' = w := by
  have hx : low zs < 18446744073709551616 := low_lt zs 0 (by omega)
  have hu := unlift (low zs) hx
  have hg := impl_getHigh cap h hn
  generalize low zs = x at *
  clear h hn
  go_enter Try.func81, Try.ntmps81
  go_wp2_with fail
  refine hg.mono ?_
  rintro e w1 ⟨rfl, rfl⟩
  go_wp2_with fail
  go_ret2
  exact ⟨rfl, rfl⟩

end Go.Proofs.Ytlapfmfaammheaa
