/- The contracts of the laws' markItem and heldItem. Conditions: texts of at most 2^21 bytes. -/
import Derived.Test.YtnjofaiekofamaaIt5
namespace Go.Proofs.Ytnjofaiekofamaa
open Go.RowKit

theorem markItem (K N : Int) (f : Nat) {base n cap : Nat} {ad : Option Addr} (k : Int) {xs : List Value} {w : World} (hn : n ≤ 2097152) (hk0 : 0 ≤ k) (hk1 : k ≤ 1000000000) (hown : w.ownsRow base 5 1 (.slice ad n cap) n xs) :
    Calls Try.prog 43 #[.agg #[.int .i64 K, .int .i64 N, .float .f64 f, .slice ad n cap], .int .i64 k] w fun e w' =>
      e = .returned (.int .i64 (k + n)) ∧ w'.ownsRow base 5 1 (.slice ad n cap) n (bys (marks k n)) ∧ w.grownBy w' (Value.slice ad n cap).ownBlock := by
  have o1 := hown.alloc (.cells #[.int .i64 K, .int .i64 N, .float .f64 f, .slice ad n cap] 32)
  have g1 := World.grownBy_alloc w (.cells #[.int .i64 K, .int .i64 N, .float .f64 f, .slice ad n cap] 32) (Value.slice ad n cap).ownBlock
  have O1 := hid o1
  clear o1
  go_enter Try.func43, Try.ntmps43
  go_wp2_with fail
  refine (markByteS_any k hn hk0 hk1 O1.out).mono ?_
  rintro e w1 ⟨rfl, o2, g2⟩
  go_wp2_with fail
  go_ret
  exact ⟨rfl, o2, grown_trans g1 g2⟩

end Go.Proofs.Ytnjofaiekofamaa
