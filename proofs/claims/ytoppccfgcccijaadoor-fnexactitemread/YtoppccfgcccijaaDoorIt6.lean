/- The contracts of the laws' markItem and heldItem. Conditions: texts of at most 2^21 bytes. -/
import Derived.Test.YtoppccfgcccijaaDoorIt5
namespace Go.Proofs.YtoppccfgcccijaaDoor
open Go.RowKit

theorem markItem (K N : Int) (f : Nat) {base n cap : Nat} {ad : Option Addr} (k : Int) {xs : List Value} {w : World} (hn : n ≤ 2097152) (hk0 : 0 ≤ k) (hk1 : k ≤ 1000000000) (hown : w.ownsRow base 5 1 (.slice ad n cap) n xs) :
    Calls Tryd.prog 12 #[.agg #[.int .i64 K, .int .i64 N, .float .f64 f, .slice ad n cap], .int .i64 k] w fun e w' =>
      e = .returned (.int .i64 (k + n)) ∧ w'.ownsRow base 5 1 (.slice ad n cap) n (bys (marks k n)) ∧ w.grownBy w' (Value.slice ad n cap).ownBlock := by
  have o1 := hown.alloc (.cells #[.int .i64 K, .int .i64 N, .float .f64 f, .slice ad n cap] 28)
  have g1 := World.grownBy_alloc w (.cells #[.int .i64 K, .int .i64 N, .float .f64 f, .slice ad n cap] 28) (Value.slice ad n cap).ownBlock
  have O1 := hid o1
  clear o1
  go_enter Tryd.func12, Tryd.ntmps12
  go_wp2_with fail
  refine (markByteS_any k hn hk0 hk1 O1.out).mono ?_
  rintro e w1 ⟨rfl, o2, g2⟩
  go_wp2_with fail
  go_ret
  exact ⟨rfl, o2, grown_trans g1 g2⟩

theorem heldItem (K N : Int) (f : Nat) {ad : Option Addr} {n : Nat} (cap : Nat) (k : Int) {w : World} (h : Reads w ad n (marks k n)) (hn : n ≤ 2097152) (hk0 : 0 ≤ k) (hk1 : k ≤ 1000000000) :
    Calls Tryd.prog 18 #[.agg #[.int .i64 K, .int .i64 N, .float .f64 f, .slice ad n cap], .int .i64 k] w fun e w' => e = .returned (.int .i64 (k + n)) ∧ Below w.heap.size w w' := by
  have hA : Below w.heap.size w (w.alloc (.cells #[.int .i64 K, .int .i64 N, .float .f64 f, .slice ad n cap] 28)) := (Below.refl _ _).alloc (Nat.le_refl _) _
  have H1 := hid (h.below hA (Nat.le_refl _))
  have HA := hid hA
  have q : ¬ (k + (n : Int)) < 0 := by omega
  clear h hA
  go_enter Tryd.func18, Tryd.ntmps18
  go_wp2_with fail
  refine (heldByteS_any cap k H1.out hn hk0 hk1).mono ?_
  rintro e w1 ⟨rfl, rfl⟩
  go_wp2_with fail
  go_ret
  exact ⟨rfl, HA.out⟩
end Go.Proofs.YtoppccfgcccijaaDoor
