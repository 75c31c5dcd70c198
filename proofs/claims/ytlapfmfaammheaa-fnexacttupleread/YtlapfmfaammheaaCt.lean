/- What an item holds, behind an interface: contentOf, and the methods of the kinds. -/
import Derived.Test.YtlapfmfaammheaaPh
import Derived.Test.YtlapfmfaammheaaAr
import Derived.Test.YtlapfmfaammheaaId
namespace Go.Proofs.Ytlapfmfaammheaa
open Go.RowKit

set_option maxRecDepth 100000 in
theorem contentOf_int (N : Int) (f : Nat) (ad : Option Addr) (n cap : Nat) (w : World) :
    Calls Try.prog 48 #[.agg #[.int .i64 1, .int .i64 N, .float .f64 f, .slice ad n cap]] w fun e w' => e = .returned (.iface 98 (.int .i64 N)) ∧ Below w.heap.size w w' := by
  have HA := hid (Below.alloc1 w (.cells #[.int .i64 1, .int .i64 N, .float .f64 f, .slice ad n cap] 26))
  go_enter Try.func48, Try.ntmps48
  go_wp2
  go_ret
  exact ⟨rfl, HA.out⟩

set_option maxRecDepth 100000 in
theorem contentOf_float (N : Int) (f : Nat) (ad : Option Addr) (n cap : Nat) (w : World) :
    Calls Try.prog 48 #[.agg #[.int .i64 2, .int .i64 N, .float .f64 f, .slice ad n cap]] w fun e w' => e = .returned (.iface 99 (.float .f64 f)) ∧ Below w.heap.size w w' := by
  have HA := hid (Below.alloc1 w (.cells #[.int .i64 2, .int .i64 N, .float .f64 f, .slice ad n cap] 26))
  go_enter Try.func48, Try.ntmps48
  go_wp2
  go_ret
  exact ⟨rfl, HA.out⟩

set_option maxRecDepth 100000 in
theorem contentOf_text (N : Int) (f : Nat) (ad : Option Addr) (n cap : Nat) (w : World) :
    Calls Try.prog 48 #[.agg #[.int .i64 3, .int .i64 N, .float .f64 f, .slice ad n cap]] w fun e w' => e = .returned (.iface 100 (.slice ad n cap)) ∧ Below w.heap.size w w' := by
  have HA := hid (Below.alloc1 w (.cells #[.int .i64 3, .int .i64 N, .float .f64 f, .slice ad n cap] 26))
  go_enter Try.func48, Try.ntmps48
  go_wp2
  go_ret
  exact ⟨rfl, HA.out⟩

set_option maxRecDepth 100000 in
theorem contentOf_none (N : Int) (f : Nat) (ad : Option Addr) (n cap : Nat) (w : World) :
    Calls Try.prog 48 #[.agg #[.int .i64 0, .int .i64 N, .float .f64 f, .slice ad n cap]] w fun e w' => e = .returned (.iface 102 (.agg #[])) ∧ Below w.heap.size w w' := by
  have HA := hid (Below.alloc1 w (.cells #[.int .i64 0, .int .i64 N, .float .f64 f, .slice ad n cap] 26))
  go_enter Try.func48, Try.ntmps48
  go_wp2
  go_ret
  exact ⟨rfl, HA.out⟩

theorem key_text (ad : Option Addr) (n cap : Nat) (w : World) :
    Calls Try.prog 126 #[.slice ad n cap] w fun e w' => e = .returned (.slice ad n cap) ∧ w' = w := by
  go_enter Try.func126, Try.ntmps126
  go_wp2
  go_ret
  exact ⟨rfl, rfl⟩
theorem val_text (ad : Option Addr) (n cap : Nat) (w : World) :
    Calls Try.prog 127 #[.slice ad n cap] w fun e w' => e = .returned (.slice ad n cap) ∧ w' = w := by
  go_enter Try.func127, Try.ntmps127
  go_wp2_with fail
  refine (key_text ad n cap _).mono ?_
  rintro e w1 ⟨rfl, rfl⟩
  go_wp2_with fail
  go_ret
  exact ⟨rfl, rfl⟩

theorem lift_wrap (N : Int) (h0 : -9223372036854775808 ≤ N) (h1 : N ≤ 9223372036854775807) : IntKind.u64.wrap (IntKind.u64.wrap N + 9223372036854775808) = (((N + 9223372036854775808).toNat : Nat) : Int) := by
  simp [IntKind.wrap, IntKind.bits, IntKind.signed]
  omega

set_option maxRecDepth 100000 in
theorem key_int (N : Int) (h0 : -9223372036854775808 ≤ N) (h1 : N ≤ 9223372036854775807) (w : World) :
    Calls Try.prog 119 #[.int .i64 N] w fun e w' => ∃ v, e = .returned v ∧ w'.ownsRow w.heap.size 5 1 v 8 (bys (hi8 (N + 9223372036854775808).toNat 8)) ∧ Below w.heap.size w w' := by
  have hw := lift_wrap N h0 h1
  have hX : (N + 9223372036854775808).toNat < 18446744073709551616 := by omega
  generalize (N + 9223372036854775808).toNat = x at *
  clear h0 h1
  go_enter Try.func119, Try.ntmps119
  go_wp2_with fail
  refine (impl_putHigh x hX _).mono ?_
  rintro e w1 ⟨v, rfl, o, b⟩
  have O := hid o
  have B := hid b
  clear o b
  go_wp2_with fail
  go_ret
  exact ⟨_, rfl, O.out, B.out⟩
set_option maxRecDepth 100000 in
theorem val_int (N : Int) (h0 : -9223372036854775808 ≤ N) (h1 : N ≤ 9223372036854775807) (w : World) :
    Calls Try.prog 120 #[.int .i64 N] w fun e w' => ∃ v, e = .returned v ∧ w'.ownsRow w.heap.size 5 1 v 8 (bys (hi8 (N + 9223372036854775808).toNat 8)) ∧ Below w.heap.size w w' := by
  go_enter Try.func120, Try.ntmps120
  go_wp2_with fail
  refine (key_int N h0 h1 _).mono ?_
  rintro e w1 ⟨v, rfl, o, b⟩
  have O := hid o
  have B := hid b
  clear o b
  go_wp2_with fail
  go_ret
  exact ⟨_, rfl, O.out, B.out⟩
set_option maxRecDepth 100000 in
theorem key_float (f : Nat) (hf : f < 18446744073709551616) (w : World) :
    Calls Try.prog 123 #[.float .f64 f] w fun e w' => ∃ v, e = .returned v ∧ w'.ownsRow w.heap.size 5 1 v 8 (bys (hi8 (frank f) 8)) ∧ Below w.heap.size w w' := by
  go_enter Try.func123, Try.ntmps123
  go_wp2_with fail
  refine (impl_FloatRank f hf _).mono ?_
  rintro e w0 ⟨rfl, rfl⟩
  go_wp2_with fail
  refine (impl_putHigh (frank f) (frank_lt f hf) _).mono ?_
  rintro e w1 ⟨v, rfl, o, b⟩
  have O := hid o
  have B := hid b
  clear o b
  go_wp2_with fail
  go_ret
  exact ⟨_, rfl, O.out, B.out⟩
set_option maxRecDepth 100000 in
theorem val_float (f : Nat) (hf : f < 18446744073709551616) (w : World) :
    Calls Try.prog 124 #[.float .f64 f] w fun e w' => ∃ v, e = .returned v ∧ w'.ownsRow w.heap.size 5 1 v 8 (bys (hi8 (fbits f) 8)) ∧ Below w.heap.size w w' := by
  go_enter Try.func124, Try.ntmps124
  go_wp2_with fail
  refine (impl_FloatBits f hf _).mono ?_
  rintro e w0 ⟨rfl, rfl⟩
  go_wp2_with fail
  refine (impl_putHigh (fbits f) (fbits_lt f hf) _).mono ?_
  rintro e w1 ⟨v, rfl, o, b⟩
  have O := hid o
  have B := hid b
  clear o b
  go_wp2_with fail
  go_ret
  exact ⟨_, rfl, O.out, B.out⟩
end Go.Proofs.Ytlapfmfaammheaa
