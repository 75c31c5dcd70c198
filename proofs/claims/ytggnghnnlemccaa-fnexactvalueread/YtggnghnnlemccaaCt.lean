/- What an item holds, behind an interface: contentOf, and the methods of the kinds. -/
import Derived.Test.YtggnghnnlemccaaPh
import Derived.Test.YtggnghnnlemccaaAr
import Derived.Test.YtggnghnnlemccaaId
namespace Go.Proofs.Ytggnghnnlemccaa
open Go.RowKit

set_option maxRecDepth 100000 in
theorem contentOf_int (N : Int) (f : Nat) (ad : Option Addr) (n cap : Nat) (w : World) :
    Calls Try.prog 61 #[.agg #[.int .i64 1, .int .i64 N, .float .f64 f, .slice ad n cap]] w fun e w' => e = .returned (.iface 82 (.int .i64 N)) ∧ Below w.heap.size w w' := by
  have HA := hid (Below.alloc1 w (.cells #[.int .i64 1, .int .i64 N, .float .f64 f, .slice ad n cap] 26))
  go_enter Try.func61, Try.ntmps61
  go_wp2
  go_ret
  exact ⟨rfl, HA.out⟩

set_option maxRecDepth 100000 in
theorem contentOf_float (N : Int) (f : Nat) (ad : Option Addr) (n cap : Nat) (w : World) :
    Calls Try.prog 61 #[.agg #[.int .i64 2, .int .i64 N, .float .f64 f, .slice ad n cap]] w fun e w' => e = .returned (.iface 83 (.float .f64 f)) ∧ Below w.heap.size w w' := by
  have HA := hid (Below.alloc1 w (.cells #[.int .i64 2, .int .i64 N, .float .f64 f, .slice ad n cap] 26))
  go_enter Try.func61, Try.ntmps61
  go_wp2
  go_ret
  exact ⟨rfl, HA.out⟩

set_option maxRecDepth 100000 in
theorem contentOf_text (N : Int) (f : Nat) (ad : Option Addr) (n cap : Nat) (w : World) :
    Calls Try.prog 61 #[.agg #[.int .i64 3, .int .i64 N, .float .f64 f, .slice ad n cap]] w fun e w' => e = .returned (.iface 84 (.slice ad n cap)) ∧ Below w.heap.size w w' := by
  have HA := hid (Below.alloc1 w (.cells #[.int .i64 3, .int .i64 N, .float .f64 f, .slice ad n cap] 26))
  go_enter Try.func61, Try.ntmps61
  go_wp2
  go_ret
  exact ⟨rfl, HA.out⟩

set_option maxRecDepth 100000 in
theorem contentOf_none (N : Int) (f : Nat) (ad : Option Addr) (n cap : Nat) (w : World) :
    Calls Try.prog 61 #[.agg #[.int .i64 0, .int .i64 N, .float .f64 f, .slice ad n cap]] w fun e w' => e = .returned (.iface 86 (.agg #[])) ∧ Below w.heap.size w w' := by
  have HA := hid (Below.alloc1 w (.cells #[.int .i64 0, .int .i64 N, .float .f64 f, .slice ad n cap] 26))
  go_enter Try.func61, Try.ntmps61
  go_wp2
  go_ret
  exact ⟨rfl, HA.out⟩

theorem clean_int (N : Int) (w : World) :
    Calls Try.prog 103 #[.int .i64 N] w fun e w' => e = .returned (.iface 82 (.int .i64 N)) ∧ w' = w := by
  go_enter Try.func103, Try.ntmps103
  go_wp2
  go_ret
  exact ⟨rfl, rfl⟩
theorem clean_text (ad : Option Addr) (n cap : Nat) (w : World) :
    Calls Try.prog 110 #[.slice ad n cap] w fun e w' => e = .returned (.iface 84 (.slice ad n cap)) ∧ w' = w := by
  go_enter Try.func110, Try.ntmps110
  go_wp2
  go_ret
  exact ⟨rfl, rfl⟩
theorem clean_none (w : World) :
    Calls Try.prog 113 #[.agg #[]] w fun e w' => e = .returned (.iface 86 (.agg #[])) ∧ Below w.heap.size w w' := by
  have HA := hid (Below.alloc1 w (.cells #[] 86))
  go_enter Try.func113, Try.ntmps113
  go_wp2
  go_ret
  exact ⟨rfl, HA.out⟩
theorem clean_float (f : Nat) (hf : f < 18446744073709551616) (w : World) :
    Calls Try.prog 107 #[.float .f64 f] w fun e w' => e = .returned (.iface 83 (.float .f64 (cleanF f))) ∧ w' = w := by
  by_cases h0 : f = 0
  · subst h0
    have o : FloatKind.f64.format.order 0 0 = some .eq := by decide
    rw [show cleanF 0 = 0 from rfl]
    go_enter Try.func107, Try.ntmps107
    go_wp2
    go_ret
    exact ⟨rfl, rfl⟩
  by_cases h1 : f = 9223372036854775808
  · subst h1
    have o : FloatKind.f64.format.order 9223372036854775808 0 = some .eq := by decide
    rw [show cleanF 9223372036854775808 = 0 by rw [cleanF, if_pos rfl]]
    go_enter Try.func107, Try.ntmps107
    go_wp2
    go_ret
    exact ⟨rfl, rfl⟩
  have o : FloatKind.f64.format.order f 0 = some .lt ∨ FloatKind.f64.format.order f 0 = some .gt ∨ FloatKind.f64.format.order f 0 = none := by
    by_cases hN : isN f = true
    · exact .inr (.inr (order_l f 0 hf hN))
    · have hN' : isN f = false := by simpa using hN
      have hm := (isN_not f).1 hN'
      by_cases hp : f < 9223372036854775808
      · exact .inr (.inl (order_gt f 0 hf (by omega) hN' isN_zero (by rw [kx_zero, kx, if_pos hp]; omega)))
      · exact .inl (order_lt f 0 hf (by omega) hN' isN_zero (by rw [kx_zero, kx, if_neg hp]; omega))
  rw [show cleanF f = f by rw [cleanF, if_neg h1]]
  clear h0 h1
  rcases o with o | o | o
  all_goals
    go_enter Try.func107, Try.ntmps107
    go_wp2
    go_ret
    exact ⟨rfl, rfl⟩

theorem key_text (ad : Option Addr) (n cap : Nat) (w : World) :
    Calls Try.prog 111 #[.slice ad n cap] w fun e w' => e = .returned (.slice ad n cap) ∧ w' = w := by
  go_enter Try.func111, Try.ntmps111
  go_wp2
  go_ret
  exact ⟨rfl, rfl⟩
theorem val_text (ad : Option Addr) (n cap : Nat) (w : World) :
    Calls Try.prog 112 #[.slice ad n cap] w fun e w' => e = .returned (.slice ad n cap) ∧ w' = w := by
  go_enter Try.func112, Try.ntmps112
  go_wp2_with fail
  refine (key_text ad n cap _).mono ?_
  rintro e w1 ⟨rfl, rfl⟩
  go_wp2_with fail
  go_ret
  exact ⟨rfl, rfl⟩

theorem lift_wrap (N : Int) (h0 : -9223372036854775808 ≤ N) (h1 : N ≤ 9223372036854775807) : IntKind.u64.wrap (IntKind.u64.wrap N + 9223372036854775808) = (((N + 9223372036854775808).toNat : Nat) : Int) := by
  simp [IntKind.wrap, IntKind.bits, IntKind.signed]
  omega

set_option maxRecDepth 100000 in
theorem key_int (N : Int) (h0 : -9223372036854775808 ≤ N) (h1 : N ≤ 9223372036854775807) (w : World) :
    Calls Try.prog 104 #[.int .i64 N] w fun e w' => ∃ v, e = .returned v ∧ w'.ownsRow w.heap.size 5 1 v 8 (bys (hi8 (N + 9223372036854775808).toNat 8)) ∧ Below w.heap.size w w' := by
  have hw := lift_wrap N h0 h1
  have hX : (N + 9223372036854775808).toNat < 18446744073709551616 := by omega
  generalize (N + 9223372036854775808).toNat = x at *
  clear h0 h1
  go_enter Try.func104, Try.ntmps104
  go_wp2_with fail
  refine (impl_putHigh x hX _).mono ?_
  rintro e w1 ⟨v, rfl, o, b⟩
  have O := hid o
  have B := hid b
  clear o b
  go_wp2_with fail
  go_ret
  exact ⟨_, rfl, O.out, B.out⟩
set_option maxRecDepth 100000 in
theorem val_int (N : Int) (h0 : -9223372036854775808 ≤ N) (h1 : N ≤ 9223372036854775807) (w : World) :
    Calls Try.prog 105 #[.int .i64 N] w fun e w' => ∃ v, e = .returned v ∧ w'.ownsRow w.heap.size 5 1 v 8 (bys (hi8 (N + 9223372036854775808).toNat 8)) ∧ Below w.heap.size w w' := by
  go_enter Try.func105, Try.ntmps105
  go_wp2_with fail
  refine (key_int N h0 h1 _).mono ?_
  rintro e w1 ⟨v, rfl, o, b⟩
  have O := hid o
  have B := hid b
  clear o b
  go_wp2_with fail
  go_ret
  exact ⟨_, rfl, O.out, B.out⟩
set_option maxRecDepth 100000 in
theorem key_float (f : Nat) (hf : f < 18446744073709551616) (w : World) :
    Calls Try.prog 108 #[.float .f64 f] w fun e w' => ∃ v, e = .returned v ∧ w'.ownsRow w.heap.size 5 1 v 8 (bys (hi8 (frank f) 8)) ∧ Below w.heap.size w w' := by
  go_enter Try.func108, Try.ntmps108
  go_wp2_with fail
  refine (impl_FloatRank f hf _).mono ?_
  rintro e w0 ⟨rfl, rfl⟩
  go_wp2_with fail
  refine (impl_putHigh (frank f) (frank_lt f hf) _).mono ?_
  rintro e w1 ⟨v, rfl, o, b⟩
  have O := hid o
  have B := hid b
  clear o b
  go_wp2_with fail
  go_ret
  exact ⟨_, rfl, O.out, B.out⟩
set_option maxRecDepth 100000 in
theorem val_float (f : Nat) (hf : f < 18446744073709551616) (w : World) :
    Calls Try.prog 109 #[.float .f64 f] w fun e w' => ∃ v, e = .returned v ∧ w'.ownsRow w.heap.size 5 1 v 8 (bys (hi8 (fbits f) 8)) ∧ Below w.heap.size w w' := by
  go_enter Try.func109, Try.ntmps109
  go_wp2_with fail
  refine (impl_FloatBits f hf _).mono ?_
  rintro e w0 ⟨rfl, rfl⟩
  go_wp2_with fail
  refine (impl_putHigh (fbits f) (fbits_lt f hf) _).mono ?_
  rintro e w1 ⟨v, rfl, o, b⟩
  have O := hid o
  have B := hid b
  clear o b
  go_wp2_with fail
  go_ret
  exact ⟨_, rfl, O.out, B.out⟩
end Go.Proofs.Ytggnghnnlemccaa
