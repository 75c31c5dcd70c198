/- What an item holds, behind an interface: contentOf, and the methods of the kinds. -/
import Derived.Test.YtnbpblephmjfnaaPh
import Derived.Test.YtnbpblephmjfnaaAr
import Derived.Test.YtnbpblephmjfnaaId
namespace Go.Proofs.Ytnbpblephmjfnaa
open Go.RowKit
set_option maxRecDepth 100000 in
theorem contentOf_int (N : Int) (f : Nat) (ad : Option Addr) (n cap : Nat) (w : World) :
 Calls Try.prog 33 #[.agg #[.int .i64 1, .int .i64 N, .float .f64 f, .slice ad n cap]] w fun e w' => e = .returned (.iface 60 (.int .i64 N)) ∧ Below w.heap.size w w' := by
 have HA := hid (Below.alloc1 w (.cells #[.int .i64 1, .int .i64 N, .float .f64 f, .slice ad n cap] 31))
 go_enter Try.func33, Try.ntmps33
 go_wp2
 go_ret
 exact ⟨rfl, HA.out⟩
set_option maxRecDepth 100000 in
theorem contentOf_float (N : Int) (f : Nat) (ad : Option Addr) (n cap : Nat) (w : World) :
 Calls Try.prog 33 #[.agg #[.int .i64 2, .int .i64 N, .float .f64 f, .slice ad n cap]] w fun e w' => e = .returned (.iface 61 (.float .f64 f)) ∧ Below w.heap.size w w' := by
 have HA := hid (Below.alloc1 w (.cells #[.int .i64 2, .int .i64 N, .float .f64 f, .slice ad n cap] 31))
 go_enter Try.func33, Try.ntmps33
 go_wp2
 go_ret
 exact ⟨rfl, HA.out⟩
set_option maxRecDepth 100000 in
theorem contentOf_text (N : Int) (f : Nat) (ad : Option Addr) (n cap : Nat) (w : World) :
 Calls Try.prog 33 #[.agg #[.int .i64 3, .int .i64 N, .float .f64 f, .slice ad n cap]] w fun e w' => e = .returned (.iface 62 (.slice ad n cap)) ∧ Below w.heap.size w w' := by
 have HA := hid (Below.alloc1 w (.cells #[.int .i64 3, .int .i64 N, .float .f64 f, .slice ad n cap] 31))
 go_enter Try.func33, Try.ntmps33
 go_wp2
 go_ret
 exact ⟨rfl, HA.out⟩
set_option maxRecDepth 100000 in
theorem contentOf_none (N : Int) (f : Nat) (ad : Option Addr) (n cap : Nat) (w : World) :
 Calls Try.prog 33 #[.agg #[.int .i64 0, .int .i64 N, .float .f64 f, .slice ad n cap]] w fun e w' => e = .returned (.iface 64 (.agg #[])) ∧ Below w.heap.size w w' := by
 have HA := hid (Below.alloc1 w (.cells #[.int .i64 0, .int .i64 N, .float .f64 f, .slice ad n cap] 31))
 go_enter Try.func33, Try.ntmps33
 go_wp2
 go_ret
 exact ⟨rfl, HA.out⟩
theorem clean_int (N : Int) (w : World) :
 Calls Try.prog 52 #[.int .i64 N] w fun e w' => e = .returned (.iface 60 (.int .i64 N)) ∧ w' = w := by
 go_enter Try.func52, Try.ntmps52
 go_wp2
 go_ret
 exact ⟨rfl, rfl⟩
theorem clean_text (ad : Option Addr) (n cap : Nat) (w : World) :
 Calls Try.prog 58 #[.slice ad n cap] w fun e w' => e = .returned (.iface 62 (.slice ad n cap)) ∧ w' = w := by
 go_enter Try.func58, Try.ntmps58
 go_wp2
 go_ret
 exact ⟨rfl, rfl⟩
theorem clean_none (w : World) :
 Calls Try.prog 61 #[.agg #[]] w fun e w' => e = .returned (.iface 64 (.agg #[])) ∧ Below w.heap.size w w' := by
 have HA := hid (Below.alloc1 w (.cells #[] 64))
 go_enter Try.func61, Try.ntmps61
 go_wp2
 go_ret
 exact ⟨rfl, HA.out⟩
theorem clean_float (f : Nat) (hf : f < 18446744073709551616) (w : World) :
 Calls Try.prog 55 #[.float .f64 f] w fun e w' => e = .returned (.iface 61 (.float .f64 (cleanF f))) ∧ w' = w := by
 by_cases h0 : f = 0
 · subst h0
   have o : FloatKind.f64.format.order 0 0 = some .eq := by decide
   rw [show cleanF 0 = 0 from rfl]
   go_enter Try.func55, Try.ntmps55
   go_wp2
   go_ret
   exact ⟨rfl, rfl⟩
 by_cases h1 : f = 9223372036854775808
 · subst h1
   have o : FloatKind.f64.format.order 9223372036854775808 0 = some .eq := by decide
   rw [show cleanF 9223372036854775808 = 0 by rw [cleanF, if_pos rfl]]
   go_enter Try.func55, Try.ntmps55
   go_wp2
   go_ret
   exact ⟨rfl, rfl⟩
 have o : FloatKind.f64.format.order f 0 = some .lt ∨ FloatKind.f64.format.order f 0 = some .gt ∨ FloatKind.f64.format.order f 0 = none := by
  by_cases hN : isN f = true
  · exact .inr (.inr (order_l f 0 hf hN))
  · have hN' : isN f = false := by simpa using hN
    have hm := (isN_not f).1 hN'
    by_cases hp : f < 9223372036854775808
    · exact .inr (.inl (order_gt f 0 hf (by omega) hN' isN_zero (by rw [kx_zero, kx, if_pos hp]; omega)))
    · exact .inl (order_lt f 0 hf (by omega) hN' isN_zero (by rw [kx_zero, kx, if_neg hp]; omega))
 rw [show cleanF f = f by rw [cleanF, if_neg h1]]
 clear h0 h1
 rcases o with o | o | o
 all_goals
  go_enter Try.func55, Try.ntmps55
  go_wp2
  go_ret
  exact ⟨rfl, rfl⟩
end Go.Proofs.Ytnbpblephmjfnaa
