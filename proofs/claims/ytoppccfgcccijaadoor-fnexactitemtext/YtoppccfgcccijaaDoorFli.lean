/- The contracts of the program's FloatBits, FloatOf, FloatRank, FloatUnrank and FloatCompare. For every argument. -/
import Derived.Test.YtoppccfgcccijaaDoorMga
import Derived.Test.YtoppccfgcccijaaDoorChecked
import Derived.WalkLawsBesides
import Derived.Laws.BitsAllLaws
import Derived.Laws.Externs
import Derived.KernelRfl
namespace Go.Proofs.YtoppccfgcccijaaDoor
open Go.RowKit

theorem isNaN_walk (x : Nat) (hx : x < 18446744073709551616) (w : World) :
    Calls Tryd.prog 66 #[.float .f64 x] w fun e w' => e = .returned (.bool (isN x)) ∧ w' = w := by
  by_cases hn : isN x = true
  · have o := order_l x x hx hn
    go_enter Tryd.func66, Tryd.ntmps66
    go_wp2
    go_ret
    exact ⟨by rw [hn]; rfl, rfl⟩
  · have hn' : isN x = false := by simpa using hn
    have o := order_eq x x hx hx hn' hn' rfl
    go_enter Tryd.func66, Tryd.ntmps66
    go_wp2
    go_ret
    exact ⟨by rw [hn']; rfl, rfl⟩

theorem frombits_run (n : Int) (w : World) : (callFunc 81 #[.int .u64 n]).run Tryd.prog w = .ok (.value (.float .f64 n.toNat)) w := by
  rw [run_callFunc_extern (P := Tryd.prog) Tryd.func81 (by kernel_rfl) (by kernel_rfl) (by kernel_rfl) (e := Extern.MathFloatBits.float64frombits) (by kernel_rfl)]
  rfl
theorem bits_run (x : Nat) (w : World) : (callFunc 67 #[.float .f64 x]).run Tryd.prog w = .ok (.value (.int .u64 x)) w := by
  rw [run_callFunc_extern (P := Tryd.prog) Tryd.func67 (by kernel_rfl) (by kernel_rfl) (by kernel_rfl) (e := Extern.MathFloatBits.float64bits) (by kernel_rfl)]
  rfl

theorem impl_FloatBits (x : Nat) (hx : x < 18446744073709551616) (w : World) :
    Calls Tryd.prog 52 #[.float .f64 x] w fun e w' => e = .returned (.int .u64 (fbits x)) ∧ w' = w := by
  have hb := bits_run x
  by_cases hn : isN x = true
  · have ef : fbits x = 9221120237041090560 := by rw [fbits, if_pos hn]
    go_enter Tryd.func52, Tryd.ntmps52
    go_wp2_with fail
    refine (isNaN_walk x hx w).mono ?_
    rintro e w1 ⟨rfl, rfl⟩
    go_wp2_with fail
    go_ret
    exact ⟨by rw [ef]; rfl, rfl⟩
  · have hn' : isN x = false := by simpa using hn
    have ef : fbits x = x := by rw [fbits, if_neg hn]
    go_enter Tryd.func52, Tryd.ntmps52
    go_wp2_with fail
    refine (isNaN_walk x hx w).mono ?_
    rintro e w1 ⟨rfl, rfl⟩
    go_wp2_with fail
    go_ret
    exact ⟨by rw [ef]; rfl, rfl⟩

theorem impl_FloatOf (x : Nat) (w : World) :
    Calls Tryd.prog 71 #[.int .u64 x] w fun e w' => e = .returned (.float .f64 x) ∧ w' = w := by
  have hb := frombits_run (x : Int)
  go_enter Tryd.func71, Tryd.ntmps71
  go_wp2_with fail
  go_ret
  exact ⟨rfl, rfl⟩

theorem not64 (x : Nat) (h : x < 18446744073709551616) : bits .xor .u64 IntKind.u64.max (x : Int) = ((18446744073709551615 - x : Nat) : Int) := by
  have e : IntKind.u64.max = ((18446744073709551615 : Nat) : Int) := by decide
  rw [e, u64_xor_nat _ _ (by omega) h]
  congr 1
  have h1 : (BitVec.allOnes 64 ^^^ BitVec.ofNat 64 x).toNat = 18446744073709551615 ^^^ x := by
    rw [BitVec.toNat_xor, BitVec.toNat_allOnes, BitVec.toNat_ofNat, Nat.mod_eq_of_lt h]
  rw [← h1, BitVec.allOnes_xor, BitVec.toNat_not, BitVec.toNat_ofNat, Nat.mod_eq_of_lt h]

theorem kx_zero : kx 0 = 0 := rfl
theorem isN_zero : isN 0 = false := by decide

/-- The bits that FloatUnrank turns to. -/
def back (k : Nat) : Nat := if 9223372036854775808 ≤ k then k - 9223372036854775808 else 18446744073709551615 - k
theorem back_lt (k : Nat) (h : k < 18446744073709551616) : back k < 18446744073709551616 := by unfold back; split <;> omega

def cmp3 (x y : Nat) : Int := if x < y then -1 else if y < x then 1 else 0

end Go.Proofs.YtoppccfgcccijaaDoor
