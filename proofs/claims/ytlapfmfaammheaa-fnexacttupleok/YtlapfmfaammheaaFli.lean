/- The contracts of the program's FloatBits, FloatOf, FloatRank, FloatUnrank and FloatCompare. For every argument. -/
import Derived.Test.YtlapfmfaammheaaMga
import Derived.Test.YtlapfmfaammheaaChecked
import Derived.Test.YtlapfmfaammheaaFlx
import Derived.WalkLawsBesides
import Derived.Laws.BitsAllLaws
import Derived.Laws.Externs
import Derived.KernelRfl
namespace Go.Proofs.Ytlapfmfaammheaa
open Go.RowKit

theorem isNaN_walk (x : Nat) (hx : x < 18446744073709551616) (w : World) :
    Calls Try.prog 78 #[.float .f64 x] w fun e w' => e = .returned (.bool (isN x)) ∧ w' = w := by
  by_cases hn : isN x = true
  · have o := order_l x x hx hn
    go_enter Try.func78, Try.ntmps78
    go_wp2
    go_ret
    exact ⟨by rw [hn]; rfl, rfl⟩
  · have hn' : isN x = false := by simpa using hn
    have o := order_eq x x hx hx hn' hn' rfl
    go_enter Try.func78, Try.ntmps78
    go_wp2
    go_ret
    exact ⟨by rw [hn']; rfl, rfl⟩

theorem frombits_run (n : Int) (w : World) : (callFunc 100 #[.int .u64 n]).run Try.prog w = .ok (.value (.float .f64 n.toNat)) w := by
  rw [run_callFunc_extern (P := Try.prog) Try.func100 (by kernel_rfl) (by kernel_rfl) (by kernel_rfl) (e := Extern.MathFloatBits.float64frombits) (by kernel_rfl)]
  rfl
theorem bits_run (x : Nat) (w : World) : (callFunc 79 #[.float .f64 x]).run Try.prog w = .ok (.value (.int .u64 x)) w := by
  rw [run_callFunc_extern (P := Try.prog) Try.func79 (by kernel_rfl) (by kernel_rfl) (by kernel_rfl) (e := Extern.MathFloatBits.float64bits) (by kernel_rfl)]
  rfl

theorem impl_FloatBits (x : Nat) (hx : x < 18446744073709551616) (w : World) :
    Calls Try.prog 46 #[.float .f64 x] w fun e w' => e = .returned (.int .u64 (fbits x)) ∧ w' = w := by
  have hb := bits_run x
  by_cases hn : isN x = true
  · have ef : fbits x = 9221120237041090560 := by rw [fbits, if_pos hn]
    go_enter Try.func46, Try.ntmps46
    go_wp2_with fail
    refine (isNaN_walk x hx w).mono ?_
    rintro e w1 ⟨rfl, rfl⟩
    go_wp2_with fail
    go_ret
    exact ⟨by rw [ef]; rfl, rfl⟩
  · have hn' : isN x = false := by simpa using hn
    have ef : fbits x = x := by rw [fbits, if_neg hn]
    go_enter Try.func46, Try.ntmps46
    go_wp2_with fail
    refine (isNaN_walk x hx w).mono ?_
    rintro e w1 ⟨rfl, rfl⟩
    go_wp2_with fail
    go_ret
    exact ⟨by rw [ef]; rfl, rfl⟩

theorem impl_FloatOf (x : Nat) (w : World) :
    Calls Try.prog 83 #[.int .u64 x] w fun e w' => e = .returned (.float .f64 x) ∧ w' = w := by
  have hb := frombits_run (x : Int)
  go_enter Try.func83, Try.ntmps83
  go_wp2_with fail
  go_ret
  exact ⟨rfl, rfl⟩

theorem not64 (x : Nat) (h : x < 18446744073709551616) : bits .xor .u64 IntKind.u64.max (x : Int) = ((18446744073709551615 - x : Nat) : Int) := by
  have e : IntKind.u64.max = ((18446744073709551615 : Nat) : Int) := by decide
  rw [e, u64_xor_nat _ _ (by omega) h]
  congr 1
  have h1 : (BitVec.allOnes 64 ^^^ BitVec.ofNat 64 x).toNat = 18446744073709551615 ^^^ x := by
    rw [BitVec.toNat_xor, BitVec.toNat_allOnes, BitVec.toNat_ofNat, Nat.mod_eq_of_lt h]
  rw [← h1, BitVec.allOnes_xor, BitVec.toNat_not, BitVec.toNat_ofNat, Nat.mod_eq_of_lt h]

theorem kx_zero : kx 0 = 0 := rfl
theorem isN_zero : isN 0 = false := by decide

theorem impl_FloatRank (x : Nat) (hx : x < 18446744073709551616) (w : World) :
    Calls Try.prog 84 #[.float .f64 x] w fun e w' => e = .returned (.int .u64 (frank x)) ∧ w' = w := by
  by_cases hn : isN x = true
  · have ef : frank x = 18446744073709551615 := by rw [frank, if_pos hn]
    go_enter Try.func84, Try.ntmps84
    go_wp2_with fail
    refine (isNaN_walk x hx w).mono ?_
    rintro e w1 ⟨rfl, rfl⟩
    go_wp2_with fail
    go_ret
    exact ⟨by rw [ef]; rfl, rfl⟩
  · have hn' : isN x = false := by simpa using hn
    have hm := (isN_not x).1 hn'
    have eb : fbits x = x := by rw [fbits, if_neg hn]
    by_cases h0 : x % 9223372036854775808 = 0
    · have ef : frank x = 9223372036854775808 := by rw [frank, if_neg hn, if_pos h0]
      have o := order_eq x 0 hx (by omega) hn' isN_zero (by rw [kx_zero, kx]; split <;> omega)
      go_enter Try.func84, Try.ntmps84
      go_wp2_with fail
      refine (isNaN_walk x hx w).mono ?_
      rintro e w1 ⟨rfl, rfl⟩
      go_wp2_with fail
      go_ret
      exact ⟨by rw [ef]; rfl, rfl⟩
    · by_cases hs : x < 9223372036854775808
      · have ef := hid (show frank x = x + 9223372036854775808 by rw [frank, if_neg hn, if_neg h0, if_pos hs])
        have o := order_gt x 0 hx (by omega) hn' isN_zero (by rw [kx_zero, kx]; split <;> omega)
        go_enter Try.func84, Try.ntmps84
        go_wp2_with fail
        refine (isNaN_walk x hx w).mono ?_
        rintro e w1 ⟨rfl, rfl⟩
        go_wp2_with fail
        refine (impl_FloatBits x hx _).mono ?_
        rintro e w1 ⟨rfl, rfl⟩
        rw [eb]
        go_wp2_with fail
        go_ret
        exact ⟨by rw [ef.out]; rfl, rfl⟩
      · have ef := hid (show frank x = 18446744073709551615 - x by rw [frank, if_neg hn, if_neg h0, if_neg hs])
        have o := order_lt x 0 hx (by omega) hn' isN_zero (by rw [kx_zero, kx]; split <;> omega)
        have hnot := not64 x hx
        go_enter Try.func84, Try.ntmps84
        go_wp2_with fail
        refine (isNaN_walk x hx w).mono ?_
        rintro e w1 ⟨rfl, rfl⟩
        go_wp2_with fail
        refine (impl_FloatBits x hx _).mono ?_
        rintro e w1 ⟨rfl, rfl⟩
        rw [eb]
        go_wp2_with fail
        go_ret
        exact ⟨by rw [ef.out]; rfl, rfl⟩

/-- The bits that FloatUnrank turns to. -/
def back (k : Nat) : Nat := if 9223372036854775808 ≤ k then k - 9223372036854775808 else 18446744073709551615 - k
theorem back_lt (k : Nat) (h : k < 18446744073709551616) : back k < 18446744073709551616 := by unfold back; split <;> omega

theorem impl_FloatUnrank (k : Nat) (hk : k < 18446744073709551616) (w : World) :
    Calls Try.prog 50 #[.int .u64 k] w fun e w' => e = .returned (if frank (back k) = k then .tuple #[.float .f64 (back k), .bool true] else .tuple #[.float .f64 0, .bool false]) ∧ w' = w := by
  have hnot := not64 k hk
  have hbl := back_lt k hk
  have hfl := frank_lt (back k) hbl
  by_cases hge : 9223372036854775808 ≤ k
  · have eb : (k : Int) - 9223372036854775808 = (back k : Int) := by rw [back, if_pos hge]; omega
    have hge' : (9223372036854775808 : Int) ≤ k := by omega
    have hz : (k : Int) < 18446744073709551616 := by omega
    clear hnot hge
    generalize back k = b at *
    by_cases hf : frank b = k
    · have hne : ((frank b : Int) != (k : Int)) = false := by rw [hf]; simp
      rw [if_pos hf]
      clear hf hk
      generalize (k : Int) = z at *
      go_enter Try.func50, Try.ntmps50
      go_wp2_with fail
      refine (impl_FloatOf b _).mono ?_
      rintro e w1 ⟨rfl, rfl⟩
      go_wp2_with fail
      refine (impl_FloatRank b hbl _).mono ?_
      rintro e w1 ⟨rfl, rfl⟩
      go_wp2_with fail
      go_ret2
      exact ⟨rfl, rfl⟩
    · have hne : ((frank b : Int) != (k : Int)) = true := by simp; omega
      rw [if_neg hf]
      clear hf hk
      generalize (k : Int) = z at *
      go_enter Try.func50, Try.ntmps50
      go_wp2_with fail
      refine (impl_FloatOf b _).mono ?_
      rintro e w1 ⟨rfl, rfl⟩
      go_wp2_with fail
      refine (impl_FloatRank b hbl _).mono ?_
      rintro e w1 ⟨rfl, rfl⟩
      go_wp2_with fail
      go_ret2
      exact ⟨rfl, rfl⟩
  · have eb : 18446744073709551615 - k = back k := by rw [back, if_neg hge]
    rw [eb] at hnot
    have hge' : (k : Int) < 9223372036854775808 := by omega
    have hz0 : (0 : Int) ≤ k := by omega
    have hz : (k : Int) < 18446744073709551616 := by omega
    clear eb hge
    generalize back k = b at *
    by_cases hf : frank b = k
    · have hne : ((frank b : Int) != (k : Int)) = false := by rw [hf]; simp
      rw [if_pos hf]
      clear hf hk
      generalize (k : Int) = z at *
      go_enter Try.func50, Try.ntmps50
      go_wp2_with fail
      refine (impl_FloatOf b _).mono ?_
      rintro e w1 ⟨rfl, rfl⟩
      go_wp2_with fail
      refine (impl_FloatRank b hbl _).mono ?_
      rintro e w1 ⟨rfl, rfl⟩
      go_wp2_with fail
      go_ret2
      exact ⟨rfl, rfl⟩
    · have hne : ((frank b : Int) != (k : Int)) = true := by simp; omega
      rw [if_neg hf]
      clear hf hk
      generalize (k : Int) = z at *
      go_enter Try.func50, Try.ntmps50
      go_wp2_with fail
      refine (impl_FloatOf b _).mono ?_
      rintro e w1 ⟨rfl, rfl⟩
      go_wp2_with fail
      refine (impl_FloatRank b hbl _).mono ?_
      rintro e w1 ⟨rfl, rfl⟩
      go_wp2_with fail
      go_ret2
      exact ⟨rfl, rfl⟩

def cmp3 (x y : Nat) : Int := if x < y then -1 else if y < x then 1 else 0

theorem isNaN64 (x : Nat) (w : World) : Calls Try.prog 101 #[.int .u64 x] w fun e w' => e = .returned (.bool false) ∧ w' = w := by
  go_enter Try.func101, Try.ntmps101
  go_wp2
  go_ret
  exact ⟨rfl, rfl⟩

theorem cmp_walk (x y : Nat) (w : World) : Calls Try.prog 86 #[.int .u64 x, .int .u64 y] w fun e w' => e = .returned (.int .i64 (cmp3 x y)) ∧ w' = w := by
  rcases Nat.lt_trichotomy x y with h | h | h
  · have ec : cmp3 x y = -1 := by rw [cmp3, if_pos h]
    have h1 : (x : Int) < y := by omega
    go_enter Try.func86, Try.ntmps86
    go_wp2_with fail
    refine (isNaN64 x _).mono ?_
    rintro e w1 ⟨rfl, rfl⟩
    go_wp2_with fail
    refine (isNaN64 y _).mono ?_
    rintro e w1 ⟨rfl, rfl⟩
    go_wp2_with fail
    go_ret
    exact ⟨by rw [ec]; rfl, rfl⟩
  · have ec : cmp3 x y = 0 := by rw [cmp3, if_neg (by omega), if_neg (by omega)]
    subst h
    go_enter Try.func86, Try.ntmps86
    go_wp2_with fail
    refine (isNaN64 x _).mono ?_
    rintro e w1 ⟨rfl, rfl⟩
    go_wp2_with fail
    refine (isNaN64 x _).mono ?_
    rintro e w1 ⟨rfl, rfl⟩
    go_wp2_with fail
    go_ret
    exact ⟨by rw [ec]; rfl, rfl⟩
  · have ec : cmp3 x y = 1 := by rw [cmp3, if_neg (by omega), if_pos h]
    have h1 : (y : Int) < x := by omega
    go_enter Try.func86, Try.ntmps86
    go_wp2_with fail
    refine (isNaN64 x _).mono ?_
    rintro e w1 ⟨rfl, rfl⟩
    go_wp2_with fail
    refine (isNaN64 y _).mono ?_
    rintro e w1 ⟨rfl, rfl⟩
    go_wp2_with fail
    go_ret
    exact ⟨by rw [ec]; rfl, rfl⟩

theorem impl_FloatCompare (x y : Nat) (hx : x < 18446744073709551616) (hy : y < 18446744073709551616) (w : World) :
    Calls Try.prog 55 #[.float .f64 x, .float .f64 y] w fun e w' => e = .returned (.int .i64 (cmp3 (frank x) (frank y))) ∧ w' = w := by
  go_enter Try.func55, Try.ntmps55
  go_wp2_with fail
  refine (impl_FloatRank x hx _).mono ?_
  rintro e w1 ⟨rfl, rfl⟩
  go_wp2_with fail
  refine (impl_FloatRank y hy _).mono ?_
  rintro e w1 ⟨rfl, rfl⟩
  go_wp2_with fail
  refine (cmp_walk _ _ _).mono ?_
  rintro e w1 ⟨rfl, rfl⟩
  go_wp2_with fail
  go_ret
  exact ⟨rfl, rfl⟩
end Go.Proofs.Ytlapfmfaammheaa
