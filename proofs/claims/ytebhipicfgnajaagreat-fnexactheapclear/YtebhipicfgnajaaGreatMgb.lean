/- Texts of this proof in one: Flv Fli Flw Flb Flq Flf Fsa Fll It1 It2 It3 It4 It5 It6 It7 It8 It9 Kdr Ph Ar Ic Id Ct Cli Gh Cr Cf Im1 Im2 Sb St Oc Ix. -/
import Derived.Test.YtebhipicfgnajaaGreatMga
import Derived.Test.YtebhipicfgnajaaGreatChecked
import Derived.WalkLawsBesides
import Derived.Laws.BitsAllLaws
import Derived.Laws.Externs
import Derived.KernelRfl
import Derived.Deep.Draws
import Derived.Laws.Tables
import Derived.Laws.AppendOwnNone
import Derived.Deep.RegionHeld3
import Derived.Laws.BytesArg
import Derived.Laws.Cover1
/- What halves, doubles, sums and cuts of floats give, in the steps that the specification takes. No statement of its own; no conditions. -/

namespace Go.Proofs.YtebhipicfgnajaaGreat
open Ieee

/-- The float c times 2^j least floats. -/
def F (c j : Nat) : Nat := rg (c * 2 ^ j)

theorem F_wval (c j : Nat) (hc : c < 2 ^ 53) (hj : j ≤ 2045) : wval (F c j) = c * 2 ^ j := (rep_of c j hc hj).2.1
theorem F_lt (c j : Nat) (hc : c < 2 ^ 53) (hj : j ≤ 2045) : F c j < 2047 * 2 ^ 52 := (rep_of c j hc hj).1
theorem F_of (r c j : Nat) (h : r < 2047 * 2 ^ 52) (e : wval r = c * 2 ^ j) : r = F c j := by rw [F, ← e, rg_wval r h]

theorem wval_norm (t f : Nat) (hf : f < 2 ^ 52) : wval ((t + 1) * 2 ^ 52 + f) = (2 ^ 52 + f) * 2 ^ t := by
  unfold wval
  have h1 : ¬ ((t + 1) * 2 ^ 52 + f < 2 ^ 52) := by omega
  have h2 : ((t + 1) * 2 ^ 52 + f) / 2 ^ 52 = t + 1 := by omega
  have h3 : ((t + 1) * 2 ^ 52 + f) % 2 ^ 52 = f := by omega
  rw [if_neg h1, h2, h3, Nat.add_sub_cancel]
theorem F_norm (t f : Nat) (hf : f < 2 ^ 52) (ht : t ≤ 2045) : F (2 ^ 52 + f) t = (t + 1) * 2 ^ 52 + f := (F_of _ _ _ (by omega) (wval_norm t f hf)).symm
theorem F_sub (f : Nat) (hf : f < 2 ^ 52) : F f 0 = f := (F_of f f 0 (by omega) (by rw [wval, if_pos hf, Nat.pow_zero, Nat.mul_one])).symm

theorem two_read : double.read 4611686018427387904 = .number false (2 ^ 52) (((1 : Nat) : Int) - 52) := by decide
theorem p52_read : double.read 4841369599423283200 = .number false (2 ^ 52) (((52 : Nat) : Int) - 52) := by decide
theorem two_F : 4611686018427387904 = F (2 ^ 52) 1023 := (F_norm 1023 0 (by omega) (by omega)).symm
theorem one_F : 4607182418800017408 = F (2 ^ 52) 1022 := (F_norm 1022 0 (by omega) (by omega)).symm
theorem p52_F : 4841369599423283200 = F (2 ^ 52) 1074 := (F_norm 1074 0 (by omega) (by omega)).symm

theorem half_F (c j : Nat) (hc : c < 2 ^ 53) (hj : j + 1 ≤ 2045) : double.div (F c (j + 1)) 4611686018427387904 = some (F c j) := by
  refine half_exact false 4611686018427387904 (F c (j + 1)) (F c j) 1 two_read (F_lt _ _ hc hj) (F_lt _ _ hc (by omega)) ?_
  rw [F_wval _ _ hc hj, F_wval _ _ hc (by omega), Nat.pow_succ, Nat.pow_one, Nat.mul_assoc]
theorem cut_F (c j : Nat) (hc : c < 2 ^ 53) (hj : j + 52 ≤ 2045) : double.div (F c (j + 52)) 4841369599423283200 = some (F c j) := by
  refine half_exact false 4841369599423283200 (F c (j + 52)) (F c j) 52 p52_read (F_lt _ _ hc hj) (F_lt _ _ hc (by omega)) ?_
  rw [F_wval _ _ hc hj, F_wval _ _ hc (by omega), Nat.pow_add, Nat.mul_assoc]
theorem pw (c j a b k d : Nat) (h : j + a + b = k + d) : c * 2 ^ j * (2 ^ a * 2 ^ b) = c * 2 ^ k * 2 ^ d := by
  rw [← Nat.pow_add, Nat.mul_assoc, Nat.mul_assoc, ← Nat.pow_add, ← Nat.pow_add, ← Nat.add_assoc, h]
theorem both (f a p : Nat) : f * p + a * p = (a + f) * p := by rw [Nat.add_mul, Nat.add_comm]
theorem decode_eq (b : Nat) : FloatKind.f64.decode b = double.read b := rfl
theorem double_F (c j : Nat) (hc : c < 2 ^ 53) (hj : j + 1 ≤ 2045) : double.mul (F c j) 4611686018427387904 = some (F c (j + 1)) := by
  have := mul_exact false false (F c j) (F (2 ^ 52) 1023) (F c (j + 1)) (F_lt _ _ hc (by omega)) (F_lt _ _ (by omega) (by omega)) (F_lt _ _ hc hj) (by
    rw [F_wval _ _ hc hj, F_wval _ _ hc (by omega), F_wval _ _ (by omega) (by omega)]
    exact pw c j 52 1023 (j + 1) 1074 (by omega))
  rw [← two_F] at this
  exact this
theorem lift_F (c j : Nat) (hc : c < 2 ^ 53) (hj : j + 52 ≤ 2045) : double.mul (F c j) 4841369599423283200 = some (F c (j + 52)) := by
  have := mul_exact false false (F c j) (F (2 ^ 52) 1074) (F c (j + 52)) (F_lt _ _ hc (by omega)) (F_lt _ _ (by omega) (by omega)) (F_lt _ _ hc hj) (by
    rw [F_wval _ _ hc hj, F_wval _ _ hc (by omega), F_wval _ _ (by omega) (by omega)]
    exact pw c j 52 1074 (j + 52) 1074 (by omega))
  rw [← p52_F] at this
  exact this
theorem less_F (f : Nat) (hf : f < 2 ^ 52) : double.sub (F (2 ^ 52 + f) 1022) 4607182418800017408 = some (F f 1022) := by
  rw [one_F]
  refine sub_exact _ _ _ (F_lt _ _ (by omega) (by omega)) (F_lt _ _ (by omega) (by omega)) (F_lt _ _ (by omega) (by omega)) ?_
  rw [F_wval _ _ (by omega) (by omega), F_wval _ _ (by omega) (by omega), F_wval _ _ (by omega) (by omega), Nat.add_mul]
theorem more_F (f : Nat) (hf : f < 2 ^ 52) : double.add (F f 1022) 4607182418800017408 = some (F (2 ^ 52 + f) 1022) := by
  rw [one_F]
  refine add_exact _ _ _ (F_lt _ _ (by omega) (by omega)) (F_lt _ _ (by omega) (by omega)) (F_lt _ _ (by omega) (by omega)) ?_
  rw [F_wval _ _ (by omega) (by omega), F_wval _ _ (by omega) (by omega), F_wval _ _ (by omega) (by omega)]
  generalize (2 : Nat) ^ 1022 = P
  exact both f _ P
theorem int_of (x n : Nat) (h : (double.read x).toInt .zero = some (n : Int)) (hn : n < 18446744073709551616) : floatToIntVal .f64 x .u64 = some (n : Int) := by
  rw [← decode_eq] at h
  unfold floatToIntVal
  rw [h]
  have e1 : IntKind.u64.min = 0 := by decide
  have e2 : IntKind.u64.max = 18446744073709551615 := by decide
  simp only [e1, e2]
  rw [if_pos (by omega)]
theorem int_F (f : Nat) (hf : f < 2 ^ 52) : floatToIntVal .f64 (F f 1074) .u64 = some (f : Int) :=
  int_of _ _ (toInt_exact (F f 1074) (F_lt _ _ (by omega) (by omega)) f (F_wval _ _ (by omega) (by omega))) (by omega)
theorem of_F (f : Nat) (hf : f < 2 ^ 53) : floatOfInt .f64 (f : Int) = F f 1074 := by
  unfold floatOfInt FloatKind.nearest FloatKind.encode
  have hn : decide ((f : Int) < 0) = false := decide_eq_false (by omega)
  rw [hn, Int.natAbs_natCast]
  exact write_by false f 0 (F f 1074) 1074 0 (F_lt _ _ hf (by omega)) (by omega) (by rw [F_wval _ _ hf (by omega), Nat.pow_zero, Nat.mul_one])
end Go.Proofs.YtebhipicfgnajaaGreat
/- The contracts of the program's FloatBits, FloatOf, FloatRank, FloatUnrank and FloatCompare. For every argument. -/







namespace Go.Proofs.YtebhipicfgnajaaGreat
open Go.RowKit

theorem isNaN_walk (x : Nat) (hx : x < 18446744073709551616) (w : World) :
    Calls Tryz.prog 161 #[.float .f64 x] w fun e w' => e = .returned (.bool (isN x)) ∧ w' = w := by
  by_cases hn : isN x = true
  · have o := order_l x x hx hn
    go_enter Tryz.func161, Tryz.ntmps161
    go_wp2
    go_ret
    exact ⟨by rw [hn]; rfl, rfl⟩
  · have hn' : isN x = false := by simpa using hn
    have o := order_eq x x hx hx hn' hn' rfl
    go_enter Tryz.func161, Tryz.ntmps161
    go_wp2
    go_ret
    exact ⟨by rw [hn']; rfl, rfl⟩

theorem frombits_run (n : Int) (w : World) : (callFunc 199 #[.int .u64 n]).run Tryz.prog w = .ok (.value (.float .f64 n.toNat)) w := by
  rw [run_callFunc_extern (P := Tryz.prog) Tryz.func199 (by kernel_rfl) (by kernel_rfl) (by kernel_rfl) (e := Extern.MathFloatBits.float64frombits) (by kernel_rfl)]
  rfl
theorem bits_run (x : Nat) (w : World) : (callFunc 162 #[.float .f64 x]).run Tryz.prog w = .ok (.value (.int .u64 x)) w := by
  rw [run_callFunc_extern (P := Tryz.prog) Tryz.func162 (by kernel_rfl) (by kernel_rfl) (by kernel_rfl) (e := Extern.MathFloatBits.float64bits) (by kernel_rfl)]
  rfl

theorem impl_FloatBits (x : Nat) (hx : x < 18446744073709551616) (w : World) :
    Calls Tryz.prog 124 #[.float .f64 x] w fun e w' => e = .returned (.int .u64 (fbits x)) ∧ w' = w := by
  have hb := bits_run x
  by_cases hn : isN x = true
  · have ef : fbits x = 9221120237041090560 := by rw [fbits, if_pos hn]
    go_enter Tryz.func124, Tryz.ntmps124
    go_wp2_with fail
    refine (isNaN_walk x hx w).mono ?_
    rintro e w1 ⟨rfl, rfl⟩
    go_wp2_with fail
    go_ret
    exact ⟨by rw [ef]; rfl, rfl⟩
  · have hn' : isN x = false := by simpa using hn
    have ef : fbits x = x := by rw [fbits, if_neg hn]
    go_enter Tryz.func124, Tryz.ntmps124
    go_wp2_with fail
    refine (isNaN_walk x hx w).mono ?_
    rintro e w1 ⟨rfl, rfl⟩
    go_wp2_with fail
    go_ret
    exact ⟨by rw [ef]; rfl, rfl⟩

theorem impl_FloatOf (x : Nat) (w : World) :
    Calls Tryz.prog 194 #[.int .u64 x] w fun e w' => e = .returned (.float .f64 x) ∧ w' = w := by
  have hb := frombits_run (x : Int)
  go_enter Tryz.func194, Tryz.ntmps194
  go_wp2_with fail
  go_ret
  exact ⟨rfl, rfl⟩

theorem not64 (x : Nat) (h : x < 18446744073709551616) : bits .xor .u64 IntKind.u64.max (x : Int) = ((18446744073709551615 - x : Nat) : Int) := by
  have e : IntKind.u64.max = ((18446744073709551615 : Nat) : Int) := by decide
  rw [e, u64_xor_nat _ _ (by omega) h]
  congr 1
  have h1 : (BitVec.allOnes 64 ^^^ BitVec.ofNat 64 x).toNat = 18446744073709551615 ^^^ x := by
    rw [BitVec.toNat_xor, BitVec.toNat_allOnes, BitVec.toNat_ofNat, Nat.mod_eq_of_lt h]
  rw [← h1, BitVec.allOnes_xor, BitVec.toNat_not, BitVec.toNat_ofNat, Nat.mod_eq_of_lt h]

theorem kx_zero : kx 0 = 0 := rfl
theorem isN_zero : isN 0 = false := by decide

theorem impl_FloatRank (x : Nat) (hx : x < 18446744073709551616) (w : World) :
    Calls Tryz.prog 164 #[.float .f64 x] w fun e w' => e = .returned (.int .u64 (frank x)) ∧ w' = w := by
  by_cases hn : isN x = true
  · have ef : frank x = 18446744073709551615 := by rw [frank, if_pos hn]
    go_enter Tryz.func164, Tryz.ntmps164
    go_wp2_with fail
    refine (isNaN_walk x hx w).mono ?_
    rintro e w1 ⟨rfl, rfl⟩
    go_wp2_with fail
    go_ret
    exact ⟨by rw [ef]; rfl, rfl⟩
  · have hn' : isN x = false := by simpa using hn
    have hm := (isN_not x).1 hn'
    have eb : fbits x = x := by rw [fbits, if_neg hn]
    by_cases h0 : x % 9223372036854775808 = 0
    · have ef : frank x = 9223372036854775808 := by rw [frank, if_neg hn, if_pos h0]
      have o := order_eq x 0 hx (by omega) hn' isN_zero (by rw [kx_zero, kx]; split <;> omega)
      go_enter Tryz.func164, Tryz.ntmps164
      go_wp2_with fail
      refine (isNaN_walk x hx w).mono ?_
      rintro e w1 ⟨rfl, rfl⟩
      go_wp2_with fail
      go_ret
      exact ⟨by rw [ef]; rfl, rfl⟩
    · by_cases hs : x < 9223372036854775808
      · have ef := hid (show frank x = x + 9223372036854775808 by rw [frank, if_neg hn, if_neg h0, if_pos hs])
        have o := order_gt x 0 hx (by omega) hn' isN_zero (by rw [kx_zero, kx]; split <;> omega)
        go_enter Tryz.func164, Tryz.ntmps164
        go_wp2_with fail
        refine (isNaN_walk x hx w).mono ?_
        rintro e w1 ⟨rfl, rfl⟩
        go_wp2_with fail
        refine (impl_FloatBits x hx _).mono ?_
        rintro e w1 ⟨rfl, rfl⟩
        rw [eb]
        go_wp2_with fail
        go_ret
        exact ⟨by rw [ef.out]; rfl, rfl⟩
      · have ef := hid (show frank x = 18446744073709551615 - x by rw [frank, if_neg hn, if_neg h0, if_neg hs])
        have o := order_lt x 0 hx (by omega) hn' isN_zero (by rw [kx_zero, kx]; split <;> omega)
        have hnot := not64 x hx
        go_enter Tryz.func164, Tryz.ntmps164
        go_wp2_with fail
        refine (isNaN_walk x hx w).mono ?_
        rintro e w1 ⟨rfl, rfl⟩
        go_wp2_with fail
        refine (impl_FloatBits x hx _).mono ?_
        rintro e w1 ⟨rfl, rfl⟩
        rw [eb]
        go_wp2_with fail
        go_ret
        exact ⟨by rw [ef.out]; rfl, rfl⟩

/-- The bits that FloatUnrank turns to. -/
def back (k : Nat) : Nat := if 9223372036854775808 ≤ k then k - 9223372036854775808 else 18446744073709551615 - k
theorem back_lt (k : Nat) (h : k < 18446744073709551616) : back k < 18446744073709551616 := by unfold back; split <;> omega

theorem impl_FloatUnrank (k : Nat) (hk : k < 18446744073709551616) (w : World) :
    Calls Tryz.prog 187 #[.int .u64 k] w fun e w' => e = .returned (if frank (back k) = k then .tuple #[.float .f64 (back k), .bool true] else .tuple #[.float .f64 0, .bool false]) ∧ w' = w := by
  have hnot := not64 k hk
  have hbl := back_lt k hk
  have hfl := frank_lt (back k) hbl
  by_cases hge : 9223372036854775808 ≤ k
  · have eb : (k : Int) - 9223372036854775808 = (back k : Int) := by rw [back, if_pos hge]; omega
    have hge' : (9223372036854775808 : Int) ≤ k := by omega
    have hz : (k : Int) < 18446744073709551616 := by omega
    clear hnot hge
    generalize back k = b at *
    by_cases hf : frank b = k
    · have hne : ((frank b : Int) != (k : Int)) = false := by rw [hf]; simp
      rw [if_pos hf]
      clear hf hk
      generalize (k : Int) = z at *
      go_enter Tryz.func187, Tryz.ntmps187
      go_wp2_with fail
      refine (impl_FloatOf b _).mono ?_
      rintro e w1 ⟨rfl, rfl⟩
      go_wp2_with fail
      refine (impl_FloatRank b hbl _).mono ?_
      rintro e w1 ⟨rfl, rfl⟩
      go_wp2_with fail
      go_ret2
      exact ⟨rfl, rfl⟩
    · have hne : ((frank b : Int) != (k : Int)) = true := by simp; omega
      rw [if_neg hf]
      clear hf hk
      generalize (k : Int) = z at *
      go_enter Tryz.func187, Tryz.ntmps187
      go_wp2_with fail
      refine (impl_FloatOf b _).mono ?_
      rintro e w1 ⟨rfl, rfl⟩
      go_wp2_with fail
      refine (impl_FloatRank b hbl _).mono ?_
      rintro e w1 ⟨rfl, rfl⟩
      go_wp2_with fail
      go_ret2
      exact ⟨rfl, rfl⟩
  · have eb : 18446744073709551615 - k = back k := by rw [back, if_neg hge]
    rw [eb] at hnot
    have hge' : (k : Int) < 9223372036854775808 := by omega
    have hz0 : (0 : Int) ≤ k := by omega
    have hz : (k : Int) < 18446744073709551616 := by omega
    clear eb hge
    generalize back k = b at *
    by_cases hf : frank b = k
    · have hne : ((frank b : Int) != (k : Int)) = false := by rw [hf]; simp
      rw [if_pos hf]
      clear hf hk
      generalize (k : Int) = z at *
      go_enter Tryz.func187, Tryz.ntmps187
      go_wp2_with fail
      refine (impl_FloatOf b _).mono ?_
      rintro e w1 ⟨rfl, rfl⟩
      go_wp2_with fail
      refine (impl_FloatRank b hbl _).mono ?_
      rintro e w1 ⟨rfl, rfl⟩
      go_wp2_with fail
      go_ret2
      exact ⟨rfl, rfl⟩
    · have hne : ((frank b : Int) != (k : Int)) = true := by simp; omega
      rw [if_neg hf]
      clear hf hk
      generalize (k : Int) = z at *
      go_enter Tryz.func187, Tryz.ntmps187
      go_wp2_with fail
      refine (impl_FloatOf b _).mono ?_
      rintro e w1 ⟨rfl, rfl⟩
      go_wp2_with fail
      refine (impl_FloatRank b hbl _).mono ?_
      rintro e w1 ⟨rfl, rfl⟩
      go_wp2_with fail
      go_ret2
      exact ⟨rfl, rfl⟩

def cmp3 (x y : Nat) : Int := if x < y then -1 else if y < x then 1 else 0

theorem isNaN64 (x : Nat) (w : World) : Calls Tryz.prog 183 #[.int .u64 x] w fun e w' => e = .returned (.bool false) ∧ w' = w := by
  go_enter Tryz.func183, Tryz.ntmps183
  go_wp2
  go_ret
  exact ⟨rfl, rfl⟩

theorem cmp_walk (x y : Nat) (w : World) : Calls Tryz.prog 163 #[.int .u64 x, .int .u64 y] w fun e w' => e = .returned (.int .i64 (cmp3 x y)) ∧ w' = w := by
  rcases Nat.lt_trichotomy x y with h | h | h
  · have ec : cmp3 x y = -1 := by rw [cmp3, if_pos h]
    have h1 : (x : Int) < y := by omega
    go_enter Tryz.func163, Tryz.ntmps163
    go_wp2_with fail
    refine (isNaN64 x _).mono ?_
    rintro e w1 ⟨rfl, rfl⟩
    go_wp2_with fail
    refine (isNaN64 y _).mono ?_
    rintro e w1 ⟨rfl, rfl⟩
    go_wp2_with fail
    go_ret
    exact ⟨by rw [ec]; rfl, rfl⟩
  · have ec : cmp3 x y = 0 := by rw [cmp3, if_neg (by omega), if_neg (by omega)]
    subst h
    go_enter Tryz.func163, Tryz.ntmps163
    go_wp2_with fail
    refine (isNaN64 x _).mono ?_
    rintro e w1 ⟨rfl, rfl⟩
    go_wp2_with fail
    refine (isNaN64 x _).mono ?_
    rintro e w1 ⟨rfl, rfl⟩
    go_wp2_with fail
    go_ret
    exact ⟨by rw [ec]; rfl, rfl⟩
  · have ec : cmp3 x y = 1 := by rw [cmp3, if_neg (by omega), if_pos h]
    have h1 : (y : Int) < x := by omega
    go_enter Tryz.func163, Tryz.ntmps163
    go_wp2_with fail
    refine (isNaN64 x _).mono ?_
    rintro e w1 ⟨rfl, rfl⟩
    go_wp2_with fail
    refine (isNaN64 y _).mono ?_
    rintro e w1 ⟨rfl, rfl⟩
    go_wp2_with fail
    go_ret
    exact ⟨by rw [ec]; rfl, rfl⟩

theorem impl_FloatCompare (x y : Nat) (hx : x < 18446744073709551616) (hy : y < 18446744073709551616) (w : World) :
    Calls Tryz.prog 127 #[.float .f64 x, .float .f64 y] w fun e w' => e = .returned (.int .i64 (cmp3 (frank x) (frank y))) ∧ w' = w := by
  go_enter Tryz.func127, Tryz.ntmps127
  go_wp2_with fail
  refine (impl_FloatRank x hx _).mono ?_
  rintro e w1 ⟨rfl, rfl⟩
  go_wp2_with fail
  refine (impl_FloatRank y hy _).mono ?_
  rintro e w1 ⟨rfl, rfl⟩
  go_wp2_with fail
  refine (cmp_walk _ _ _).mono ?_
  rintro e w1 ⟨rfl, rfl⟩
  go_wp2_with fail
  go_ret
  exact ⟨rfl, rfl⟩
end Go.Proofs.YtebhipicfgnajaaGreat
/- The contract of the specification's FloatBits: it answers 'fbits', and leaves memory as it was. For every argument. -/


namespace Go.Proofs.YtebhipicfgnajaaGreat
open Go.RowKit Ieee

theorem kpos (a : Nat) (h : a ≤ 9218868437227405312) : a < 18446744073709551616 ∧ isN a = false ∧ kx a = a := by
  refine ⟨by omega, (isN_not a).2 (by omega), ?_⟩
  rw [kx, if_pos (by omega)]
theorem olt (a b : Nat) (ha : a ≤ 9218868437227405312) (hb : b ≤ 9218868437227405312) (h : a < b) : FloatKind.f64.format.order a b = some .lt :=
  order_lt a b (kpos a ha).1 (kpos b hb).1 (kpos a ha).2.1 (kpos b hb).2.1 (by rw [(kpos a ha).2.2, (kpos b hb).2.2]; omega)
theorem ogt (a b : Nat) (ha : a ≤ 9218868437227405312) (hb : b ≤ 9218868437227405312) (h : b < a) : FloatKind.f64.format.order a b = some .gt :=
  order_gt a b (kpos a ha).1 (kpos b hb).1 (kpos a ha).2.1 (kpos b hb).2.1 (by rw [(kpos a ha).2.2, (kpos b hb).2.2]; omega)
theorem oeq (a : Nat) (ha : a ≤ 9218868437227405312) : FloatKind.f64.format.order a a = some .eq :=
  order_eq a a (kpos a ha).1 (kpos a ha).1 (kpos a ha).2.1 (kpos a ha).2.1 rfl

theorem dval (r : Nat) (h : r < 9218868437227405312) (h1 : 4503599627370496 ≤ r) : ∃ t f, f < 2 ^ 52 ∧ t ≤ 2045 ∧ r = (t + 1) * 2 ^ 52 + f ∧ r = F (2 ^ 52 + f) t := by
  refine ⟨r / 4503599627370496 - 1, r % 4503599627370496, by omega, by omega, by omega, ?_⟩
  rw [F_norm _ _ (by omega) (by omega)]
  omega

theorem half_r (r : Nat) (h1 : 4611686018427387904 ≤ r) (h2 : r < 9218868437227405312) : floatBits .quo .f64 r 4611686018427387904 = some (r - 4503599627370496) := by
  obtain ⟨t, f, hf, ht, e1, e2⟩ := dval r h2 (by omega)
  obtain ⟨u, rfl⟩ : ∃ u, t = u + 1 := ⟨t - 1, by omega⟩
  have := half_F (2 ^ 52 + f) u (by omega) (by omega)
  rw [← e2, F_norm u f hf (by omega)] at this
  rw [show r - 4503599627370496 = (u + 1) * 2 ^ 52 + f by omega]
  exact this

theorem F_suc (c j : Nat) (hc : c < 2 ^ 53) (hj : j + 1 ≤ 2045) : wval (F c (j + 1)) = wval (F c j) * 2 := by
  rw [F_wval _ _ hc hj, F_wval _ _ hc (by omega), Nat.pow_succ, Nat.mul_assoc]
theorem two_F' : 4611686018427387904 = F (2 ^ 52) (1022 + 1) := (F_norm (1022 + 1) 0 (by omega) (by omega)).symm
theorem wval_le (a b : Nat) (h : wval a < wval b) : a < b := by
  rcases Nat.lt_or_ge a b with h' | h'
  · exact h'
  · rcases Nat.lt_or_eq_of_le h' with h'' | h''
    · have := wval_lt b a h''; omega
    · subst h''; omega

theorem dbl_r (r : Nat) (h : r < 4607182418800017408) : ∃ q, floatBits .mul .f64 r 4611686018427387904 = some q ∧ wval q = wval r * 2 ∧ q < 4611686018427387904 := by
  have main : ∃ c j, c < 2 ^ 53 ∧ j + 1 ≤ 2045 ∧ r = F c j := by
    by_cases h1 : 4503599627370496 ≤ r
    · obtain ⟨t, f, hf, ht, e1, e2⟩ := dval r (by omega) h1
      exact ⟨2 ^ 52 + f, t, by omega, by omega, e2⟩
    · exact ⟨r, 0, by omega, by omega, (F_sub r (by omega)).symm⟩
  obtain ⟨c, j, hc, hj, e⟩ := main
  have hm := double_F c j hc hj
  rw [← e] at hm
  have hv : wval (F c (j + 1)) = wval r * 2 := by
    rw [e, F_wval _ _ hc hj, F_wval _ _ hc (by omega), Nat.pow_succ, Nat.mul_assoc]
  refine ⟨_, hm, hv, ?_⟩
  apply wval_le
  rw [hv]
  have h1 : wval r < wval 4607182418800017408 := wval_lt _ _ h
  have h2 : wval 4611686018427387904 = wval 4607182418800017408 * 2 := by
    rw [two_F', one_F]
    exact F_suc _ _ (by omega) (by omega)
  omega

/-- The end of it, above 1. -/
theorem top_r (r k j q : Nat) (hq1 : 4607182418800017408 ≤ q) (hq2 : q < 4611686018427387904) (hj : j ≤ 1022)
    (h : (k = 0 ∧ wval q = wval r * 2 ^ j) ∨ (j = 0 ∧ r = q + k * 4503599627370496)) :
    ∃ f : Nat, f < 4503599627370496 ∧ r = (k + 1023 - j) * 4503599627370496 + f ∧ floatBits .sub .f64 q 4607182418800017408 = some (F f 1022) ∧ floatBits .mul .f64 (F f 1022) 4841369599423283200 = some (F f 1074) ∧ floatToIntVal .f64 (F f 1074) .u64 = some (f : Int) := by
  refine ⟨q - 4607182418800017408, by omega, ?_, ?_, lift_F _ 1022 (by omega) (by omega), int_F _ (by omega)⟩
  · rcases h with ⟨rfl, h⟩ | ⟨rfl, h⟩
    · obtain ⟨t, ht⟩ : ∃ t, 1023 - j = t + 1 := ⟨1022 - j, by omega⟩
      have e1 : wval q = (2 ^ 52 + (q - 4607182418800017408)) * 2 ^ 1022 := by
        have e0 := wval_norm 1022 (q - 4607182418800017408) (by omega)
        rwa [show (1022 + 1) * 2 ^ 52 + (q - 4607182418800017408) = q by omega] at e0
      have e2 := wval_norm t (q - 4607182418800017408) (by omega)
      have e3 : (2 : Nat) ^ 1022 = 2 ^ t * 2 ^ j := by rw [show (1022 : Nat) = t + j by omega, Nat.pow_add]
      rw [e1, e3, ← Nat.mul_assoc, ← e2] at h
      have := wval_inj _ _ (Nat.eq_of_mul_eq_mul_right (Nat.two_pow_pos j) h)
      rw [← this]
      omega
    · omega
  · have hs := less_F (q - 4607182418800017408) (by omega)
    rw [F_norm _ _ (by omega) (by omega)] at hs
    rw [show (1022 + 1) * 2 ^ 52 + (q - 4607182418800017408) = q by omega] at hs
    exact hs

/-- The end of it, below 1. -/
theorem low_r (r q : Nat) (hq : q < 4607182418800017408) (h : wval q = wval r * 2 ^ 1022) :
    r < 4503599627370496 ∧ floatBits .mul .f64 q 4841369599423283200 = some (F r 1074) ∧ floatToIntVal .f64 (F r 1074) .u64 = some (r : Int) := by
  have h1 : wval q < wval 4607182418800017408 := wval_lt _ _ hq
  have h2 : wval 4607182418800017408 = wval 4503599627370496 * 2 ^ 1022 := by
    rw [one_F, F_wval _ _ (by omega) (by omega), show wval 4503599627370496 = 2 ^ 52 by decide]
  have hlt : r < 4503599627370496 := by
    apply wval_le
    rw [h, h2] at h1
    exact Nat.lt_of_mul_lt_mul_right h1
  have hv : wval r = r := by rw [wval, if_pos hlt]
  rw [hv] at h
  have e : q = F r 1022 := F_of q r 1022 (by omega) h
  refine ⟨hlt, ?_, int_F r hlt⟩
  rw [e]
  exact lift_F r 1022 (by omega) (by omega)
end Go.Proofs.YtebhipicfgnajaaGreat
/- The contract of the specification's FloatBits: it answers 'fbits', and leaves memory as it was. For every argument. -/

namespace Go.Proofs.YtebhipicfgnajaaGreat
open Go.RowKit Ieee

/-- The bits in a float's cell. -/
def fl : Value → Nat
  | .float _ b => b
  | _ => 0

theorem or_pos (x : Nat) (h : x < 9223372036854775808) : bits .or .u64 0 (x : Int) = ((x : Nat) : Int) := by
  have := u64_or_nat 0 x (by omega) (by omega)
  rw [Nat.zero_or] at this
  exact this
theorem or_neg (x : Nat) (h : x < 9223372036854775808) : bits .or .u64 9223372036854775808 (x : Int) = ((9223372036854775808 + x : Nat) : Int) := by
  have := u64_or_nat 9223372036854775808 x (by omega) (by omega)
  rw [nat_join 63 _ _ (by decide) (by omega)] at this
  exact this
theorem or_low (s e f : Nat) (hs : s = 0 ∨ s = 9223372036854775808) (he : e < 2048) (hf : f < 4503599627370496) : bits .or .u64 ((s + e * 4503599627370496 : Nat) : Int) (f : Int) = ((s + (e * 4503599627370496 + f) : Nat) : Int) := by
  rw [u64_or_nat _ _ (by omega) (by omega), nat_join 52 _ _ (by omega) (by omega), Nat.add_assoc]

theorem top_pos (r k j f : Nat) (hj : j ≤ 1022) (hk : k ≤ 1023) (hf : f < 4503599627370496) (e : r = (k + 1023 - j) * 4503599627370496 + f) :
    bits .or .u64 (bits .or .u64 0 (((k : Int) - j + 1023) * 4503599627370496)) (f : Int) = (r : Int) := by
  rw [show ((k : Int) - j + 1023) * 4503599627370496 = (((k + 1023 - j) * 4503599627370496 : Nat) : Int) by omega, or_pos _ (by omega)]
  have := or_low 0 (k + 1023 - j) f (.inl rfl) (by omega) hf
  rw [Nat.zero_add, Nat.zero_add, ← e] at this
  exact this
theorem top_neg (r k j f : Nat) (hj : j ≤ 1022) (hk : k ≤ 1023) (hf : f < 4503599627370496) (e : r = (k + 1023 - j) * 4503599627370496 + f) :
    bits .or .u64 (bits .or .u64 9223372036854775808 (((k : Int) - j + 1023) * 4503599627370496)) (f : Int) = ((9223372036854775808 + r : Nat) : Int) := by
  rw [show ((k : Int) - j + 1023) * 4503599627370496 = (((k + 1023 - j) * 4503599627370496 : Nat) : Int) by omega, or_neg _ (by omega)]
  rw [or_low 9223372036854775808 (k + 1023 - j) f (.inr rfl) (by omega) hf, ← e]

theorem neg_bits (r : Nat) (h : r < 9223372036854775808) : Op.negFloat .f64 (9223372036854775808 + r) = r := by
  unfold Op.negFloat
  rw [show 2 ^ (FloatKind.f64.format.exponentBits + FloatKind.f64.format.fractionBits) = 2 ^ 63 from rfl]
  have e : 9223372036854775808 + r = 2 ^ 63 ||| r := (nat_join 63 _ _ (by decide) (by omega)).symm
  rw [e]
  apply Nat.eq_of_testBit_eq
  intro i
  rw [Nat.testBit_xor, Nat.testBit_or, Nat.testBit_two_pow]
  by_cases hi : 63 = i
  · subst hi
    rw [Nat.testBit_lt_two_pow h]
    rfl
  · simp [hi]

theorem neg_run (x y : Nat) (h : Op.negFloat .f64 x = y) (w : World) : (Op.unary .neg (.float .f64 x)).run Tryz.prog w = .ok (.float .f64 y) w := by
  subst h
  rfl

set_option maxRecDepth 100000 in
set_option maxHeartbeats 1600000 in
theorem spec_FloatBits_pos (r : Nat) (h0 : 0 < r) (h1 : r < 9218868437227405312) (w : World) :
    Calls Tryz.prog 73 #[.float .f64 (r)] w fun e w' => e = .returned (.int .u64 ((r : Nat) : Int)) ∧ w' = w := by
  have o1 := oeq r (by omega)
  have o3 := ogt r 0 (by omega) (by omega) h0
  have o4 : FloatKind.f64.format.order r 9218868437227405311 = some .lt ∨ FloatKind.f64.format.order r 9218868437227405311 = some .eq := by
    by_cases h : r = 9218868437227405311
    · exact .inr (by rw [h]; exact oeq _ (by omega))
    · exact .inl (olt _ _ (by omega) (by omega) (by omega))
  have H0 := hid h0
  have H1 := hid h1
  clear h0 h1
  rcases o4 with o4 | o4
  all_goals
    go_enter Tryz.func73, Tryz.ntmps73
    go_wp2
    clear o1 o3 o4
    go_loopw [4, 5] (fun a e wr => ∃ q k : Nat, a = .float .f64 q ∧ e = .int .i64 k ∧ Hid (r = q + k * 4503599627370496) ∧ Hid (k = 0 ∨ 4607182418800017408 ≤ q) ∧ Hid (k ≤ 1023) ∧ wr = w) (fun a _ _ => fl a)
    case atStart => exact ⟨r, 0, rfl, rfl, hid (by omega), hid (.inl rfl), hid (by omega), rfl⟩
    case round =>
      obtain ⟨q, k, rfl, rfl, P1, P2, P3, rfl⟩ := hrel
      have hq : q < 9218868437227405312 := by have := P1.out; have := H1.out; omega
      by_cases hge : 4611686018427387904 ≤ q
      · obtain ⟨p, hp, ep⟩ : ∃ p, floatBits .quo .f64 q 4611686018427387904 = some p ∧ Hid (q = p + 4503599627370496) := ⟨_, half_r q hge hq, hid (by omega)⟩
        have hd := fun t w => run_float_arith (P := Tryz.prog) w .quo t .f64 q 4611686018427387904 _ hp
        have oo : FloatKind.f64.format.order q 4611686018427387904 = some .gt ∨ FloatKind.f64.format.order q 4611686018427387904 = some .eq := by
          by_cases h : q = 4611686018427387904
          · exact .inr (by rw [h]; exact oeq _ (by omega))
          · exact .inl (ogt _ _ (by omega) (by omega) (by omega))
        have Q1 := hid hge
        have Q2 := hid hq
        have hk : (k : Int) ≤ 1023 := by have := P3.out; omega
        clear hge hq hp
        rcases oo with oo | oo
        all_goals
          go_wp2
          go_roundw
          case rel => exact ⟨p, k + 1, rfl, by go_num, hid (by have := P1.out; have := ep.out; omega), hid (.inr (by have := Q1.out; have := ep.out; omega)), hid (by have := P1.out; have := P3.out; have := Q1.out; have := H1.out; omega), by first | trivial | rfl⟩
          case measure => have := ep.out; simp only [fl]; omega
      · have oo := olt q 4611686018427387904 (by omega) (by omega) (by omega)
        have Q1 := hid hge
        have Q2 := hid hq
        have hk : (k : Int) ≤ 1023 := by have := P3.out; omega
        clear hge hq
        go_wp2
        clear oo
        go_loopw [4, 5] (fun a e wr' => ∃ p j : Nat, a = .float .f64 p ∧ e = .int .i64 ((k : Int) - j) ∧ Hid ((k = 0 ∧ wval p = wval q * 2 ^ j) ∨ (j = 0 ∧ p = q ∧ 4607182418800017408 ≤ q)) ∧ Hid (p < 4611686018427387904) ∧ Hid (j ≤ 1022) ∧ wr' = wr) (fun _ e _ => (intOf e + 1022).toNat)
        case atStart => exact ⟨q, 0, rfl, by go_num, hid (by
          rcases P2.out with h | h
          · exact .inl ⟨h, by rw [Nat.pow_zero, Nat.mul_one]⟩
          · exact .inr ⟨rfl, rfl, h⟩), hid (by have := Q1.out; omega), hid (by omega), rfl⟩
        case round =>
          obtain ⟨p, j, rfl, rfl, R1, R2, R3, rfl⟩ := hrel
          have hj : (j : Int) ≤ 1022 := by have := R3.out; omega
          by_cases hlt : p < 4607182418800017408
          · have R1' : Hid (k = 0 ∧ wval p = wval q * 2 ^ j) := by
              rcases R1.out with h | h
              · exact h
              · exact absurd h.2.2 (by have := h.2.1; omega)
            have ol := olt p 4607182418800017408 (by omega) (by omega) hlt
            have hk0 : (k : Int) = 0 := by have := R1'.out.1; omega
            by_cases h22 : j = 1022
            · obtain ⟨a1, a2, a3⟩ := low_r q p hlt (by have := R1'.out.2; rw [h22] at this; exact this)
              have hm := fun t w => run_float_arith (P := Tryz.prog) w .mul t .f64 p 4841369599423283200 _ a2
              have hc := fun w => run_convert_float_int (P := Tryz.prog) w 27 102 .f64 .u64 _ (q : Int) (by rw [Tryz.underlying27]; rfl) Tryz.underlying102 a3
              have hor := or_pos q (by omega)
              have ht : ¬ (-1022 : Int) < (k : Int) - j := by omega
              have A1 := hid (show r = q by have := P1.out; have := R1'.out.1; subst this; omega)
              generalize F q 1074 = y at *
              clear a1 a2 a3 hlt h22 hk0
              go_wp2
              go_ret
              exact ⟨by rw [A1.out]; rfl, rfl⟩
            · obtain ⟨p', b1, b2, b3⟩ := dbl_r p hlt
              have hm := fun t w => run_float_arith (P := Tryz.prog) w .mul t .f64 p 4611686018427387904 _ b1
              have ht : (-1022 : Int) < (k : Int) - j := by omega
              have B2 := hid b2
              have B3 := hid b3
              have H22 := hid h22
              clear b1 b2 b3 hlt h22 hk0
              go_wp2
              go_roundw
              case rel => exact ⟨p', j + 1, rfl, by go_num, hid (.inl ⟨R1'.out.1, by rw [B2.out, R1'.out.2, Nat.pow_succ, Nat.mul_assoc]⟩), B3, hid (by have := R3.out; have := H22.out; omega), by first | trivial | rfl⟩
              case measure => simp [intOf]; omega
          · obtain ⟨f, c1, c2, c3, c4, c5⟩ := top_r r k j p (by omega) R2.out R3.out (by
              rcases R1.out with h | h
              · refine .inl ⟨h.1, ?_⟩
                have := P1.out
                rw [h.1, Nat.zero_mul, Nat.add_zero] at this
                rw [this]
                exact h.2
              · exact .inr ⟨h.1, by rw [h.2.1]; exact P1.out⟩)
            have oo : FloatKind.f64.format.order p 4607182418800017408 = some .gt ∨ FloatKind.f64.format.order p 4607182418800017408 = some .eq := by
              have := R2.out
              by_cases h : p = 4607182418800017408
              · exact .inr (by rw [h]; exact oeq _ (by omega))
              · exact .inl (ogt _ _ (by omega) (by omega) (by omega))
            have hs := fun t w => run_float_arith (P := Tryz.prog) w .sub t .f64 p 4607182418800017408 _ c3
            have hm := fun t w => run_float_arith (P := Tryz.prog) w .mul t .f64 _ 4841369599423283200 _ c4
            have hc := fun w => run_convert_float_int (P := Tryz.prog) w 27 102 .f64 .u64 _ (f : Int) (by rw [Tryz.underlying27]; rfl) Tryz.underlying102 c5
            have hk0 : (0 : Int) ≤ (k : Int) := by omega
            have hj0 : (0 : Int) ≤ (j : Int) := by omega
            have C1 := hid c1
            have C2 := hid c2
            generalize F f 1022 = y at *
            generalize F f 1074 = y' at *
            clear c1 c2 c3 c4 c5 hlt
            rcases oo with oo | oo
            all_goals
              go_wp2
              go_ret
              exact ⟨by rw [← top_pos r k j f R3.out P3.out C1.out C2.out]; rfl, rfl⟩

set_option maxRecDepth 100000 in
set_option maxHeartbeats 1600000 in
theorem spec_FloatBits_neg (r : Nat) (h0 : 0 < r) (h1 : r < 9218868437227405312) (w : World) :
    Calls Tryz.prog 73 #[.float .f64 (9223372036854775808 + r)] w fun e w' => e = .returned (.int .u64 ((9223372036854775808 + r : Nat) : Int)) ∧ w' = w := by
  have o1 : FloatKind.f64.format.order (9223372036854775808 + r) (9223372036854775808 + r) = some .eq := order_eq _ _ (by omega) (by omega) ((isN_not _).2 (by omega)) ((isN_not _).2 (by omega)) rfl
  have o2 : FloatKind.f64.format.order (9223372036854775808 + r) 0 = some .lt := order_lt _ _ (by omega) (by omega) ((isN_not _).2 (by omega)) isN_zero (by rw [kx_zero, kx, if_neg (by omega)]; omega)
  have on := neg_run (9223372036854775808 + r) r (neg_bits r (by omega))
  have o3 := ogt r 0 (by omega) (by omega) h0
  have o4 : FloatKind.f64.format.order r 9218868437227405311 = some .lt ∨ FloatKind.f64.format.order r 9218868437227405311 = some .eq := by
    by_cases h : r = 9218868437227405311
    · exact .inr (by rw [h]; exact oeq _ (by omega))
    · exact .inl (olt _ _ (by omega) (by omega) (by omega))
  have H0 := hid h0
  have H1 := hid h1
  clear h0 h1
  rcases o4 with o4 | o4
  all_goals
    go_enter Tryz.func73, Tryz.ntmps73
    go_wp2
    clear o1 o2 o3 o4 on
    go_loopw [4, 5] (fun a e wr => ∃ q k : Nat, a = .float .f64 q ∧ e = .int .i64 k ∧ Hid (r = q + k * 4503599627370496) ∧ Hid (k = 0 ∨ 4607182418800017408 ≤ q) ∧ Hid (k ≤ 1023) ∧ wr = w) (fun a _ _ => fl a)
    case atStart => exact ⟨r, 0, rfl, rfl, hid (by omega), hid (.inl rfl), hid (by omega), rfl⟩
    case round =>
      obtain ⟨q, k, rfl, rfl, P1, P2, P3, rfl⟩ := hrel
      have hq : q < 9218868437227405312 := by have := P1.out; have := H1.out; omega
      by_cases hge : 4611686018427387904 ≤ q
      · obtain ⟨p, hp, ep⟩ : ∃ p, floatBits .quo .f64 q 4611686018427387904 = some p ∧ Hid (q = p + 4503599627370496) := ⟨_, half_r q hge hq, hid (by omega)⟩
        have hd := fun t w => run_float_arith (P := Tryz.prog) w .quo t .f64 q 4611686018427387904 _ hp
        have oo : FloatKind.f64.format.order q 4611686018427387904 = some .gt ∨ FloatKind.f64.format.order q 4611686018427387904 = some .eq := by
          by_cases h : q = 4611686018427387904
          · exact .inr (by rw [h]; exact oeq _ (by omega))
          · exact .inl (ogt _ _ (by omega) (by omega) (by omega))
        have Q1 := hid hge
        have Q2 := hid hq
        have hk : (k : Int) ≤ 1023 := by have := P3.out; omega
        clear hge hq hp
        rcases oo with oo | oo
        all_goals
          go_wp2
          go_roundw
          case rel => exact ⟨p, k + 1, rfl, by go_num, hid (by have := P1.out; have := ep.out; omega), hid (.inr (by have := Q1.out; have := ep.out; omega)), hid (by have := P1.out; have := P3.out; have := Q1.out; have := H1.out; omega), by first | trivial | rfl⟩
          case measure => have := ep.out; simp only [fl]; omega
      · have oo := olt q 4611686018427387904 (by omega) (by omega) (by omega)
        have Q1 := hid hge
        have Q2 := hid hq
        have hk : (k : Int) ≤ 1023 := by have := P3.out; omega
        clear hge hq
        go_wp2
        clear oo
        go_loopw [4, 5] (fun a e wr' => ∃ p j : Nat, a = .float .f64 p ∧ e = .int .i64 ((k : Int) - j) ∧ Hid ((k = 0 ∧ wval p = wval q * 2 ^ j) ∨ (j = 0 ∧ p = q ∧ 4607182418800017408 ≤ q)) ∧ Hid (p < 4611686018427387904) ∧ Hid (j ≤ 1022) ∧ wr' = wr) (fun _ e _ => (intOf e + 1022).toNat)
        case atStart => exact ⟨q, 0, rfl, by go_num, hid (by
          rcases P2.out with h | h
          · exact .inl ⟨h, by rw [Nat.pow_zero, Nat.mul_one]⟩
          · exact .inr ⟨rfl, rfl, h⟩), hid (by have := Q1.out; omega), hid (by omega), rfl⟩
        case round =>
          obtain ⟨p, j, rfl, rfl, R1, R2, R3, rfl⟩ := hrel
          have hj : (j : Int) ≤ 1022 := by have := R3.out; omega
          by_cases hlt : p < 4607182418800017408
          · have R1' : Hid (k = 0 ∧ wval p = wval q * 2 ^ j) := by
              rcases R1.out with h | h
              · exact h
              · exact absurd h.2.2 (by have := h.2.1; omega)
            have ol := olt p 4607182418800017408 (by omega) (by omega) hlt
            have hk0 : (k : Int) = 0 := by have := R1'.out.1; omega
            by_cases h22 : j = 1022
            · obtain ⟨a1, a2, a3⟩ := low_r q p hlt (by have := R1'.out.2; rw [h22] at this; exact this)
              have hm := fun t w => run_float_arith (P := Tryz.prog) w .mul t .f64 p 4841369599423283200 _ a2
              have hc := fun w => run_convert_float_int (P := Tryz.prog) w 27 102 .f64 .u64 _ (q : Int) (by rw [Tryz.underlying27]; rfl) Tryz.underlying102 a3
              have hor := or_neg q (by omega)
              have ht : ¬ (-1022 : Int) < (k : Int) - j := by omega
              have A1 := hid (show r = q by have := P1.out; have := R1'.out.1; subst this; omega)
              generalize F q 1074 = y at *
              clear a1 a2 a3 hlt h22 hk0
              go_wp2
              go_ret
              exact ⟨by rw [A1.out]; rfl, rfl⟩
            · obtain ⟨p', b1, b2, b3⟩ := dbl_r p hlt
              have hm := fun t w => run_float_arith (P := Tryz.prog) w .mul t .f64 p 4611686018427387904 _ b1
              have ht : (-1022 : Int) < (k : Int) - j := by omega
              have B2 := hid b2
              have B3 := hid b3
              have H22 := hid h22
              clear b1 b2 b3 hlt h22 hk0
              go_wp2
              go_roundw
              case rel => exact ⟨p', j + 1, rfl, by go_num, hid (.inl ⟨R1'.out.1, by rw [B2.out, R1'.out.2, Nat.pow_succ, Nat.mul_assoc]⟩), B3, hid (by have := R3.out; have := H22.out; omega), by first | trivial | rfl⟩
              case measure => simp [intOf]; omega
          · obtain ⟨f, c1, c2, c3, c4, c5⟩ := top_r r k j p (by omega) R2.out R3.out (by
              rcases R1.out with h | h
              · refine .inl ⟨h.1, ?_⟩
                have := P1.out
                rw [h.1, Nat.zero_mul, Nat.add_zero] at this
                rw [this]
                exact h.2
              · exact .inr ⟨h.1, by rw [h.2.1]; exact P1.out⟩)
            have oo : FloatKind.f64.format.order p 4607182418800017408 = some .gt ∨ FloatKind.f64.format.order p 4607182418800017408 = some .eq := by
              have := R2.out
              by_cases h : p = 4607182418800017408
              · exact .inr (by rw [h]; exact oeq _ (by omega))
              · exact .inl (ogt _ _ (by omega) (by omega) (by omega))
            have hs := fun t w => run_float_arith (P := Tryz.prog) w .sub t .f64 p 4607182418800017408 _ c3
            have hm := fun t w => run_float_arith (P := Tryz.prog) w .mul t .f64 _ 4841369599423283200 _ c4
            have hc := fun w => run_convert_float_int (P := Tryz.prog) w 27 102 .f64 .u64 _ (f : Int) (by rw [Tryz.underlying27]; rfl) Tryz.underlying102 c5
            have hk0 : (0 : Int) ≤ (k : Int) := by omega
            have hj0 : (0 : Int) ≤ (j : Int) := by omega
            have C1 := hid c1
            have C2 := hid c2
            generalize F f 1022 = y at *
            generalize F f 1074 = y' at *
            clear c1 c2 c3 c4 c5 hlt
            rcases oo with oo | oo
            all_goals
              go_wp2
              go_ret
              exact ⟨by rw [← top_neg r k j f R3.out P3.out C1.out C2.out]; rfl, rfl⟩

/-- Both noughts, both infinities, NaN. -/
theorem spec_FloatBits_rest (x : Nat) (w : World) (hx : x = 0 ∨ x = 9223372036854775808 ∨ x = 9218868437227405312 ∨ x = 18442240474082181120) :
    Calls Tryz.prog 73 #[.float .f64 x] w fun e w' => e = .returned (.int .u64 (x : Int)) ∧ w' = w := by
  have d1 := fun t w => run_float_arith (P := Tryz.prog) w .quo t .f64 4607182418800017408 0 9218868437227405312 (by decide)
  have d2 := fun t w => run_float_arith (P := Tryz.prog) w .quo t .f64 4607182418800017408 9223372036854775808 18442240474082181120 (by decide)
  have o1 : FloatKind.f64.format.order 0 0 = some .eq := by decide
  have o2 : FloatKind.f64.format.order 9223372036854775808 0 = some .eq := by decide
  have o3 : FloatKind.f64.format.order 9218868437227405312 0 = some .gt := by decide
  have o4 : FloatKind.f64.format.order 18442240474082181120 0 = some .lt := by decide
  have o5 : FloatKind.f64.format.order 9223372036854775808 9223372036854775808 = some .eq := by decide
  have o6 : FloatKind.f64.format.order 9218868437227405312 9218868437227405312 = some .eq := by decide
  have o7 : FloatKind.f64.format.order 18442240474082181120 18442240474082181120 = some .eq := by decide
  have o8 : FloatKind.f64.format.order 9218868437227405312 9218868437227405311 = some .gt := by decide
  have n1 := neg_run 9223372036854775808 0 (by decide)
  have n2 := neg_run 18442240474082181120 9218868437227405312 (by decide)
  have b1 : bits .or .u64 0 9218868437227405312 = 9218868437227405312 := or_pos 9218868437227405312 (by omega)
  have b2 : bits .or .u64 9223372036854775808 9218868437227405312 = 18442240474082181120 := or_neg 9218868437227405312 (by omega)
  rcases hx with rfl | rfl | rfl | rfl
  all_goals
    go_enter Tryz.func73, Tryz.ntmps73
    go_wp2
    go_ret
    exact ⟨rfl, rfl⟩

theorem spec_FloatBits_nan (x : Nat) (hx : x < 18446744073709551616) (hn : isN x = true) (w : World) :
    Calls Tryz.prog 73 #[.float .f64 x] w fun e w' => e = .returned (.int .u64 9221120237041090560) ∧ w' = w := by
  have o := order_l x x hx hn
  clear hx hn
  go_enter Tryz.func73, Tryz.ntmps73
  go_wp2
  go_ret
  exact ⟨rfl, rfl⟩

theorem spec_FloatBits (x : Nat) (hx : x < 18446744073709551616) (w : World) :
    Calls Tryz.prog 73 #[.float .f64 x] w fun e w' => e = .returned (.int .u64 (fbits x : Int)) ∧ w' = w := by
  by_cases hn : isN x = true
  · rw [fbits, if_pos hn]
    exact spec_FloatBits_nan x hx hn w
  · have hn' : isN x = false := by simpa using hn
    rw [isN_not] at hn'
    rw [fbits, if_neg hn]
    by_cases h4 : x = 0 ∨ x = 9223372036854775808 ∨ x = 9218868437227405312 ∨ x = 18442240474082181120
    · exact spec_FloatBits_rest x w h4
    · by_cases hp : x < 9223372036854775808
      · exact spec_FloatBits_pos x (by omega) (by omega) w
      · obtain ⟨r, rfl⟩ : ∃ r, x = 9223372036854775808 + r := ⟨x - 9223372036854775808, by omega⟩
        exact spec_FloatBits_neg r (by omega) (by omega) w
end Go.Proofs.YtebhipicfgnajaaGreat
/- The contract of the specification's FloatOf: the float with the bits, or some NaN where they are a NaN's; memory stays as it was. For every argument. -/


namespace Go.Proofs.YtebhipicfgnajaaGreat
open Go.RowKit Ieee

theorem neg_bits' (r : Nat) (h : r < 9223372036854775808) : Op.negFloat .f64 r = 9223372036854775808 + r := by
  unfold Op.negFloat
  rw [show 2 ^ (FloatKind.f64.format.exponentBits + FloatKind.f64.format.fractionBits) = 2 ^ 63 from rfl]
  have e : 9223372036854775808 + r = 2 ^ 63 ||| r := (nat_join 63 _ _ (by decide) (by omega)).symm
  rw [e]
  apply Nat.eq_of_testBit_eq
  intro i
  rw [Nat.testBit_xor, Nat.testBit_or, Nat.testBit_two_pow]
  by_cases hi : 63 = i
  · subst hi
    rw [Nat.testBit_lt_two_pow h]
    rfl
  · simp [hi]

/-- A NaN that an operation hands back. -/
theorem nan_run (op : BinOp) (t : TypeId) (x y : Nat) (ho : op = .add ∨ op = .sub ∨ op = .mul ∨ op = .quo) (h : floatBits op .f64 x y = none) (w : World) : ∃ n, (binOp op t (.float .f64 x) (.float .f64 y)).run Tryz.prog w = .ok (.float .f64 n) w.drew ∧ isN n = true ∧ n < 18446744073709551616 := by
  refine ⟨Question.cut (.nanBits .f64 x y) (w.tape w.drawn (.nanBits .f64 x y)), ?_, ?_, ?_⟩
  · unfold floatBits at h
    rcases ho with rfl | rfl | rfl | rfl <;> simp only at h <;> simp [binOp, Op.floatArith, h, choose, Sem.run, Question.forced]
  · rw [isN_iff]
    simp only [Question.cut]
    have hu := Nat.mod_lt (w.tape w.drawn (.nanBits .f64 x y) / 2) (show 0 < 2 ^ 52 - 1 by decide)
    generalize w.tape w.drawn (.nanBits .f64 x y) / 2 % (2 ^ 52 - 1) = u at *
    rcases Nat.mod_two_eq_zero_or_one (w.tape w.drawn (.nanBits .f64 x y)) with h | h <;> rw [h] <;> omega
  · simp only [Question.cut]
    have hu := Nat.mod_lt (w.tape w.drawn (.nanBits .f64 x y) / 2) (show 0 < 2 ^ 52 - 1 by decide)
    generalize w.tape w.drawn (.nanBits .f64 x y) / 2 % (2 ^ 52 - 1) = u at *
    rcases Nat.mod_two_eq_zero_or_one (w.tape w.drawn (.nanBits .f64 x y)) with h | h <;> rw [h] <;> omega
end Go.Proofs.YtebhipicfgnajaaGreat
/- The contract of the specification's FloatOf: the float with the bits, or some NaN where they are a NaN's; memory stays as it was. For every argument. -/

namespace Go.Proofs.YtebhipicfgnajaaGreat
open Go.RowKit Ieee

/-- The fields of 64 bits. -/
structure Fields (b e f : Nat) (s : Bool) : Prop where
  he : e < 2048
  hf : f < 4503599627370496
  hb : b = (if s then 9223372036854775808 else 0) + (e * 4503599627370496 + f)
  a1 : bits .and .u64 ((b : Int) / 4503599627370496) 2047 = (e : Int)
  a2 : bits .and .u64 (b : Int) 4503599627370495 = (f : Int)
  a3 : ((b : Int) / 9223372036854775808 == 1) = s

theorem fields (b : Nat) (h : b < 18446744073709551616) : ∃ e f s, Fields b e f s := by
  refine ⟨b / 4503599627370496 % 2048, b % 4503599627370496, decide (9223372036854775808 ≤ b), by omega, by omega, ?_, ?_, ?_, ?_⟩
  · by_cases hs : 9223372036854775808 ≤ b
    · rw [decide_eq_true hs, if_pos rfl]; omega
    · rw [decide_eq_false hs, if_neg (by simp)]; omega
  · have := u64_and_nat (b / 4503599627370496) 2047 (by omega) (by omega)
    rw [show (2047 : Nat) = 2 ^ 11 - 1 from rfl, Nat.and_two_pow_sub_one_eq_mod] at this
    exact this
  · have := u64_and_nat b 4503599627370495 (by omega) (by omega)
    rw [show (4503599627370495 : Nat) = 2 ^ 52 - 1 from rfl, Nat.and_two_pow_sub_one_eq_mod] at this
    exact this
  · by_cases hs : 9223372036854775808 ≤ b
    · rw [decide_eq_true hs]
      exact beq_iff_eq.2 (by omega)
    · rw [decide_eq_false hs]
      exact beq_eq_false_iff_ne.2 (by omega)

theorem ofint_run (f : Nat) (hf : f < 4503599627370496) (w : World) : (convert 102 27 (.int .u64 (f : Int))).run Tryz.prog w = .ok (.float .f64 (F f 1074)) w := by
  rw [run_convert_int_float w 102 27 .u64 .f64 (f : Int) (by rw [Tryz.underlying102]; rfl) Tryz.underlying27, of_F f (by omega)]

set_option maxHeartbeats 1600000 in
theorem spec_FloatOf_nan (b f : Nat) (s : Bool) (H : Fields b 2047 f s) (h0 : f ≠ 0) (w : World) :
    Calls Tryz.prog 156 #[.int .u64 b] w fun e w' => ∃ y : Nat, e = .returned (.float .f64 y) ∧ isN y = true ∧ y < 18446744073709551616 ∧ Still w w' := by
  have a1 := H.a1
  have a2 := H.a2
  have hof := ofint_run f H.hf
  have hd := fun t w => run_float_arith (P := Tryz.prog) w .quo t .f64 _ 4841369599423283200 _ (cut_F f 1022 (by have := H.hf; omega) (by omega))
  obtain ⟨n, hn, n1, n2⟩ := nan_run .quo 27 0 0 (by simp) (by decide) w
  have hne : ((f : Int) != 0) = true := by simp [h0]
  generalize F f 1074 = y1 at *
  generalize F f 1022 = y2 at *
  clear H h0
  go_enter Tryz.func156, Tryz.ntmps156
  go_wp2
  go_ret
  exact ⟨n, rfl, n1, n2, Still.drew w⟩

set_option maxHeartbeats 1600000 in
theorem spec_FloatOf_inf (b : Nat) (s : Bool) (H : Fields b 2047 0 s) (w : World) :
    Calls Tryz.prog 156 #[.int .u64 b] w fun e w' => e = .returned (.float .f64 b) ∧ w' = w := by
  have a1 : bits .and .u64 ((b : Int) / 4503599627370496) 2047 = 2047 := H.a1
  have a2 : bits .and .u64 (b : Int) 4503599627370495 = 0 := H.a2
  have a3 := H.a3
  have hb := hid H.hb
  have hof : ∀ w, (convert 102 27 (.int .u64 0)).run Tryz.prog w = .ok (.float .f64 (F 0 1074)) w := ofint_run 0 (by omega)
  have hd := fun t w => run_float_arith (P := Tryz.prog) w .quo t .f64 _ 4841369599423283200 _ (cut_F 0 1022 (by omega) (by omega))
  have d1 := fun t w => run_float_arith (P := Tryz.prog) w .quo t .f64 4607182418800017408 0 9218868437227405312 (by decide)
  have n2 := neg_run 9218868437227405312 18442240474082181120 (by decide)
  generalize F 0 1074 = y1 at *
  generalize F 0 1022 = y2 at *
  clear H
  cases s
  · have hb' := hid (show b = 9218868437227405312 by have := hb.out; rw [if_neg (by simp)] at this; omega)
    clear hb
    go_enter Tryz.func156, Tryz.ntmps156
    go_wp2
    go_ret
    exact ⟨by rw [hb'.out]; rfl, rfl⟩
  · have hb' := hid (show b = 18442240474082181120 by have := hb.out; rw [if_pos rfl] at this; omega)
    clear hb
    go_enter Tryz.func156, Tryz.ntmps156
    go_wp2
    go_ret
    exact ⟨by rw [hb'.out]; rfl, rfl⟩

set_option maxRecDepth 100000 in
set_option maxHeartbeats 1600000 in
theorem spec_FloatOf_norm (b e f : Nat) (s : Bool) (H : Fields b e f s) (h0 : 1 ≤ e) (h1 : e ≤ 2046) (w : World) :
    Calls Tryz.prog 156 #[.int .u64 b] w fun e w' => e = .returned (.float .f64 b) ∧ w' = w := by
  have a1 := H.a1
  have a2 := H.a2
  have a3 := H.a3
  have hbp : Hid (s = false → b = e * 4503599627370496 + f) := fun h => by have := H.hb; rw [h, if_neg (by simp), Nat.zero_add] at this; exact this
  have hbn : Hid (s = true → b = 9223372036854775808 + (e * 4503599627370496 + f)) := fun h => by have := H.hb; rw [h, if_pos rfl] at this; exact this
  have hf := H.hf
  have hof := ofint_run f hf
  have hd := fun t w => run_float_arith (P := Tryz.prog) w .quo t .f64 _ 4841369599423283200 _ (cut_F f 1022 (by omega) (by omega))
  have hm := fun t w => run_float_arith (P := Tryz.prog) w .add t .f64 _ 4607182418800017408 _ (more_F f hf)
  have hne : ((e : Int) == 2047) = false := beq_eq_false_iff_ne.2 (by omega)
  have hne0 : ((e : Int) == 0) = false := beq_eq_false_iff_ne.2 (by omega)
  have E0 : (1 : Int) ≤ e := by omega
  have E1 : (e : Int) ≤ 2046 := by omega
  have Hfin : Hid (F (2 ^ 52 + f) (e - 1) = e * 4503599627370496 + f) := by
    have := F_norm (e - 1) f hf (by omega)
    rw [show (e - 1 + 1) * 2 ^ 52 + f = e * 4503599627370496 + f by omega] at this
    exact this
  have Hc : Hid (2 ^ 52 + f < 2 ^ 53) := hid (by omega)
  have He := hid (show e - 1 + 1 = e by omega)
  have HF := hid hf
  have H1 := hid h1
  generalize F f 1074 = y1 at *
  generalize F f 1022 = y2 at *
  generalize 2 ^ 52 + f = c at *
  generalize e - 1 = T at *
  clear H h0 h1 hf
  go_enter Tryz.func156, Tryz.ntmps156
  go_wp2
  clear hof hd hm hne hne0
  go_loopw [6, 7] (fun a k wr => ∃ j : Nat, a = .float .f64 (F c j) ∧ k = .int .i64 ((T : Int) - j) ∧ Hid (1022 ≤ j) ∧ Hid (j ≤ 2045) ∧ wr = w) (fun _ k _ => (intOf k).toNat)
  case atStart => exact ⟨1022, rfl, by have := He.out; go_num, hid (by omega), hid (by omega), rfl⟩
  case round =>
    obtain ⟨j, rfl, rfl, P1, P2, rfl⟩ := hrel
    have hT : (T : Int) ≤ 2045 := by have := He.out; have := H1.out; omega
    have hT0 : (0 : Int) ≤ T := by omega
    have hj0 : (0 : Int) ≤ j := by omega
    have hj1 : (j : Int) ≤ 2045 := by have := P2.out; omega
    by_cases hlt : (0 : Int) < (T : Int) - j
    · have hx := fun t w => run_float_arith (P := Tryz.prog) w .mul t .f64 _ 4611686018427387904 _ (double_F c j Hc.out (by omega))
      go_wp2
      go_roundw
      case rel => exact ⟨j + 1, rfl, by go_num, hid (by have := P1.out; omega), hid (by omega), by first | trivial | rfl⟩
      case measure => simp [intOf]; omega
    · have Q0 := hid (show T ≤ j by omega)
      go_wp2
      go_loopw [6, 7] (fun a k wr' => ∃ i : Nat, a = .float .f64 (F c i) ∧ k = .int .i64 ((T : Int) - i) ∧ Hid (T ≤ i) ∧ Hid (i ≤ 2045) ∧ wr' = wr) (fun _ k _ => (-(intOf k)).toNat)
      case atStart => exact ⟨j, rfl, rfl, Q0, P2, rfl⟩
      case round =>
        obtain ⟨i, rfl, rfl, R1, R2, rfl⟩ := hrel
        have hi0 : (0 : Int) ≤ i := by omega
        have hi1 : (i : Int) ≤ 2045 := by have := R2.out; omega
        by_cases hlt2 : (T : Int) - i < 0
        · obtain ⟨i', hi'⟩ : ∃ i', i = i' + 1 := ⟨i - 1, by omega⟩
          have Hi := hid hi'
          have hx := fun t w => run_float_arith (P := Tryz.prog) w .quo t .f64 (F c i) 4611686018427387904 (F c i') (by rw [hi']; exact half_F c i' Hc.out (by omega))
          clear hi'
          go_wp2
          go_roundw
          case rel => exact ⟨i', rfl, by have := Hi.out; go_num, hid (by have := Hi.out; omega), hid (by have := Hi.out; omega), by first | trivial | rfl⟩
          case measure => have := Hi.out; simp [intOf]; omega
        · have ei := hid (show i = T by have := R1.out; omega)
          have hn := neg_run (F c i) (9223372036854775808 + F c i) (neg_bits' _ (by rw [ei.out, Hfin.out]; have := HF.out; have := He.out; have := H1.out; omega))
          cases s
          · go_wp2
            go_ret
            exact ⟨by rw [show b = F c i by rw [ei.out, Hfin.out, hbp.out (by first | trivial | rfl)]]; rfl, rfl⟩
          · go_wp2
            go_ret
            exact ⟨by rw [show b = 9223372036854775808 + F c i by rw [ei.out, Hfin.out, hbn.out (by first | trivial | rfl)]]; rfl, rfl⟩
set_option maxRecDepth 100000 in
set_option maxHeartbeats 1600000 in
theorem spec_FloatOf_low (b f : Nat) (s : Bool) (H : Fields b 0 f s) (w : World) :
    Calls Tryz.prog 156 #[.int .u64 b] w fun e w' => e = .returned (.float .f64 b) ∧ w' = w := by
  have a1 : bits .and .u64 ((b : Int) / 4503599627370496) 2047 = 0 := H.a1
  have a2 := H.a2
  have a3 := H.a3
  have hbp : Hid (s = false → b = f) := fun h => by have := H.hb; rw [h, if_neg (by simp)] at this; omega
  have hbn : Hid (s = true → b = 9223372036854775808 + f) := fun h => by have := H.hb; rw [h, if_pos rfl] at this; omega
  have hf := H.hf
  have hof := ofint_run f hf
  have hd := fun t w => run_float_arith (P := Tryz.prog) w .quo t .f64 _ 4841369599423283200 _ (cut_F f 1022 (by omega) (by omega))
  have Hfin : Hid (F f 0 = f) := F_sub f hf
  have Hc : Hid (f < 2 ^ 53) := hid (by omega)
  have HF := hid hf
  obtain ⟨T, HT⟩ : ∃ T : Nat, Hid (T = 0) := ⟨0, rfl⟩
  generalize F f 1074 = y1 at *
  clear H hf
  go_enter Tryz.func156, Tryz.ntmps156
  go_wp2
  clear hof hd
  go_loopw [6, 7] (fun a k wr => ∃ j : Nat, a = .float .f64 (F f j) ∧ k = .int .i64 ((T : Int) - j) ∧ Hid (1022 ≤ j) ∧ Hid (j ≤ 2045) ∧ wr = w) (fun _ k _ => (intOf k).toNat)
  case atStart => exact ⟨1022, rfl, by have := HT.out; go_num, hid (by omega), hid (by omega), rfl⟩
  case round =>
    obtain ⟨j, rfl, rfl, P1, P2, rfl⟩ := hrel
    have hT : (T : Int) ≤ 2045 := by have := HT.out; omega
    have hT0 : (0 : Int) ≤ T := by omega
    have hj0 : (0 : Int) ≤ j := by omega
    have hj1 : (j : Int) ≤ 2045 := by have := P2.out; omega
    by_cases hlt : (0 : Int) < (T : Int) - j
    · have hx := fun t w => run_float_arith (P := Tryz.prog) w .mul t .f64 _ 4611686018427387904 _ (double_F f j Hc.out (by omega))
      go_wp2
      go_roundw
      case rel => exact ⟨j + 1, rfl, by go_num, hid (by have := P1.out; omega), hid (by omega), by first | trivial | rfl⟩
      case measure => simp [intOf]; omega
    · have Q0 := hid (show T ≤ j by omega)
      go_wp2
      go_loopw [6, 7] (fun a k wr' => ∃ i : Nat, a = .float .f64 (F f i) ∧ k = .int .i64 ((T : Int) - i) ∧ Hid (T ≤ i) ∧ Hid (i ≤ 2045) ∧ wr' = wr) (fun _ k _ => (-(intOf k)).toNat)
      case atStart => exact ⟨j, rfl, rfl, Q0, P2, rfl⟩
      case round =>
        obtain ⟨i, rfl, rfl, R1, R2, rfl⟩ := hrel
        have hi0 : (0 : Int) ≤ i := by omega
        have hi1 : (i : Int) ≤ 2045 := by have := R2.out; omega
        by_cases hlt2 : (T : Int) - i < 0
        · obtain ⟨i', hi'⟩ : ∃ i', i = i' + 1 := ⟨i - 1, by omega⟩
          have Hi := hid hi'
          have hx := fun t w => run_float_arith (P := Tryz.prog) w .quo t .f64 (F f i) 4611686018427387904 (F f i') (by rw [hi']; exact half_F f i' Hc.out (by omega))
          clear hi'
          go_wp2
          go_roundw
          case rel => exact ⟨i', rfl, by have := Hi.out; go_num, hid (by have := Hi.out; omega), hid (by have := Hi.out; omega), by first | trivial | rfl⟩
          case measure => have := Hi.out; simp [intOf]; omega
        · have ei := hid (show i = T by have := R1.out; omega)
          have hn := neg_run (F f i) (9223372036854775808 + F f i) (neg_bits' _ (by rw [ei.out, HT.out, Hfin.out]; have := HF.out; omega))
          cases s
          · go_wp2
            go_ret
            exact ⟨by rw [show b = F f i by rw [ei.out, HT.out, Hfin.out, hbp.out (by first | trivial | rfl)]]; rfl, rfl⟩
          · go_wp2
            go_ret
            exact ⟨by rw [show b = 9223372036854775808 + F f i by rw [ei.out, HT.out, Hfin.out, hbn.out (by first | trivial | rfl)]]; rfl, rfl⟩

theorem spec_FloatOf (b : Nat) (hb : b < 18446744073709551616) (w : World) :
    Calls Tryz.prog 156 #[.int .u64 b] w fun e w' => ∃ y : Nat, e = .returned (.float .f64 y) ∧ y < 18446744073709551616 ∧ Hid (isN b = false → y = b) ∧ Hid (isN b = isN y) ∧ Still w w' := by
  obtain ⟨e, f, s, H⟩ := fields b hb
  have h1 := H.he
  have h2 := H.hf
  have h3 := H.hb
  have hm : b % 9223372036854775808 = e * 4503599627370496 + f := by
    cases s
    · rw [if_neg (by simp)] at h3; omega
    · rw [if_pos rfl] at h3; omega
  have keep : ∀ w', w' = w → Still w w' := fun w' h => by subst h; exact Still.refl _
  by_cases he : e = 2047
  · subst he
    by_cases hf : f = 0
    · subst hf
      refine (spec_FloatOf_inf b s H w).mono ?_
      rintro x w1 ⟨rfl, e1⟩
      exact ⟨b, rfl, hb, hid (fun _ => rfl), hid rfl, keep w1 e1⟩
    · refine (spec_FloatOf_nan b f s H hf w).mono ?_
      rintro x w1 ⟨y, rfl, n1, n2, st⟩
      have hN : isN b = true := (isN_iff b).2 (by omega)
      exact ⟨y, rfl, n2, hid (fun h => by rw [hN] at h; cases h), hid (by rw [hN, n1]), st⟩
  · by_cases h0 : e = 0
    · subst h0
      refine (spec_FloatOf_low b f s H w).mono ?_
      rintro x w1 ⟨rfl, e1⟩
      exact ⟨b, rfl, hb, hid (fun _ => rfl), hid rfl, keep w1 e1⟩
    · refine (spec_FloatOf_norm b e f s H (by omega) (by omega) w).mono ?_
      rintro x w1 ⟨rfl, e1⟩
      exact ⟨b, rfl, hb, hid (fun _ => rfl), hid rfl, keep w1 e1⟩
end Go.Proofs.YtebhipicfgnajaaGreat
/- One float, all NaNs being one. No statement of its own; no conditions. -/

namespace Go.Proofs.YtebhipicfgnajaaGreat

/-- One float, all NaNs being one. -/
def Same (x y : Nat) : Prop := (isN x = true ∧ isN y = true) ∨ (isN x = false ∧ y = x)
theorem Same.refl (x : Nat) : Same x x := by
  by_cases h : isN x = true
  · exact .inl ⟨h, h⟩
  · exact .inr ⟨by simpa using h, rfl⟩
theorem Same.symm {x y : Nat} (h : Same x y) : Same y x := by
  rcases h with ⟨a, b⟩ | ⟨a, rfl⟩
  · exact .inl ⟨b, a⟩
  · exact .inr ⟨a, rfl⟩
theorem Same.trans {x y z : Nat} (h : Same x y) (k : Same y z) : Same x z := by
  rcases h with ⟨a, b⟩ | ⟨a, rfl⟩
  · rcases k with ⟨c, d⟩ | ⟨c, rfl⟩
    · exact .inl ⟨a, d⟩
    · rw [b] at c; cases c
  · exact k
end Go.Proofs.YtebhipicfgnajaaGreat
/- The contracts of the specification's FloatRank, FloatUnrank and FloatCompare and of the laws' sameFloat; the laws of chapter 2 on FloatBits, FloatOf, FloatRank, FloatUnrank, FloatCompare. For every argument. -/


namespace Go.Proofs.YtebhipicfgnajaaGreat
open Go.RowKit Ieee

theorem sameFloat_walk (x y : Nat) (hx : x < 18446744073709551616) (hy : y < 18446744073709551616) (hs : Same x y) (w : World) :
    Calls Tryz.prog 106 #[.float .f64 x, .float .f64 y] w fun e w' => e = .returned (.bool true) ∧ w' = w := by
  rcases hs with ⟨n1, n2⟩ | ⟨n1, rfl⟩
  · have o1 := order_l x x hx n1
    have o2 := order_l y y hy n2
    clear hx hy n1 n2
    go_enter Tryz.func106, Tryz.ntmps106
    go_wp2
    go_ret
    exact ⟨rfl, rfl⟩
  · have o1 := order_eq y y hx hx n1 n1 rfl
    by_cases h0 : y % 9223372036854775808 = 0
    · have h2 : y = 0 ∨ y = 9223372036854775808 := by omega
      clear hx hy n1 h0
      have d1 := fun t w => run_float_arith (P := Tryz.prog) w .quo t .f64 4607182418800017408 0 9218868437227405312 (by decide)
      have d2 := fun t w => run_float_arith (P := Tryz.prog) w .quo t .f64 4607182418800017408 9223372036854775808 18442240474082181120 (by decide)
      have o3 : FloatKind.f64.format.order 9218868437227405312 0 = some .gt := by decide
      have o4 : FloatKind.f64.format.order 18442240474082181120 0 = some .lt := by decide
      have o5 : FloatKind.f64.format.order 9223372036854775808 0 = some .eq := by decide
      rcases h2 with rfl | rfl
      all_goals
        go_enter Tryz.func106, Tryz.ntmps106
        go_wp2
        go_ret
        exact ⟨rfl, rfl⟩
    · have hm := (isN_not y).1 n1
      have o2 : FloatKind.f64.format.order y 0 = some .lt ∨ FloatKind.f64.format.order y 0 = some .gt := by
        by_cases hp : y < 9223372036854775808
        · exact .inr (order_gt y 0 hx (by omega) n1 isN_zero (by rw [kx_zero, kx, if_pos hp]; omega))
        · exact .inl (order_lt y 0 hx (by omega) n1 isN_zero (by rw [kx_zero, kx, if_neg hp]; omega))
      clear hx hy n1 h0 hm
      rcases o2 with o2 | o2
      all_goals
        go_enter Tryz.func106, Tryz.ntmps106
        go_wp2
        go_ret
        exact ⟨rfl, rfl⟩

theorem or_top (x : Nat) (h : x < 9223372036854775808) : bits .or .u64 (x : Int) 9223372036854775808 = ((x + 9223372036854775808 : Nat) : Int) := by
  have := u64_or_nat x 9223372036854775808 (by omega) (by omega)
  rw [Nat.or_comm, nat_join 63 _ _ (by decide) (by omega), Nat.add_comm] at this
  exact this

theorem spec_FloatRank (x : Nat) (hx : x < 18446744073709551616) (w : World) :
    Calls Tryz.prog 134 #[.float .f64 x] w fun e w' => e = .returned (.int .u64 (frank x)) ∧ w' = w := by
  by_cases hn : isN x = true
  · have ef : frank x = 18446744073709551615 := by rw [frank, if_pos hn]
    have eb : fbits x = 9221120237041090560 := by rw [fbits, if_pos hn]
    go_enter Tryz.func134, Tryz.ntmps134
    go_wp2_with fail
    refine (spec_FloatBits x hx w).mono ?_
    rintro e w1 ⟨rfl, rfl⟩
    rw [eb]
    go_wp2_with fail
    go_ret
    exact ⟨by rw [ef]; rfl, rfl⟩
  · have hn' : isN x = false := by simpa using hn
    have hm := (isN_not x).1 hn'
    have eb : fbits x = x := by rw [fbits, if_neg hn]
    have hne : ((x : Int) == 9221120237041090560) = false := beq_eq_false_iff_ne.2 (by omega)
    by_cases h0 : x % 9223372036854775808 = 0
    · have ef : frank x = 9223372036854775808 := by rw [frank, if_neg hn, if_pos h0]
      have o := order_eq x 0 hx (by omega) hn' isN_zero (by rw [kx_zero, kx]; split <;> omega)
      clear hm h0 hn hn'
      go_enter Tryz.func134, Tryz.ntmps134
      go_wp2_with fail
      refine (spec_FloatBits x hx w).mono ?_
      rintro e w1 ⟨rfl, rfl⟩
      rw [eb]
      go_wp2_with fail
      go_ret
      exact ⟨by rw [ef]; rfl, rfl⟩
    · by_cases hs : x < 9223372036854775808
      · have ef := hid (show frank x = x + 9223372036854775808 by rw [frank, if_neg hn, if_neg h0, if_pos hs])
        have o := order_gt x 0 hx (by omega) hn' isN_zero (by rw [kx_zero, kx]; split <;> omega)
        have ht : ((x : Int) / 9223372036854775808 == 1) = false := beq_eq_false_iff_ne.2 (by omega)
        have hor := or_top x hs
        clear hm h0 hn hn' hs
        go_enter Tryz.func134, Tryz.ntmps134
        go_wp2_with fail
        refine (spec_FloatBits x hx w).mono ?_
        rintro e w1 ⟨rfl, rfl⟩
        rw [eb]
        go_wp2_with fail
        go_ret
        exact ⟨by rw [ef.out]; rfl, rfl⟩
      · have ef := hid (show frank x = 18446744073709551615 - x by rw [frank, if_neg hn, if_neg h0, if_neg hs])
        have o := order_lt x 0 hx (by omega) hn' isN_zero (by rw [kx_zero, kx]; split <;> omega)
        have ht : ((x : Int) / 9223372036854775808 == 1) = true := beq_iff_eq.2 (by omega)
        have hnot := not64 x hx
        clear hm h0 hn hn' hs
        go_enter Tryz.func134, Tryz.ntmps134
        go_wp2_with fail
        refine (spec_FloatBits x hx w).mono ?_
        rintro e w1 ⟨rfl, rfl⟩
        rw [eb]
        go_wp2_with fail
        go_ret
        exact ⟨by rw [ef.out]; rfl, rfl⟩

theorem frank_same (x y : Nat) (h1 : isN x = false → y = x) (h2 : isN x = isN y) : frank y = frank x := by
  by_cases hn : isN x = true
  · rw [frank, frank, if_pos hn, if_pos (by rw [← h2]; exact hn)]
  · rw [h1 (by simpa using hn)]

theorem same_of {x y : Nat} (h1 : isN x = false → y = x) (h2 : isN x = isN y) : Same x y := by
  by_cases hn : isN x = true
  · exact .inl ⟨hn, by rw [← h2]; exact hn⟩
  · have hn' : isN x = false := by simpa using hn
    exact .inr ⟨hn', h1 hn'⟩

/-- What FloatUnrank answers, as the specification does it. -/
def Unrank (k : Nat) (y : Nat) (ok : Bool) : Prop :=
  (frank (back k) = k ∧ ok = true ∧ Same (back k) y) ∨ (¬ frank (back k) = k ∧ ok = false ∧ y = 0)

theorem spec_FloatUnrank (k : Nat) (hk : k < 18446744073709551616) (w : World) :
    Calls Tryz.prog 160 #[.int .u64 k] w fun e w' => ∃ y ok, e = .returned (.tuple #[.float .f64 y, .bool ok]) ∧ y < 18446744073709551616 ∧ Hid (Unrank k y ok) ∧ Still w w' := by
  have hbl := back_lt k hk
  by_cases hmax : k = 18446744073709551615
  · subst hmax
    have hbN : isN (back 18446744073709551615) = true := by decide
    have hf : frank (back 18446744073709551615) = 18446744073709551615 := by rw [frank, if_pos hbN]
    go_enter Tryz.func160, Tryz.ntmps160
    go_wp2_with fail
    refine (spec_FloatOf 9221120237041090560 (by omega) _).mono ?_
    rintro e w1 ⟨y, rfl, hy, h1, h2, st⟩
    have hyN : isN y = true := by rw [← h2.out]; decide
    have hr : frank y = 18446744073709551615 := by rw [frank, if_pos hyN]
    go_wp2_with fail
    refine (spec_FloatRank y hy _).mono ?_
    rintro e w2 ⟨rfl, rfl⟩
    rw [hr]
    go_wp2_with fail
    go_ret2
    exact ⟨y, true, rfl, hy, hid (.inl ⟨hf, rfl, .inl ⟨hbN, hyN⟩⟩), st⟩
  · have hkm : ((k : Int) == 18446744073709551615) = false := beq_eq_false_iff_ne.2 (by omega)
    by_cases hge : 9223372036854775808 ≤ k
    · have ht : ((k : Int) / 9223372036854775808 == 1) = true := beq_iff_eq.2 (by omega)
      have hand : bits .and .u64 (k : Int) 9223372036854775807 = (back k : Int) := by
        have := u64_and_nat k 9223372036854775807 hk (by omega)
        rw [show (9223372036854775807 : Nat) = 2 ^ 63 - 1 from rfl, Nat.and_two_pow_sub_one_eq_mod] at this
        rw [back, if_pos hge, show k - 9223372036854775808 = k % 2 ^ 63 by omega]
        exact this
      clear hmax hge
      by_cases hf : frank (back k) = k
      · go_enter Tryz.func160, Tryz.ntmps160
        go_wp2_with fail
        refine (spec_FloatOf (back k) hbl _).mono ?_
        rintro e w1 ⟨y, rfl, hy, h1, h2, st⟩
        have hr := frank_same (back k) y h1.out h2.out
        have hne : ((frank y : Int) != (k : Int)) = false := by rw [hr, hf]; simp
        have hh := hid hr
        clear hr
        go_wp2_with fail
        refine (spec_FloatRank y hy _).mono ?_
        rintro e w2 ⟨rfl, rfl⟩
        go_wp2_with fail
        go_ret2
        exact ⟨y, true, rfl, hy, hid (.inl ⟨hf, rfl, same_of h1.out h2.out⟩), st⟩
      · go_enter Tryz.func160, Tryz.ntmps160
        go_wp2_with fail
        refine (spec_FloatOf (back k) hbl _).mono ?_
        rintro e w1 ⟨y, rfl, hy, h1, h2, st⟩
        have hr := frank_same (back k) y h1.out h2.out
        have hne : ((frank y : Int) != (k : Int)) = true := by rw [hr]; simp; omega
        have hh := hid hr
        clear hr
        go_wp2_with fail
        refine (spec_FloatRank y hy _).mono ?_
        rintro e w2 ⟨rfl, rfl⟩
        go_wp2_with fail
        go_ret2
        exact ⟨0, false, rfl, by omega, hid (.inr ⟨hf, rfl, rfl⟩), st⟩
    · have ht : ((k : Int) / 9223372036854775808 == 1) = false := beq_eq_false_iff_ne.2 (by omega)
      have hnot := not64 k hk
      have eb : 18446744073709551615 - k = back k := by rw [back, if_neg hge]
      rw [eb] at hnot
      clear hmax hge eb
      by_cases hf : frank (back k) = k
      · go_enter Tryz.func160, Tryz.ntmps160
        go_wp2_with fail
        refine (spec_FloatOf (back k) hbl _).mono ?_
        rintro e w1 ⟨y, rfl, hy, h1, h2, st⟩
        have hr := frank_same (back k) y h1.out h2.out
        have hne : ((frank y : Int) != (k : Int)) = false := by rw [hr, hf]; simp
        have hh := hid hr
        clear hr
        go_wp2_with fail
        refine (spec_FloatRank y hy _).mono ?_
        rintro e w2 ⟨rfl, rfl⟩
        go_wp2_with fail
        go_ret2
        exact ⟨y, true, rfl, hy, hid (.inl ⟨hf, rfl, same_of h1.out h2.out⟩), st⟩
      · go_enter Tryz.func160, Tryz.ntmps160
        go_wp2_with fail
        refine (spec_FloatOf (back k) hbl _).mono ?_
        rintro e w1 ⟨y, rfl, hy, h1, h2, st⟩
        have hr := frank_same (back k) y h1.out h2.out
        have hne : ((frank y : Int) != (k : Int)) = true := by rw [hr]; simp; omega
        have hh := hid hr
        clear hr
        go_wp2_with fail
        refine (spec_FloatRank y hy _).mono ?_
        rintro e w2 ⟨rfl, rfl⟩
        go_wp2_with fail
        go_ret2
        exact ⟨0, false, rfl, by omega, hid (.inr ⟨hf, rfl, rfl⟩), st⟩

theorem spec_FloatCompare (x y : Nat) (hx : x < 18446744073709551616) (hy : y < 18446744073709551616) (w : World) :
    Calls Tryz.prog 149 #[.float .f64 x, .float .f64 y] w fun e w' => e = .returned (.int .i64 (cmp3 (frank x) (frank y))) ∧ w' = w := by
  have hrx := spec_FloatRank x hx
  have hry := spec_FloatRank y hy
  generalize frank x = a at *
  generalize frank y = b at *
  rcases Nat.lt_trichotomy a b with h | h | h
  · have ec : cmp3 a b = -1 := by rw [cmp3, if_pos h]
    have h1 : (a : Int) < b := by omega
    clear h
    go_enter Tryz.func149, Tryz.ntmps149
    go_wp2_with fail
    refine (hrx _).mono ?_
    rintro e w1 ⟨rfl, rfl⟩
    go_wp2_with fail
    refine (hry _).mono ?_
    rintro e w1 ⟨rfl, rfl⟩
    go_wp2_with fail
    go_ret
    exact ⟨by rw [ec]; rfl, rfl⟩
  · have ec : cmp3 a b = 0 := by rw [cmp3, if_neg (by omega), if_neg (by omega)]
    subst h
    go_enter Tryz.func149, Tryz.ntmps149
    go_wp2_with fail
    refine (hrx _).mono ?_
    rintro e w1 ⟨rfl, rfl⟩
    go_wp2_with fail
    refine (hry _).mono ?_
    rintro e w1 ⟨rfl, rfl⟩
    go_wp2_with fail
    go_ret
    exact ⟨by rw [ec]; rfl, rfl⟩
  · have ec : cmp3 a b = 1 := by rw [cmp3, if_neg (by omega), if_pos h]
    have h1 : (b : Int) < a := by omega
    clear h
    go_enter Tryz.func149, Tryz.ntmps149
    go_wp2_with fail
    refine (hrx _).mono ?_
    rintro e w1 ⟨rfl, rfl⟩
    go_wp2_with fail
    refine (hry _).mono ?_
    rintro e w1 ⟨rfl, rfl⟩
    go_wp2_with fail
    go_ret
    exact ⟨by rw [ec]; rfl, rfl⟩

end Go.Proofs.YtebhipicfgnajaaGreat
/- Items: what is ItemOk; the contracts of the specification's ItemOk and KeyOk and of the laws' szItem, toItem, eqItem. Conditions: texts of at most 2^21 bytes where memory is made. -/


namespace Go.Proofs.YtebhipicfgnajaaGreat
open Go.RowKit

/-- Whether an item is right. -/
def okI (K N : Int) (f n : Nat) : Bool := decide (0 ≤ K ∧ K ≤ 3 ∧ n ≤ 40 ∧ (K = 1 ∨ N = 0) ∧ (K = 2 ∨ f = 0) ∧ (K = 3 ∨ n = 0))

theorem fbits_zero (f : Nat) : fbits f = 0 ↔ f = 0 := by
  unfold fbits
  split
  · rename_i h
    constructor
    · intro h'; omega
    · intro h'; subst h'; exact absurd h (by decide)
  · exact Iff.rfl

theorem fbits_ne (f : Nat) (h : f ≠ 0) : ((fbits f : Int) != 0) = true := by
  have := fun e => h ((fbits_zero f).1 e)
  simp
  omega

set_option maxRecDepth 100000 in
set_option maxHeartbeats 1600000 in
theorem spec_ItemOk (K N : Int) (f : Nat) (ad : Option Addr) (n cap : Nat) (hf : f < 18446744073709551616) (hn : n ≤ 2097152) (w : World) :
    Calls Tryz.prog 72 #[.agg #[.int .i64 K, .int .i64 N, .float .f64 f, .slice ad n cap]] w fun e w' => e = .returned (.bool (okI K N f n)) ∧ Below w.heap.size w w' := by
  have hA : Below w.heap.size w (w.alloc (.cells #[.int .i64 K, .int .i64 N, .float .f64 f, .slice ad n cap] 29)) := (Below.refl _ _).alloc (Nat.le_refl _) _
  have HA := hid hA
  clear hA
  by_cases h1 : K < 0
  · rw [show okI K N f n = false from decide_eq_false (by omega)]
    go_enter Tryz.func72, Tryz.ntmps72
    go_wp2
    go_ret
    exact ⟨rfl, HA.out⟩
  by_cases h2 : 3 < K
  · rw [show okI K N f n = false from decide_eq_false (by omega)]
    go_enter Tryz.func72, Tryz.ntmps72
    go_wp2
    go_ret
    exact ⟨rfl, HA.out⟩
  by_cases h3 : 40 < n
  · rw [show okI K N f n = false from decide_eq_false (by omega)]
    have h3' : (40 : Int) < (n : Int) := by omega
    go_enter Tryz.func72, Tryz.ntmps72
    go_wp2
    go_ret
    exact ⟨rfl, HA.out⟩
  have h3' : ¬ (40 : Int) < (n : Int) := by omega
  by_cases h4 : K ≠ 1 ∧ N ≠ 0
  · rw [show okI K N f n = false from decide_eq_false (by omega)]
    have q1 : (K != 1) = true := by simp [h4.1]
    have q2 : (N != 0) = true := by simp [h4.2]
    go_enter Tryz.func72, Tryz.ntmps72
    go_wp2
    go_ret
    exact ⟨rfl, HA.out⟩
  by_cases h5 : K = 1
  · subst h5
    by_cases h6 : f = 0
    · subst h6
      have hz : fbits 0 = 0 := by decide
      by_cases h7 : n = 0
      · subst h7
        rw [show okI 1 N 0 0 = true from decide_eq_true (by omega)]
        go_enter Tryz.func72, Tryz.ntmps72
        go_wp2_with fail
        refine (spec_FloatBits 0 hf _).mono ?_
        rintro e w1 ⟨rfl, rfl⟩
        rw [hz]
        go_wp2_with fail
        go_ret
        exact ⟨rfl, HA.out⟩
      · rw [show okI 1 N 0 n = false from decide_eq_false (by omega)]
        have q7 : ((n : Int) == 0) = false := beq_eq_false_iff_ne.2 (by omega)
        go_enter Tryz.func72, Tryz.ntmps72
        go_wp2_with fail
        refine (spec_FloatBits 0 hf _).mono ?_
        rintro e w1 ⟨rfl, rfl⟩
        rw [hz]
        go_wp2_with fail
        go_ret
        exact ⟨rfl, HA.out⟩
    · rw [show okI 1 N f n = false from decide_eq_false (by omega)]
      have q6 : ((fbits f : Int) != 0) = true := fbits_ne f h6
      go_enter Tryz.func72, Tryz.ntmps72
      go_wp2_with fail
      refine (spec_FloatBits f hf _).mono ?_
      rintro e w1 ⟨rfl, rfl⟩
      go_wp2_with fail
      go_ret
      exact ⟨rfl, HA.out⟩
  have h8 : N = 0 := by omega
  subst h8
  have q1 : (K != 1) = true := by simp [h5]
  by_cases h9 : K = 2
  · subst h9
    by_cases h7 : n = 0
    · subst h7
      rw [show okI 2 0 f 0 = true from decide_eq_true (by omega)]
      go_enter Tryz.func72, Tryz.ntmps72
      go_wp2
      go_ret
      exact ⟨rfl, HA.out⟩
    · rw [show okI 2 0 f n = false from decide_eq_false (by omega)]
      have q7 : ((n : Int) == 0) = false := beq_eq_false_iff_ne.2 (by omega)
      go_enter Tryz.func72, Tryz.ntmps72
      go_wp2
      go_ret
      exact ⟨rfl, HA.out⟩
  have q9 : (K != 2) = true := by simp [h9]
  by_cases h6 : f = 0
  · subst h6
    have hz : fbits 0 = 0 := by decide
    by_cases h7 : K = 3
    · subst h7
      rw [show okI 3 0 0 n = true from decide_eq_true (by omega)]
      go_enter Tryz.func72, Tryz.ntmps72
      go_wp2_with fail
      refine (spec_FloatBits 0 hf _).mono ?_
      rintro e w1 ⟨rfl, rfl⟩
      rw [hz]
      go_wp2_with fail
      go_ret
      exact ⟨rfl, HA.out⟩
    · have h10 : K = 0 := by omega
      subst h10
      by_cases h7 : n = 0
      · subst h7
        rw [show okI 0 0 0 0 = true from decide_eq_true (by omega)]
        go_enter Tryz.func72, Tryz.ntmps72
        go_wp2_with fail
        refine (spec_FloatBits 0 hf _).mono ?_
        rintro e w1 ⟨rfl, rfl⟩
        rw [hz]
        go_wp2_with fail
        go_ret
        exact ⟨rfl, HA.out⟩
      · rw [show okI 0 0 0 n = false from decide_eq_false (by omega)]
        have q7 : ((n : Int) == 0) = false := beq_eq_false_iff_ne.2 (by omega)
        go_enter Tryz.func72, Tryz.ntmps72
        go_wp2_with fail
        refine (spec_FloatBits 0 hf _).mono ?_
        rintro e w1 ⟨rfl, rfl⟩
        rw [hz]
        go_wp2_with fail
        go_ret
        exact ⟨rfl, HA.out⟩
  · rw [show okI K 0 f n = false from decide_eq_false (by omega)]
    have q6 : ((fbits f : Int) != 0) = true := fbits_ne f h6
    go_enter Tryz.func72, Tryz.ntmps72
    go_wp2_with fail
    refine (spec_FloatBits f hf _).mono ?_
    rintro e w1 ⟨rfl, rfl⟩
    go_wp2_with fail
    go_ret
    exact ⟨rfl, HA.out⟩

/-- Whether an item is a key. -/
def okK (K N : Int) (f n : Nat) : Bool := okI K N f n && decide (K ≠ 0 ∧ f ≠ 9223372036854775808)
end Go.Proofs.YtebhipicfgnajaaGreat
/- The contracts of the laws' szItem, toItem, eqItem, and of the specification's KeyOk. Conditions: texts of at most 2^21 bytes where memory is made. -/

namespace Go.Proofs.YtebhipicfgnajaaGreat
open Go.RowKit

/-- The cells of an item. -/
def itemC (K N : Int) (f : Nat) (ad : Option Addr) (n cap : Nat) : Array Value := #[.int .i64 K, .int .i64 N, .float .f64 f, .slice ad n cap]
/-- An item in a block of its own. -/
structure Box (w : World) (g : Nat) (K N : Int) (f : Nat) (ad : Option Addr) (n cap : Nat) : Prop where
  c0 : w.cell? ⟨g, 0, none⟩ = some (.int .i64 K)
  c1 : w.cell? ⟨g, 1, none⟩ = some (.int .i64 N)
  c2 : w.cell? ⟨g, 2, none⟩ = some (.float .f64 f)
  c3 : w.cell? ⟨g, 3, none⟩ = some (.slice ad n cap)
theorem Box.new (w : World) (K N : Int) (f : Nat) (ad : Option Addr) (n cap : Nat) (t : TypeId) : Box (w.alloc (.cells #[.int .i64 K, .int .i64 N, .float .f64 f, .slice ad n cap] t)) w.heap.size K N f ad n cap := by
  have h := heap_alloc_new w (.cells #[.int .i64 K, .int .i64 N, .float .f64 f, .slice ad n cap] t)
  refine ⟨?_, ?_, ?_, ?_⟩ <;> (rw [cell_of_row _ _ _ _ _ _ h]; rfl)
theorem Box.below {w w' : World} {g : Nat} {K N : Int} {f : Nat} {ad : Option Addr} {n cap : Nat} (b : Box w g K N f ad n cap) {B : Nat} (h : Below B w w') (hB : g < B) : Box w' g K N f ad n cap :=
  ⟨(h.cell (p := ⟨g, 0, none⟩) hB).trans b.c0, (h.cell (p := ⟨g, 1, none⟩) hB).trans b.c1, (h.cell (p := ⟨g, 2, none⟩) hB).trans b.c2, (h.cell (p := ⟨g, 3, none⟩) hB).trans b.c3⟩

theorem szByteS (ad : Option Addr) (n cap : Nat) (left : Int) (hn : n ≤ 9223372036854775807) (h0 : 0 ≤ left) (h1 : left ≤ 1048576) (w : World) :
    Calls Tryz.prog 100 #[.slice ad n cap, .int .i64 left] w fun e w' => e = .returned (.int .i64 (if left < n then -1 else left - n)) ∧ w' = w := by
  have a1 : (0 : Int) ≤ (n : Int) := by omega
  have a2 : (n : Int) ≤ 9223372036854775807 := by omega
  by_cases h : left < n
  · rw [if_pos h]
    have q : left - (n : Int) < 0 := by omega
    go_enter Tryz.func100, Tryz.ntmps100
    go_wp2
    go_ret
    exact ⟨rfl, rfl⟩
  · rw [if_neg h]
    have q : ¬ left - (n : Int) < 0 := by omega
    go_enter Tryz.func100, Tryz.ntmps100
    go_wp2
    go_ret
    exact ⟨rfl, rfl⟩

theorem szItem (K N : Int) (f : Nat) (ad : Option Addr) (n cap : Nat) (left : Int) (hn : n ≤ 9223372036854775807) (h0 : 0 ≤ left) (h1 : left ≤ 1048576) (w : World) :
    Calls Tryz.prog 35 #[.agg #[.int .i64 K, .int .i64 N, .float .f64 f, .slice ad n cap], .int .i64 left] w fun e w' => e = .returned (.int .i64 (if left < n then -1 else left - n)) ∧ Below w.heap.size w w' := by
  have HA := hid (show Below w.heap.size w (w.alloc (.cells #[.int .i64 K, .int .i64 N, .float .f64 f, .slice ad n cap] 65)) from (Below.refl _ _).alloc (Nat.le_refl _) _)
  by_cases h : left < n
  · rw [if_pos h]
    go_enter Tryz.func35, Tryz.ntmps35
    go_wp2_with fail
    refine (szByteS ad n cap left hn h0 h1 _).mono ?_
    rintro e w1 ⟨rfl, rfl⟩
    rw [if_pos h]
    go_wp2_with fail
    go_ret
    exact ⟨rfl, HA.out⟩
  · rw [if_neg h]
    have q : ¬ left - (n : Int) < 0 := by omega
    have hz := szByteS ad n cap left hn h0 h1
    rw [if_neg h] at hz
    have HZ := hid hz
    clear hz
    go_enter Tryz.func35, Tryz.ntmps35
    go_wp2_with fail
    refine (HZ.out _).mono ?_
    rintro e w1 ⟨rfl, rfl⟩
    go_wp2_with fail
    go_ret
    exact ⟨rfl, HA.out⟩

set_option maxRecDepth 100000 in
set_option maxHeartbeats 1600000 in
theorem spec_KeyOk (K N : Int) (f : Nat) (ad : Option Addr) (n cap : Nat) (hf : f < 18446744073709551616) (hn : n ≤ 2097152) (w : World) :
    Calls Tryz.prog 16 #[.agg #[.int .i64 K, .int .i64 N, .float .f64 f, .slice ad n cap]] w fun e w' => e = .returned (.bool (okK K N f n)) ∧ Below w.heap.size w w' := by
  have hI := spec_ItemOk K N f ad n cap hf hn
  by_cases hok : okI K N f n = true
  · rw [hok] at hI
    by_cases hK : K = 0
    · rw [show okK K N f n = false by rw [okK, decide_eq_false (by omega), Bool.and_false]]
      have q : (K != 0) = false := by simp [hK]
      clear hK hok
      have hA : Below w.heap.size w (w.alloc (.cells #[.int .i64 K, .int .i64 N, .float .f64 f, .slice ad n cap] 29)) := (Below.refl _ _).alloc (Nat.le_refl _) _
      have hB := Box.new w K N f ad n cap 29
      go_enter Tryz.func16, Tryz.ntmps16
      go_wp2_with fail
      refine (hI _).mono ?_
      rintro e w1 ⟨rfl, b1⟩
      obtain ⟨c0, c1, c2, c3⟩ := hB.below b1 (by simp)
      have HA := hid (hA.trans (b1.mono hA.size))
      clear hA hB b1
      go_wp2_with fail
      go_ret
      exact ⟨rfl, HA.out⟩
    have q : (K != 0) = true := by simp [hK]
    by_cases h0 : f = 0
    · subst h0
      rw [show okK K N 0 n = true by rw [okK, hok, decide_eq_true (by omega)]; rfl]
      have o : FloatKind.f64.format.order 0 0 = some .eq := by decide
      have hz : fbits 0 = 0 := by decide
      clear hK hok
      have hA : Below w.heap.size w (w.alloc (.cells #[.int .i64 K, .int .i64 N, .float .f64 0, .slice ad n cap] 29)) := (Below.refl _ _).alloc (Nat.le_refl _) _
      have hB := Box.new w K N 0 ad n cap 29
      go_enter Tryz.func16, Tryz.ntmps16
      go_wp2_with fail
      refine (hI _).mono ?_
      rintro e w1 ⟨rfl, b1⟩
      obtain ⟨c0, c1, c2, c3⟩ := hB.below b1 (by simp)
      have HA := hid (hA.trans (b1.mono hA.size))
      clear hA hB b1
      go_wp2_with fail
      refine (spec_FloatBits 0 hf _).mono ?_
      rintro e w2 ⟨rfl, rfl⟩
      rw [hz]
      go_wp2_with fail
      go_ret
      exact ⟨rfl, HA.out⟩
    by_cases h1 : f = 9223372036854775808
    · subst h1
      rw [show okK K N 9223372036854775808 n = false by rw [okK, decide_eq_false (by omega), Bool.and_false]]
      have o : FloatKind.f64.format.order 9223372036854775808 0 = some .eq := by decide
      have hz : fbits 9223372036854775808 = 9223372036854775808 := by decide
      clear hK hok
      have hA : Below w.heap.size w (w.alloc (.cells #[.int .i64 K, .int .i64 N, .float .f64 9223372036854775808, .slice ad n cap] 29)) := (Below.refl _ _).alloc (Nat.le_refl _) _
      have hB := Box.new w K N 9223372036854775808 ad n cap 29
      go_enter Tryz.func16, Tryz.ntmps16
      go_wp2_with fail
      refine (hI _).mono ?_
      rintro e w1 ⟨rfl, b1⟩
      obtain ⟨c0, c1, c2, c3⟩ := hB.below b1 (by simp)
      have HA := hid (hA.trans (b1.mono hA.size))
      clear hA hB b1
      go_wp2_with fail
      refine (spec_FloatBits 9223372036854775808 hf _).mono ?_
      rintro e w2 ⟨rfl, rfl⟩
      rw [hz]
      go_wp2_with fail
      go_ret
      exact ⟨rfl, HA.out⟩
    rw [show okK K N f n = true by rw [okK, hok, decide_eq_true (by omega)]; rfl]
    have o : FloatKind.f64.format.order f 0 = some .lt ∨ FloatKind.f64.format.order f 0 = some .gt ∨ FloatKind.f64.format.order f 0 = none := by
      by_cases hN : isN f = true
      · exact .inr (.inr (order_l f 0 hf hN))
      · have hN' : isN f = false := by simpa using hN
        have hm := (isN_not f).1 hN'
        by_cases hp : f < 9223372036854775808
        · exact .inr (.inl (order_gt f 0 hf (by omega) hN' isN_zero (by rw [kx_zero, kx, if_pos hp]; omega)))
        · exact .inl (order_lt f 0 hf (by omega) hN' isN_zero (by rw [kx_zero, kx, if_neg hp]; omega))
    clear hK hok h0 h1
    rcases o with o | o | o
    all_goals
      have hA : Below w.heap.size w (w.alloc (.cells #[.int .i64 K, .int .i64 N, .float .f64 f, .slice ad n cap] 29)) := (Below.refl _ _).alloc (Nat.le_refl _) _
      have hB := Box.new w K N f ad n cap 29
      go_enter Tryz.func16, Tryz.ntmps16
      go_wp2_with fail
      refine (hI _).mono ?_
      rintro e w1 ⟨rfl, b1⟩
      obtain ⟨c0, c1, c2, c3⟩ := hB.below b1 (by simp)
      have HA := hid (hA.trans (b1.mono hA.size))
      clear hA hB b1
      go_wp2_with fail
      go_ret
      exact ⟨rfl, HA.out⟩
  · have hok' : okI K N f n = false := by simpa using hok
    rw [hok'] at hI
    rw [show okK K N f n = false by rw [okK, hok']; rfl]
    clear hok hok'
    have hA : Below w.heap.size w (w.alloc (.cells #[.int .i64 K, .int .i64 N, .float .f64 f, .slice ad n cap] 29)) := (Below.refl _ _).alloc (Nat.le_refl _) _
    have hB := Box.new w K N f ad n cap 29
    go_enter Tryz.func16, Tryz.ntmps16
    go_wp2_with fail
    refine (hI _).mono ?_
    rintro e w1 ⟨rfl, b1⟩
    obtain ⟨c0, c1, c2, c3⟩ := hB.below b1 (by simp)
    have HA := hid (hA.trans (b1.mono hA.size))
    clear hA hB b1
    go_wp2_with fail
    go_ret
    exact ⟨rfl, HA.out⟩
end Go.Proofs.YtebhipicfgnajaaGreat
/- The contract of the laws' toItem: the same item with a text of its own. Conditions: texts of at most 2^21 bytes. -/



namespace Go.Proofs.YtebhipicfgnajaaGreat
open Go.RowKit

theorem size29 : (Tryz.prog.info? 29).map (·.size) = some 4 := by kernel_rfl







set_option maxRecDepth 100000 in
set_option maxHeartbeats 1600000 in
theorem toItem (K N : Int) (f : Nat) {ad : Option Addr} {n : Nat} (cap : Nat) {zs : List Int} {w : World} (h : Reads w ad n zs) (hn : n ≤ 2097152) :
    Calls Tryz.prog 38 #[.agg #[.int .i64 K, .int .i64 N, .float .f64 f, .slice ad n cap]] w fun e w' => ∃ g, e = .returned (.agg #[.int .i64 K, .int .i64 N, .float .f64 f, .slice (some ⟨g, 0, none⟩) n n]) ∧ w'.ownsRow w.heap.size 5 1 (.slice (some ⟨g, 0, none⟩) n n) n (bys zs) ∧ Below w.heap.size w w' := by
  have hst := fun w a m => run_store Tryz.prog w a (.float .f64 f) m rfl
  go_enter Tryz.func38, Tryz.ntmps38
  go_wp2_with fail
  obtain ⟨z, R1, R2, bW⟩ := three w (.cells #[.int .i64 K, .int .i64 N, .float .f64 f, .slice ad n cap] 65) (.cells #[.int .i64 0, .int .i64 0, .float .f64 0, .slice none 0 0] 29) (.cells #[.int .i64 K, .int .i64 N, .float .f64 f, .slice none 0 0] 29)
  have zW := hid z
  clear z
  generalize ((w.alloc (.cells #[.int .i64 K, .int .i64 N, .float .f64 f, .slice ad n cap] 65)).alloc (.cells #[.int .i64 0, .int .i64 0, .float .f64 0, .slice none 0 0] 29)).alloc (.cells #[.int .i64 K, .int .i64 N, .float .f64 f, .slice none 0 0] 29) = W at *
  refine (toByteS_any cap (h.below bW (Nat.le_refl _)) hn).mono ?_
  rintro e W1 ⟨rfl, o1, b1⟩
  have hW := zW.out
  have S1 : W1.heap[w.heap.size + 1]? = _ := (b1.block _ (by omega)).trans R1
  have S2 : W1.heap[w.heap.size + 1 + 1]? = _ := (b1.block _ (by omega)).trans R2
  have B1 := bW.trans (b1.mono bW.size)
  have O1 := hid o1
  have HW := hid hW
  clear o1 hW zW R1 R2 bW b1
  have c3 : W1.cell? ⟨w.heap.size + 1 + 1, 3, none⟩ = some (.slice none 0 0) := by rw [cell_of_row _ _ _ _ _ _ S2]; rfl
  have fz : W1.frozen? ⟨w.heap.size + 1 + 1, 3, none⟩ = false := frozen_of_row _ _ _ _ _ S2
  have T2 := hid (heap_setCell_same W1 (w.heap.size + 1 + 1) 3 _ 29 (.slice (some ⟨W.heap.size, 0, none⟩) n n) S2)
  have T1 := hid ((heap_setCell_other W1 ⟨w.heap.size + 1 + 1, 3, none⟩ (w.heap.size + 1) (.slice (some ⟨W.heap.size, 0, none⟩) n n) (by simp)).trans S1)
  have BC := hid (B1.setCell (p := ⟨w.heap.size + 1 + 1, 3, none⟩) (by simp; omega) (.slice (some ⟨W.heap.size, 0, none⟩) n n))
  clear S1 S2
  go_wp2_with (first
    | (refine wpList_load_row rfl 29 (.tmp 3) rfl (w.heap.size + 1 + 1) rfl 29 _ (0, 0) _ T2.out Tryz.underlying29 rfl size29 ?_)
    | (refine wpList_store_row rfl 29 (.tmp 2) (.tmp 17) rfl (w.heap.size + 1) #[.int .i64 K, .int .i64 N, .float .f64 f, .slice (some ⟨W.heap.size, 0, none⟩) n n] rfl rfl 29 _ T1.out ?s1 ?s2 ?s3 ?_))
  case s1 => exact size29
  case s2 => rfl
  case s3 => simp [Value.oneCell']
  have hW := HW.out
  refine bodyPost_ret (results_cell_row Tryz.results38 _ _ (w.heap.size + 1) 29 #[.int .i64 K, .int .i64 N, .float .f64 f, .slice (some ⟨W.heap.size, 0, none⟩) n n] (0, 0) _ rfl (setRow_heap _ _ _ _ _ _ T1.out) Tryz.underlying29 rfl size29) rfl ⟨W.heap.size, rfl, owns_base (owns_at O1.out fun k hk => ?_) (by omega), below_setRow BC.out (by omega) _⟩
  rw [setRow_other _ _ _ _ (by omega), heap_setCell_other _ _ _ _ (by simp; omega)]
end Go.Proofs.YtebhipicfgnajaaGreat
/- The contracts of the laws' eqItem, markItem and heldItem. Conditions: texts of at most 2^21 bytes. -/

namespace Go.Proofs.YtebhipicfgnajaaGreat
open Go.RowKit



set_option maxRecDepth 100000 in
set_option maxHeartbeats 1600000 in
/-- Two items that are the same are told so. -/
theorem eqItem (K N : Int) (f f' : Nat) {ad ad' : Option Addr} {n : Nat} (cap cap' : Nat) {zs : List Int} {w : World} (hf : f < 18446744073709551616) (hf' : f' < 18446744073709551616) (hs : Same f f') (h : Reads w ad n zs) (h' : Reads w ad' n zs) (hn : n ≤ 2097152) :
    Calls Tryz.prog 41 #[.agg #[.int .i64 K, .int .i64 N, .float .f64 f, .slice ad n cap], .agg #[.int .i64 K, .int .i64 N, .float .f64 f', .slice ad' n cap']] w fun e w' => e = .returned (.bool true) ∧ Below w.heap.size w w' := by
  have hB := two w (.cells #[.int .i64 K, .int .i64 N, .float .f64 f, .slice ad n cap] 29) (.cells #[.int .i64 K, .int .i64 N, .float .f64 f', .slice ad' n cap'] 29)
  have H1 := hid (h.below hB (Nat.le_refl _))
  have H2 := hid (h'.below hB (Nat.le_refl _))
  have HB := hid hB
  clear hB h h'
  go_enter Tryz.func41, Tryz.ntmps41
  go_wp2_with fail
  refine (sameFloat_walk f f' hf hf' hs _).mono ?_
  rintro e w1 ⟨rfl, hw⟩
  rw [hw]
  clear hw
  go_wp2_with fail
  refine (eqByteS_any cap cap' H1.out H2.out hn).mono ?_
  rintro e w2 ⟨rfl, st⟩
  go_wp2_with fail
  go_ret
  exact ⟨rfl, HB.out.trans (st.below _)⟩
end Go.Proofs.YtebhipicfgnajaaGreat
/- Texts compared: the contract of the specification's l3texts. Conditions: texts of at most 2^21 bytes. -/

namespace Go.Proofs.YtebhipicfgnajaaGreat
open Go.RowKit

/-- How two texts stand. -/
def txt : List Int → List Int → Int
  | [], [] => 0
  | [], _ :: _ => -1
  | _ :: _, [] => 1
  | x :: xs, y :: ys => if x < y then -1 else if y < x then 1 else txt xs ys

theorem drop_cons (zs : List Int) (k : Nat) (h : k < zs.length) : zs.drop k = zs.getD k 0 :: zs.drop (k + 1) := by
  rw [List.drop_eq_getElem_cons h]
  simp [List.getD, h]
theorem txt_step (zs ys : List Int) (k : Nat) (h : k < zs.length) (h' : k < ys.length) :
    txt (zs.drop k) (ys.drop k) = if zs.getD k 0 < ys.getD k 0 then -1 else if ys.getD k 0 < zs.getD k 0 then 1 else txt (zs.drop (k + 1)) (ys.drop (k + 1)) := by
  rw [drop_cons zs k h, drop_cons ys k h']
  rfl
theorem txt_end (zs ys : List Int) (k : Nat) (hk : k ≤ zs.length) (hk' : k ≤ ys.length) (h : k = zs.length ∨ k = ys.length) :
    txt (zs.drop k) (ys.drop k) = if zs.length < ys.length then -1 else if ys.length < zs.length then 1 else 0 := by
  by_cases h1 : k = zs.length
  · subst h1
    rw [List.drop_length]
    by_cases h2 : zs.length < ys.length
    · rw [if_pos h2, drop_cons ys _ h2]; rfl
    · rw [if_neg h2, if_neg (by omega), List.drop_eq_nil_of_le (by omega)]; rfl
  · have h2 : k = ys.length := by omega
    subst h2
    rw [List.drop_length, if_neg (by omega), if_pos (by omega), drop_cons zs _ (by omega)]; rfl

set_option maxRecDepth 100000 in
set_option maxHeartbeats 1600000 in
theorem spec_l3texts {ad ad' : Option Addr} {n m : Nat} (cap cap' : Nat) {zs ys : List Int} {w : World} (h : Reads w ad n zs) (h' : Reads w ad' m ys) (hn : n ≤ 2097152) :
    Calls Tryz.prog 150 #[.slice ad n cap, .slice ad' m cap'] w fun e w' => e = .returned (.int .i64 (txt zs ys)) ∧ Still w w' := by
  have hl := h.len
  have hl' := h'.len
  go_enter Tryz.func150, Tryz.ntmps150
  go_wp2
  go_loopw [5] (fun i wr => ∃ k d : Nat, k ≤ n ∧ k ≤ m ∧ i = .int .i64 k ∧ Hid (txt zs ys = txt (zs.drop k) (ys.drop k)) ∧ wr = w.drewN d) (fun i _ => n - (intOf i).toNat)
  case atStart => exact ⟨0, 0, Nat.zero_le _, Nat.zero_le _, rfl, hid rfl, rfl⟩
  case round =>
    obtain ⟨k, d, hk, hk', rfl, HT, rfl⟩ := hrel
    have hk0 : (0 : Int) ≤ (k : Int) := by omega
    by_cases hlt : k < n ∧ k < m
    · obtain ⟨g1, g2⟩ := hlt
      have g1' : (k : Int) < (n : Int) := by omega
      have g2' : (k : Int) < (m : Int) := by omega
      rcases h.cells with h0 | ⟨b, off, rfl, hc⟩
      · omega
      rcases h'.cells with h0 | ⟨b', off', rfl, hc'⟩
      · omega
      have c1 := hc k g1
      have c2 := hc' k g2
      have hb := h.bd k
      have hb' := h'.bd k
      have HS := HT.out
      rw [txt_step zs ys k (by omega) (by omega)] at HS
      generalize zs.getD k 0 = x at *
      generalize ys.getD k 0 = y at *
      have HS' := hid HS
      have G := hid (show k < n ∧ k < m from ⟨g1, g2⟩)
      clear hc hc' HS HT g1 g2
      by_cases e1 : x < y
      · go_wp2
        go_quiet (fail)
        go_wp2
        go_ret
        refine ⟨?_, (Still.drewN _ _).trans (Still.drewN _ _)⟩
        rw [HS'.out, if_pos e1]; rfl
      · by_cases e2 : y < x
        · go_wp2
          go_quiet (fail)
          go_wp2
          go_quiet (fail)
          go_wp2
          go_ret
          refine ⟨?_, ((Still.drewN _ _).trans (Still.drewN _ _)).trans (Still.drewN _ _)⟩
          rw [HS'.out, if_neg (by omega), if_pos e2]; rfl
        · go_wp2
          go_quiet (fail)
          go_wp2
          go_quiet (fail)
          go_wp2
          go_roundw
          case rel => exact ⟨k + 1, _, by have := G.out; omega, by have := G.out; omega, by go_num, hid (by rw [HS'.out, if_neg (by omega), if_neg (by omega)]), rfl⟩
          case measure => have := G.out; simp [intOf]; omega
    · have he := txt_end zs ys k (by omega) (by omega) (by omega)
      rw [hl, hl'] at he
      have HE := hid (HT.out.trans he)
      clear HT he h h' hl hl'
      by_cases g1 : k < n
      · have g2 : ¬ k < m := by omega
        have g1' : (k : Int) < (n : Int) := by omega
        have g2' : ¬ (k : Int) < (m : Int) := by omega
        have q1 : ¬ (n : Int) < (m : Int) := by omega
        have q2 : (m : Int) < (n : Int) := by omega
        rw [if_neg (by omega), if_pos (by omega)] at HE
        go_wp2
        go_ret
        exact ⟨by rw [HE.out]; rfl, Still.drewN _ _⟩
      · have g1' : ¬ (k : Int) < (n : Int) := by omega
        by_cases q : n < m
        · have q1 : (n : Int) < (m : Int) := by omega
          rw [if_pos q] at HE
          go_wp2
          go_ret
          exact ⟨by rw [HE.out]; rfl, Still.drewN _ _⟩
        · have q1 : ¬ (n : Int) < (m : Int) := by omega
          have q2 : ¬ (m : Int) < (n : Int) := by omega
          rw [if_neg q, if_neg (by omega)] at HE
          go_wp2
          go_ret
          exact ⟨by rw [HE.out]; rfl, Still.drewN _ _⟩

/-- How two items stand. -/
def cmpI (K N : Int) (f n : Nat) (zs : List Int) (K' N' : Int) (f' n' : Nat) (zs' : List Int) : Int :=
  if okI K N f n = false ∨ okI K' N' f' n' = false then -2
  else if K ≠ K' then (if K < K' then -1 else 1)
  else if N ≠ N' then (if N < N' then -1 else 1)
  else if cmp3 (frank f) (frank f') ≠ 0 then cmp3 (frank f) (frank f')
  else txt zs zs'

set_option maxRecDepth 100000 in
set_option maxHeartbeats 3200000 in
theorem spec_ItemCompare (K N K' N' : Int) (f f' : Nat) {ad ad' : Option Addr} {n n' : Nat} (cap cap' : Nat) {zs zs' : List Int} {w : World} (hf : f < 18446744073709551616) (hf' : f' < 18446744073709551616)
    (h : Reads w ad n zs) (h' : Reads w ad' n' zs') (hn : n ≤ 2097152) (hn' : n' ≤ 2097152) :
    Calls Tryz.prog 101 #[.agg #[.int .i64 K, .int .i64 N, .float .f64 f, .slice ad n cap], .agg #[.int .i64 K', .int .i64 N', .float .f64 f', .slice ad' n' cap']] w fun e w' => e = .returned (.int .i64 (cmpI K N f n zs K' N' f' n' zs')) ∧ Below w.heap.size w w' := by
  have hB := two w (.cells #[.int .i64 K, .int .i64 N, .float .f64 f, .slice ad n cap] 29) (.cells #[.int .i64 K', .int .i64 N', .float .f64 f', .slice ad' n' cap'] 29)
  have z1 := alloc_size w (.cells #[.int .i64 K, .int .i64 N, .float .f64 f, .slice ad n cap] 29)
  have z2 := alloc_size (w.alloc (.cells #[.int .i64 K, .int .i64 N, .float .f64 f, .slice ad n cap] 29)) (.cells #[.int .i64 K', .int .i64 N', .float .f64 f', .slice ad' n' cap'] 29)
  have x1 := (Box.new w K N f ad n cap 29).below ((Below.refl (w.heap.size + 1) _).alloc (by omega) (.cells #[.int .i64 K', .int .i64 N', .float .f64 f', .slice ad' n' cap'] 29)) (by omega)
  have x2 := Box.new (w.alloc (.cells #[.int .i64 K, .int .i64 N, .float .f64 f, .slice ad n cap] 29)) K' N' f' ad' n' cap' 29
  rw [z1] at x2 z2
  have H1 := h.below hB (Nat.le_refl _)
  have H2 := h'.below hB (Nat.le_refl _)
  have e1 := spec_ItemOk K N f ad n cap hf hn
  have e2 := spec_ItemOk K' N' f' ad' n' cap' hf' hn'
  by_cases o1 : okI K N f n = false
  · rw [show cmpI K N f n zs K' N' f' n' zs' = -2 by rw [cmpI, if_pos (.inl o1)]]
    rw [o1] at e1
    go_enter Tryz.func101, Tryz.ntmps101
    go_wp2_with fail
    refine (e1 _).mono ?_
    rintro e w1 ⟨rfl, b1⟩
    have BB := hid (hB.trans (b1.mono hB.size))
    clear hB b1 H1 H2 x1 x2 z1 z2
    go_wp2_with fail
    go_ret
    exact ⟨rfl, BB.out⟩
  have o1' : okI K N f n = true := by simpa using o1
  rw [o1'] at e1
  by_cases o2 : okI K' N' f' n' = false
  · rw [show cmpI K N f n zs K' N' f' n' zs' = -2 by rw [cmpI, if_pos (.inr o2)]]
    rw [o2] at e2
    go_enter Tryz.func101, Tryz.ntmps101
    go_wp2_with fail
    refine (e1 _).mono ?_
    rintro e w1 ⟨rfl, b1⟩
    have B1 := hB.trans (b1.mono hB.size)
    have y1 := x1.below b1 (by omega)
    have y2 := x2.below b1 (by omega)
    have zz := b1.size
    have h1 := H1.below b1 (Nat.le_refl _)
    have h2 := H2.below b1 (Nat.le_refl _)
    obtain ⟨d0, d1, d2, d3⟩ := y2
    have Y1 := hid y1
    have Y2 := hid (x2.below b1 (by omega))
    have ZZ := hid (show w.heap.size + 1 < w1.heap.size by omega)
    clear hB b1 H1 H2 x1 x2 z1 z2 y1 zz
    go_wp2_with fail
    clear d0 d1 d2 d3
    refine (e2 _).mono ?_
    rintro e w2 ⟨rfl, b2⟩
    have BB := B1.trans (b2.mono B1.size)
    have zz := ZZ.out
    obtain ⟨c0, c1, c2, c3⟩ := Y1.out.below b2 (by omega)
    obtain ⟨d0, d1, d2, d3⟩ := Y2.out.below b2 (by omega)
    have h3 := h1.below b2 (Nat.le_refl _)
    have h4 := h2.below b2 (Nat.le_refl _)
    clear B1 b2 Y1 Y2 ZZ zz h1 h2
    go_wp2_with fail
    go_ret
    exact ⟨rfl, BB⟩
  have o2' : okI K' N' f' n' = true := by simpa using o2
  rw [o2'] at e2
  have ho : ¬ (okI K N f n = false ∨ okI K' N' f' n' = false) := fun h => h.elim o1 o2
  clear o1 o2 o1' o2'
  by_cases k1 : K ≠ K'
  · have q : (K != K') = true := by simp [k1]
    by_cases k2 : K < K'
    · rw [show cmpI K N f n zs K' N' f' n' zs' = -1 by rw [cmpI, if_neg ho, if_pos k1, if_pos k2]]
      clear ho k1
      go_enter Tryz.func101, Tryz.ntmps101
      go_wp2_with fail
      refine (e1 _).mono ?_
      rintro e w1 ⟨rfl, b1⟩
      have B1 := hB.trans (b1.mono hB.size)
      have y1 := x1.below b1 (by omega)
      have y2 := x2.below b1 (by omega)
      have zz := b1.size
      have h1 := H1.below b1 (Nat.le_refl _)
      have h2 := H2.below b1 (Nat.le_refl _)
      obtain ⟨d0, d1, d2, d3⟩ := y2
      have Y1 := hid y1
      have Y2 := hid (x2.below b1 (by omega))
      have ZZ := hid (show w.heap.size + 1 < w1.heap.size by omega)
      clear hB b1 H1 H2 x1 x2 z1 z2 y1 zz
      go_wp2_with fail
      clear d0 d1 d2 d3
      refine (e2 _).mono ?_
      rintro e w2 ⟨rfl, b2⟩
      have BB := B1.trans (b2.mono B1.size)
      have zz := ZZ.out
      obtain ⟨c0, c1, c2, c3⟩ := Y1.out.below b2 (by omega)
      obtain ⟨d0, d1, d2, d3⟩ := Y2.out.below b2 (by omega)
      have h3 := h1.below b2 (Nat.le_refl _)
      have h4 := h2.below b2 (Nat.le_refl _)
      clear B1 b2 Y1 Y2 ZZ zz h1 h2
      go_wp2_with fail
      go_ret
      exact ⟨rfl, BB⟩
    · rw [show cmpI K N f n zs K' N' f' n' zs' = 1 by rw [cmpI, if_neg ho, if_pos k1, if_neg k2]]
      clear ho k1
      go_enter Tryz.func101, Tryz.ntmps101
      go_wp2_with fail
      refine (e1 _).mono ?_
      rintro e w1 ⟨rfl, b1⟩
      have B1 := hB.trans (b1.mono hB.size)
      have y1 := x1.below b1 (by omega)
      have y2 := x2.below b1 (by omega)
      have zz := b1.size
      have h1 := H1.below b1 (Nat.le_refl _)
      have h2 := H2.below b1 (Nat.le_refl _)
      obtain ⟨d0, d1, d2, d3⟩ := y2
      have Y1 := hid y1
      have Y2 := hid (x2.below b1 (by omega))
      have ZZ := hid (show w.heap.size + 1 < w1.heap.size by omega)
      clear hB b1 H1 H2 x1 x2 z1 z2 y1 zz
      go_wp2_with fail
      clear d0 d1 d2 d3
      refine (e2 _).mono ?_
      rintro e w2 ⟨rfl, b2⟩
      have BB := B1.trans (b2.mono B1.size)
      have zz := ZZ.out
      obtain ⟨c0, c1, c2, c3⟩ := Y1.out.below b2 (by omega)
      obtain ⟨d0, d1, d2, d3⟩ := Y2.out.below b2 (by omega)
      have h3 := h1.below b2 (Nat.le_refl _)
      have h4 := h2.below b2 (Nat.le_refl _)
      clear B1 b2 Y1 Y2 ZZ zz h1 h2
      go_wp2_with fail
      go_ret
      exact ⟨rfl, BB⟩
  obtain rfl : K = K' := by simpa using k1
  by_cases m1 : N ≠ N'
  · have q : (N != N') = true := by simp [m1]
    by_cases m2 : N < N'
    · rw [show cmpI K N f n zs K N' f' n' zs' = -1 by rw [cmpI, if_neg ho, if_neg k1, if_pos m1, if_pos m2]]
      clear ho k1 m1
      go_enter Tryz.func101, Tryz.ntmps101
      go_wp2_with fail
      refine (e1 _).mono ?_
      rintro e w1 ⟨rfl, b1⟩
      have B1 := hB.trans (b1.mono hB.size)
      have y1 := x1.below b1 (by omega)
      have y2 := x2.below b1 (by omega)
      have zz := b1.size
      have h1 := H1.below b1 (Nat.le_refl _)
      have h2 := H2.below b1 (Nat.le_refl _)
      obtain ⟨d0, d1, d2, d3⟩ := y2
      have Y1 := hid y1
      have Y2 := hid (x2.below b1 (by omega))
      have ZZ := hid (show w.heap.size + 1 < w1.heap.size by omega)
      clear hB b1 H1 H2 x1 x2 z1 z2 y1 zz
      go_wp2_with fail
      clear d0 d1 d2 d3
      refine (e2 _).mono ?_
      rintro e w2 ⟨rfl, b2⟩
      have BB := B1.trans (b2.mono B1.size)
      have zz := ZZ.out
      obtain ⟨c0, c1, c2, c3⟩ := Y1.out.below b2 (by omega)
      obtain ⟨d0, d1, d2, d3⟩ := Y2.out.below b2 (by omega)
      have h3 := h1.below b2 (Nat.le_refl _)
      have h4 := h2.below b2 (Nat.le_refl _)
      clear B1 b2 Y1 Y2 ZZ zz h1 h2
      go_wp2_with fail
      go_ret
      exact ⟨rfl, BB⟩
    · rw [show cmpI K N f n zs K N' f' n' zs' = 1 by rw [cmpI, if_neg ho, if_neg k1, if_pos m1, if_neg m2]]
      clear ho k1 m1
      go_enter Tryz.func101, Tryz.ntmps101
      go_wp2_with fail
      refine (e1 _).mono ?_
      rintro e w1 ⟨rfl, b1⟩
      have B1 := hB.trans (b1.mono hB.size)
      have y1 := x1.below b1 (by omega)
      have y2 := x2.below b1 (by omega)
      have zz := b1.size
      have h1 := H1.below b1 (Nat.le_refl _)
      have h2 := H2.below b1 (Nat.le_refl _)
      obtain ⟨d0, d1, d2, d3⟩ := y2
      have Y1 := hid y1
      have Y2 := hid (x2.below b1 (by omega))
      have ZZ := hid (show w.heap.size + 1 < w1.heap.size by omega)
      clear hB b1 H1 H2 x1 x2 z1 z2 y1 zz
      go_wp2_with fail
      clear d0 d1 d2 d3
      refine (e2 _).mono ?_
      rintro e w2 ⟨rfl, b2⟩
      have BB := B1.trans (b2.mono B1.size)
      have zz := ZZ.out
      obtain ⟨c0, c1, c2, c3⟩ := Y1.out.below b2 (by omega)
      obtain ⟨d0, d1, d2, d3⟩ := Y2.out.below b2 (by omega)
      have h3 := h1.below b2 (Nat.le_refl _)
      have h4 := h2.below b2 (Nat.le_refl _)
      clear B1 b2 Y1 Y2 ZZ zz h1 h2
      go_wp2_with fail
      go_ret
      exact ⟨rfl, BB⟩
  obtain rfl : N = N' := by simpa using m1
  have ef := spec_FloatCompare f f' hf hf'
  by_cases c1 : cmp3 (frank f) (frank f') ≠ 0
  · rw [show cmpI K N f n zs K N f' n' zs' = cmp3 (frank f) (frank f') by rw [cmpI, if_neg ho, if_neg k1, if_neg m1, if_pos c1]]
    have q : (cmp3 (frank f) (frank f') != 0) = true := by simp [c1]
    generalize cmp3 (frank f) (frank f') = C at *
    clear ho k1 m1 c1
    go_enter Tryz.func101, Tryz.ntmps101
    go_wp2_with fail
    refine (e1 _).mono ?_
    rintro e w1 ⟨rfl, b1⟩
    have B1 := hB.trans (b1.mono hB.size)
    have y1 := x1.below b1 (by omega)
    have y2 := x2.below b1 (by omega)
    have zz := b1.size
    have h1 := H1.below b1 (Nat.le_refl _)
    have h2 := H2.below b1 (Nat.le_refl _)
    obtain ⟨d0, d1, d2, d3⟩ := y2
    have Y1 := hid y1
    have Y2 := hid (x2.below b1 (by omega))
    have ZZ := hid (show w.heap.size + 1 < w1.heap.size by omega)
    clear hB b1 H1 H2 x1 x2 z1 z2 y1 zz
    go_wp2_with fail
    clear d0 d1 d2 d3
    refine (e2 _).mono ?_
    rintro e w2 ⟨rfl, b2⟩
    have BB := B1.trans (b2.mono B1.size)
    have zz := ZZ.out
    obtain ⟨c0, c1, c2, c3⟩ := Y1.out.below b2 (by omega)
    obtain ⟨d0, d1, d2, d3⟩ := Y2.out.below b2 (by omega)
    have h3 := h1.below b2 (Nat.le_refl _)
    have h4 := h2.below b2 (Nat.le_refl _)
    clear B1 b2 Y1 Y2 ZZ zz h1 h2
    go_wp2_with fail
    refine (ef _).mono ?_
    rintro e w3 ⟨rfl, rfl⟩
    go_wp2_with fail
    go_ret
    exact ⟨rfl, BB⟩
  · rw [show cmpI K N f n zs K N f' n' zs' = txt zs zs' by rw [cmpI, if_neg ho, if_neg k1, if_neg m1, if_neg c1]]
    have c1' : cmp3 (frank f) (frank f') = 0 := by simpa using c1
    rw [c1'] at ef
    clear ho k1 m1 c1 c1'
    go_enter Tryz.func101, Tryz.ntmps101
    go_wp2_with fail
    refine (e1 _).mono ?_
    rintro e w1 ⟨rfl, b1⟩
    have B1 := hB.trans (b1.mono hB.size)
    have y1 := x1.below b1 (by omega)
    have y2 := x2.below b1 (by omega)
    have zz := b1.size
    have h1 := H1.below b1 (Nat.le_refl _)
    have h2 := H2.below b1 (Nat.le_refl _)
    obtain ⟨d0, d1, d2, d3⟩ := y2
    have Y1 := hid y1
    have Y2 := hid (x2.below b1 (by omega))
    have ZZ := hid (show w.heap.size + 1 < w1.heap.size by omega)
    clear hB b1 H1 H2 x1 x2 z1 z2 y1 zz
    go_wp2_with fail
    clear d0 d1 d2 d3
    refine (e2 _).mono ?_
    rintro e w2 ⟨rfl, b2⟩
    have BB := B1.trans (b2.mono B1.size)
    have zz := ZZ.out
    obtain ⟨c0, c1, c2, c3⟩ := Y1.out.below b2 (by omega)
    obtain ⟨d0, d1, d2, d3⟩ := Y2.out.below b2 (by omega)
    have h3 := h1.below b2 (Nat.le_refl _)
    have h4 := h2.below b2 (Nat.le_refl _)
    clear B1 b2 Y1 Y2 ZZ zz h1 h2
    go_wp2_with fail
    refine (ef _).mono ?_
    rintro e w3 ⟨rfl, rfl⟩
    go_wp2_with fail
    refine (spec_l3texts cap cap' h3 h4 hn).mono ?_
    rintro e w4 ⟨rfl, st⟩
    go_wp2_with fail
    go_ret
    exact ⟨rfl, BB.trans (st.below _)⟩
end Go.Proofs.YtebhipicfgnajaaGreat
/- The contracts of the laws' markItem and heldItem. Conditions: texts of at most 2^21 bytes. -/

namespace Go.Proofs.YtebhipicfgnajaaGreat
open Go.RowKit

theorem markItem (K N : Int) (f : Nat) {base n cap : Nat} {ad : Option Addr} (k : Int) {xs : List Value} {w : World} (hn : n ≤ 2097152) (hk0 : 0 ≤ k) (hk1 : k ≤ 1000000000) (hown : w.ownsRow base 5 1 (.slice ad n cap) n xs) :
    Calls Tryz.prog 43 #[.agg #[.int .i64 K, .int .i64 N, .float .f64 f, .slice ad n cap], .int .i64 k] w fun e w' =>
      e = .returned (.int .i64 (k + n)) ∧ w'.ownsRow base 5 1 (.slice ad n cap) n (bys (marks k n)) ∧ w.grownBy w' (Value.slice ad n cap).ownBlock := by
  have o1 := hown.alloc (.cells #[.int .i64 K, .int .i64 N, .float .f64 f, .slice ad n cap] 29)
  have g1 := World.grownBy_alloc w (.cells #[.int .i64 K, .int .i64 N, .float .f64 f, .slice ad n cap] 29) (Value.slice ad n cap).ownBlock
  have O1 := hid o1
  clear o1
  go_enter Tryz.func43, Tryz.ntmps43
  go_wp2_with fail
  refine (markByteS_any k hn hk0 hk1 O1.out).mono ?_
  rintro e w1 ⟨rfl, o2, g2⟩
  go_wp2_with fail
  go_ret
  exact ⟨rfl, o2, grown_trans g1 g2⟩

end Go.Proofs.YtebhipicfgnajaaGreat
/- Eight bytes, high first: the contract of the specification's l3high. No conditions. -/

namespace Go.Proofs.YtebhipicfgnajaaGreat
open Go.RowKit

/-- The byte at place j of eight, high first. -/
def hb (x j : Nat) : Int := ((x / 2 ^ (8 * (7 - j)) % 256 : Nat) : Int)
def hi8 (x k : Nat) : List Int := (List.range k).map (hb x)
theorem hi8_succ (x k : Nat) : hi8 x (k + 1) = hi8 x k ++ [hb x k] := by simp [hi8, List.range_succ]
theorem hi8_length (x k : Nat) : (hi8 x k).length = k := by simp [hi8]
theorem hb_bd (x j : Nat) : 0 ≤ hb x j ∧ hb x j ≤ 255 := by unfold hb; omega

theorem shr_eq (x i : Nat) : (x : Int) / 2 ^ (8 * (i : Int)).toNat = ((x / 2 ^ (8 * i) : Nat) : Int) := by
  rw [show (8 * (i : Int)).toNat = 8 * i by omega]
  simp
theorem and_byte (y : Nat) (h : y < 18446744073709551616) : bits .and .u64 (y : Int) 255 = ((y % 256 : Nat) : Int) := by
  have := u64_and_nat y 255 h (by omega)
  rw [nat_mask8] at this
  exact this

set_option maxRecDepth 100000 in
set_option maxHeartbeats 3200000 in
theorem spec_l3high (x : Nat) (hx : x < 18446744073709551616) (w : World) :
    Calls Tryz.prog 169 #[.int .u64 x] w fun e w' => ∃ v, e = .returned v ∧ w'.ownsRow w.heap.size 5 1 v 8 (bys (hi8 x 8)) ∧ Below w.heap.size w w' := by
  obtain ⟨i0, hi, hz0, hz1, hz2⟩ := info_parts Tryz.info5
  go_enter Tryz.func169, Tryz.ntmps169
  go_wp2_with fail
  go_loopw [3, 4] (fun v i wr => ∃ k : Nat, k ≤ 8 ∧ i = .int .i64 (7 - (k : Int)) ∧ wr.ownsRow w.heap.size 5 1 v k (bys (hi8 x k)) ∧ Below w.heap.size w wr) (fun _ i _ => (intOf i + 1).toNat)
  case atStart => exact ⟨0, by omega, rfl, World.ownsRow_nil _ _ _ _, Below.refl _ _⟩
  case round =>
    obtain ⟨k, hk, rfl, hown, hb1⟩ := hrel
    by_cases hlt : k < 8
    · obtain ⟨i, hi7⟩ : ∃ i : Nat, 7 - (k : Int) = (i : Int) := ⟨7 - k, by omega⟩
      have hi0 : (0 : Int) ≤ (i : Int) := by omega
      have hi1 : (i : Int) ≤ 7 := by omega
      have hs := shr_eq x i
      have hlq : x / 2 ^ (8 * i) < 18446744073709551616 := Nat.lt_of_le_of_lt (Nat.div_le_self _ _) hx
      have ha := and_byte (x / 2 ^ (8 * i)) hlq
      have hbx : hb x k = ((x / 2 ^ (8 * i) % 256 : Nat) : Int) := by rw [hb, show 7 - k = i by omega]
      have hy := hb_bd x k
      rw [← hbx] at ha
      have z1 := hb1.size
      have HX := hid hbx
      have EI := hid hi7
      rw [hi7]
      generalize x / 2 ^ (8 * i) = q at *
      obtain ⟨y, HY⟩ : ∃ y, Hid (hb x k = y) := ⟨_, rfl⟩
      have hyy := HY.out
      rw [hyy] at ha hy
      clear hyy
      clear hbx hlq hi7
      go_wp2_with (at_builtin; refine wpList_append_own _ rfl _ _ 22 rfl w.heap.size 5 i0 (.int .u8 0) 1 1 Tryz.underlying22 hi hz0 hz1 hz2 rfl (by decide) _ _ _ rfl (hown.alloc _) ⟨wr.heap.size, 0, none⟩ 1 1 [.int .u8 y] rfl rfl (cell_one_new _ _ _) ?c2 ?c3 ?c4 ?c5 ?_)
      case c2 => intro u hu; simp at hu; subst hu; rfl
      case c3 => unfold maxLen; omega
      case c4 => omega
      case c5 => simp; omega
      intro v' w9 o3 g3 _
      have B9 : Below w.heap.size w w9 := (hb1.alloc z1 _).grown g3 (by simp; omega) (fun r hr => (hown.lt r hr).1)
      have O3 := hid o3
      clear g3 o3 hown hb1
      go_wp2_with fail
      go_roundw
      case rel => exact ⟨k + 1, by omega, by have := EI.out; go_num, by rw [hi8_succ, bys_append, HY.out]; exact O3.out, B9⟩
      case measure => have := EI.out; simp [intOf]
    · have hk8 : k = 8 := by omega
      subst hk8
      go_wp2_with fail
      go_ret
      exact ⟨_, rfl, hown, hb1⟩
end Go.Proofs.YtebhipicfgnajaaGreat
/- An item as bytes: the contracts of the specification's l3bytes. Conditions: texts of at most 2^21 bytes. -/


namespace Go.Proofs.YtebhipicfgnajaaGreat
open Go.RowKit

theorem xor_top (N : Int) (h0 : -9223372036854775808 ≤ N) (h1 : N ≤ 9223372036854775807) : bits .xor .u64 (IntKind.u64.wrap N) 9223372036854775808 = (((N + 9223372036854775808).toNat : Nat) : Int) := by
  have e : IntKind.u64.wrap N = N % 18446744073709551616 := by simp [IntKind.wrap, IntKind.bits, IntKind.signed]
  rw [e]
  by_cases hN : 0 ≤ N
  · obtain ⟨m, rfl⟩ := Int.eq_ofNat_of_zero_le hN
    rw [show (m : Int) % 18446744073709551616 = (m : Int) by omega]
    have h := u64_xor_nat m 9223372036854775808 (by omega) (by omega)
    have hx : m ^^^ 9223372036854775808 = 9223372036854775808 + m := neg_bits' m (by omega)
    rw [hx] at h
    rw [show ((m : Int) + 9223372036854775808).toNat = 9223372036854775808 + m by omega]
    exact h
  · obtain ⟨m, hm⟩ := Int.eq_ofNat_of_zero_le (show 0 ≤ N + 9223372036854775808 by omega)
    rw [show N % 18446744073709551616 = ((9223372036854775808 + m : Nat) : Int) by omega, hm]
    have h := u64_xor_nat (9223372036854775808 + m) 9223372036854775808 (by omega) (by omega)
    have hx : (9223372036854775808 + m) ^^^ 9223372036854775808 = m := neg_bits m (by omega)
    rw [hx] at h
    exact h

/-- An item's bytes, with these bits of its float. -/
def bytesI (K N : Int) (B : Nat) (zs : List Int) : List Int := [K] ++ (if K = 1 then hi8 (N + 9223372036854775808).toNat 8 else if K = 2 then hi8 B 8 else zs)

theorem hi8_bd (x k : Nat) : ∀ i, 0 ≤ (hi8 x k).getD i 0 ∧ (hi8 x k).getD i 0 ≤ 255 := by
  intro i
  by_cases h : i < k
  · simp only [hi8, List.getD, List.getElem?_map, List.getElem?_range h, Option.map_some, Option.getD_some]
    exact hb_bd x i
  · simp [hi8, List.getD, h]

set_option maxRecDepth 100000 in
set_option maxHeartbeats 3200000 in
theorem spec_l3bytes_float (N : Int) (f : Nat) (ad : Option Addr) (n cap B : Nat) (hB : B < 18446744073709551616) (w : World) :
    Calls Tryz.prog 133 #[.agg #[.int .i64 2, .int .i64 N, .float .f64 f, .slice ad n cap], .int .u64 B] w fun e w' => ∃ v, e = .returned v ∧ w'.ownsRow w.heap.size 5 1 v 9 (bys ([2] ++ hi8 B 8)) ∧ Below w.heap.size w w' := by
  obtain ⟨i0, hi, hz0, hz1, hz2⟩ := info_parts Tryz.info5
  have z1 := alloc_size w (.cells #[.int .i64 2, .int .i64 N, .float .f64 f, .slice ad n cap] 29)
  have o5 := World.ownsRow_lit (base := w.heap.size) (e := 5) (size := 1) (w.alloc (.cells #[.int .i64 2, .int .i64 N, .float .f64 f, .slice ad n cap] 29)) #[.int .u8 2] 1 (by omega) (by unfold maxLen; omega) rfl
  have hT := two w (.cells #[.int .i64 2, .int .i64 N, .float .f64 f, .slice ad n cap] 29) (.cells #[.int .u8 2] 5)
  rw [z1] at o5
  have O5 := hid o5
  clear o5 z1
  go_enter Tryz.func133, Tryz.ntmps133
  go_wp2_with fail
  generalize (w.alloc (.cells #[.int .i64 2, .int .i64 N, .float .f64 f, .slice ad n cap] 29)).alloc (.cells #[.int .u8 2] 5) = w1 at *
  refine (spec_l3high B hB _).mono ?_
  rintro e w2 ⟨v, rfl, o2, b2⟩
  obtain ⟨ad2, cap2, rfl, r2, d2⟩ := Reads.own o2 (hi8_bd B 8)
  obtain ⟨bL, oL, rfl⟩ := r2.pos (by omega)
  have o6 := owns_below b2 (Nat.le_refl _) O5.out
  have B2 := hT.trans (b2.mono hT.size)
  have R2 := hid r2
  clear o2 d2 r2 b2 O5
  go_wp2_with (at_builtin; refine wpList_append_own _ rfl _ _ 22 rfl w.heap.size 5 i0 (.int .u8 0) 1 1 Tryz.underlying22 hi hz0 hz1 hz2 rfl (by decide) _ _ _ rfl o6 ⟨bL, oL, none⟩ 8 cap2 (bys (hi8 B 8)) rfl ?k2 R2.out.news (bys_one _) ?k4 ?k5 ?k6 ?_)
  case k2 => rw [bys_length, hi8_length]
  case k4 => unfold maxLen; omega
  case k5 => omega
  case k6 => exact B2.size
  intro v7 w7 o7 g7 _
  have B7 : Below w.heap.size w w7 := B2.grown g7 B2.size (fun k hk => (o6.lt k hk).1)
  have O7 := hid o7
  clear o7 g7 o6
  go_wp2_with fail
  go_ret
  exact ⟨_, rfl, by have := O7.out; simpa [bys] using this, B7⟩
set_option maxRecDepth 100000 in
set_option maxHeartbeats 3200000 in
theorem spec_l3bytes_int (N : Int) (hN0 : -9223372036854775808 ≤ N) (hN1 : N ≤ 9223372036854775807) (f : Nat) (ad : Option Addr) (n cap B : Nat) (w : World) :
    Calls Tryz.prog 133 #[.agg #[.int .i64 1, .int .i64 N, .float .f64 f, .slice ad n cap], .int .u64 B] w fun e w' => ∃ v, e = .returned v ∧ w'.ownsRow w.heap.size 5 1 v 9 (bys ([1] ++ hi8 (N + 9223372036854775808).toNat 8)) ∧ Below w.heap.size w w' := by
  obtain ⟨i0, hi, hz0, hz1, hz2⟩ := info_parts Tryz.info5
  have hx := xor_top N hN0 hN1
  have hX : (N + 9223372036854775808).toNat < 18446744073709551616 := by omega
  generalize (N + 9223372036854775808).toNat = X at *
  have z1 := alloc_size w (.cells #[.int .i64 1, .int .i64 N, .float .f64 f, .slice ad n cap] 29)
  have o5 := World.ownsRow_lit (base := w.heap.size) (e := 5) (size := 1) (w.alloc (.cells #[.int .i64 1, .int .i64 N, .float .f64 f, .slice ad n cap] 29)) #[.int .u8 1] 1 (by omega) (by unfold maxLen; omega) rfl
  have hT := two w (.cells #[.int .i64 1, .int .i64 N, .float .f64 f, .slice ad n cap] 29) (.cells #[.int .u8 1] 5)
  rw [z1] at o5
  have O5 := hid o5
  clear o5 z1
  go_enter Tryz.func133, Tryz.ntmps133
  go_wp2_with fail
  generalize (w.alloc (.cells #[.int .i64 1, .int .i64 N, .float .f64 f, .slice ad n cap] 29)).alloc (.cells #[.int .u8 1] 5) = w1 at *
  refine (spec_l3high X hX _).mono ?_
  rintro e w2 ⟨v, rfl, o2, b2⟩
  obtain ⟨ad2, cap2, rfl, r2, d2⟩ := Reads.own o2 (hi8_bd X 8)
  obtain ⟨bL, oL, rfl⟩ := r2.pos (by omega)
  have o6 := owns_below b2 (Nat.le_refl _) O5.out
  have B2 := hT.trans (b2.mono hT.size)
  have R2 := hid r2
  clear o2 d2 r2 b2 O5
  go_wp2_with (at_builtin; refine wpList_append_own _ rfl _ _ 22 rfl w.heap.size 5 i0 (.int .u8 0) 1 1 Tryz.underlying22 hi hz0 hz1 hz2 rfl (by decide) _ _ _ rfl o6 ⟨bL, oL, none⟩ 8 cap2 (bys (hi8 X 8)) rfl ?k2 R2.out.news (bys_one _) ?k4 ?k5 ?k6 ?_)
  case k2 => rw [bys_length, hi8_length]
  case k4 => unfold maxLen; omega
  case k5 => omega
  case k6 => exact B2.size
  intro v7 w7 o7 g7 _
  have B7 : Below w.heap.size w w7 := B2.grown g7 B2.size (fun k hk => (o6.lt k hk).1)
  have O7 := hid o7
  clear o7 g7 o6
  go_wp2_with fail
  go_ret
  exact ⟨_, rfl, by have := O7.out; simpa [bys] using this, B7⟩

set_option maxRecDepth 100000 in
set_option maxHeartbeats 3200000 in
theorem spec_l3bytes_text (N : Int) (f : Nat) {ad : Option Addr} {n : Nat} (cap B : Nat) (hnil : ad = none → cap = 0) {zs : List Int} {w : World} (h : Reads w ad n zs) (hn : n ≤ 2097152) :
    Calls Tryz.prog 133 #[.agg #[.int .i64 3, .int .i64 N, .float .f64 f, .slice ad n cap], .int .u64 B] w fun e w' => ∃ v, e = .returned v ∧ w'.ownsRow w.heap.size 5 1 v (1 + n) (bys ([3] ++ zs)) ∧ Below w.heap.size w w' := by
  obtain ⟨i0, hi, hz0, hz1, hz2⟩ := info_parts Tryz.info5
  have hl := h.len
  have z1 := alloc_size w (.cells #[.int .i64 3, .int .i64 N, .float .f64 f, .slice ad n cap] 29)
  have o5 := World.ownsRow_lit (base := w.heap.size) (e := 5) (size := 1) (w.alloc (.cells #[.int .i64 3, .int .i64 N, .float .f64 f, .slice ad n cap] 29)) #[.int .u8 3] 1 (by omega) (by unfold maxLen; omega) rfl
  have hT := two w (.cells #[.int .i64 3, .int .i64 N, .float .f64 f, .slice ad n cap] 29) (.cells #[.int .u8 3] 5)
  have r2 := h.below hT (Nat.le_refl _)
  rw [z1] at o5
  have zz := hT.size
  have O5 := hid o5
  have R2 := hid r2
  have HT := hid hT
  have ZZ := hid zz
  clear o5 z1 r2 hT zz
  rcases hc : ad with _ | a
  · subst hc
    obtain rfl := hnil rfl
    obtain rfl : n = 0 := by
      rcases h.cells with h0 | ⟨b, off, e, _⟩
      · exact h0
      · cases e
    obtain rfl : zs = [] := List.eq_nil_of_length_eq_zero hl
    clear h
    go_enter Tryz.func133, Tryz.ntmps133
    go_wp2_with (at_builtin; refine wpList_append_own_none rfl _ _ 22 rfl w.heap.size 5 i0 1 Tryz.underlying22 hi _ _ _ rfl O5.out rfl ?_)
    go_ret
    exact ⟨_, rfl, by have := O5.out; simpa [bys] using this, HT.out⟩
  · subst hc
    clear h
    go_enter Tryz.func133, Tryz.ntmps133
    go_wp2_with (at_builtin; refine wpList_append_own _ rfl _ _ 22 rfl w.heap.size 5 i0 (.int .u8 0) 1 1 Tryz.underlying22 hi hz0 hz1 hz2 rfl (by decide) _ _ _ rfl O5.out a n cap (bys zs) rfl ?k2 R2.out.news (bys_one _) ?k4 ?k5 ?k6 ?_)
    case k2 => simp [bys_length, hl]
    case k4 => unfold maxLen; omega
    case k5 => omega
    case k6 => omega
    intro v7 w7 o7 g7 _
    have B7 : Below w.heap.size w w7 := HT.out.grown g7 ZZ.out (fun k hk => (O5.out.lt k hk).1)
    have O7 := hid o7
    clear o7 g7
    go_wp2_with fail
    go_ret
    exact ⟨_, rfl, by have := O7.out; simpa [bys] using this, B7⟩
end Go.Proofs.YtebhipicfgnajaaGreat
/- The contract of the specification's KeyBytes. Conditions: texts of at most 2^21 bytes. -/


namespace Go.Proofs.YtebhipicfgnajaaGreat
open Go.RowKit

/-- A key's bytes. -/
def keyB (K N : Int) (f n : Nat) (zs : List Int) : List Int := if okK K N f n = true then bytesI K N (frank f) zs else []

set_option maxRecDepth 100000 in
set_option maxHeartbeats 3200000 in
theorem spec_l3bytes (K N : Int) (f B : Nat) {ad : Option Addr} {n : Nat} (cap : Nat) (hnil : ad = none → cap = 0) {zs : List Int} {w : World} (h : Reads w ad n zs) (hn : n ≤ 2097152) (hN0 : -9223372036854775808 ≤ N) (hN1 : N ≤ 9223372036854775807) (hB : B < 18446744073709551616) (hK : K = 1 ∨ K = 2 ∨ K = 3) :
    Calls Tryz.prog 133 #[.agg #[.int .i64 K, .int .i64 N, .float .f64 f, .slice ad n cap], .int .u64 B] w fun e w' => ∃ v, e = .returned v ∧ w'.ownsRow w.heap.size 5 1 v (bytesI K N B zs).length (bys (bytesI K N B zs)) ∧ Below w.heap.size w w' := by
  rcases hK with rfl | rfl | rfl
  · have e : bytesI 1 N B zs = [1] ++ hi8 (N + 9223372036854775808).toNat 8 := by rw [bytesI, if_pos rfl]
    have hl : ([1] ++ hi8 (N + 9223372036854775808).toNat 8 : List Int).length = 9 := by simp [hi8_length]
    rw [e, hl]
    exact spec_l3bytes_int N hN0 hN1 f ad n cap B w
  · have e : bytesI 2 N B zs = [2] ++ hi8 B 8 := by rw [bytesI, if_neg (by decide), if_pos rfl]
    have hl : ([2] ++ hi8 B 8 : List Int).length = 9 := by simp [hi8_length]
    rw [e, hl]
    exact spec_l3bytes_float N f ad n cap B hB w
  · have e : bytesI 3 N B zs = [3] ++ zs := by rw [bytesI, if_neg (by decide), if_neg (by decide)]
    have hl : ([3] ++ zs : List Int).length = 1 + n := by simp [h.len]; omega
    rw [e, hl]
    exact spec_l3bytes_text N f cap B hnil h hn

set_option maxRecDepth 100000 in
set_option maxHeartbeats 3200000 in
theorem spec_KeyBytes (K N : Int) (f : Nat) {ad : Option Addr} {n : Nat} (cap : Nat) (hnil : ad = none → cap = 0) {zs : List Int} {w : World} (h : Reads w ad n zs) (hn : n ≤ 2097152) (hN0 : -9223372036854775808 ≤ N) (hN1 : N ≤ 9223372036854775807) (hf : f < 18446744073709551616) :
    Calls Tryz.prog 80 #[.agg #[.int .i64 K, .int .i64 N, .float .f64 f, .slice ad n cap]] w fun e w' => ∃ v, e = .returned v ∧ w'.ownsRow w.heap.size 5 1 v (keyB K N f n zs).length (bys (keyB K N f n zs)) ∧ Below w.heap.size w w' := by
  have hA : Below w.heap.size w (w.alloc (.cells #[.int .i64 K, .int .i64 N, .float .f64 f, .slice ad n cap] 29)) := (Below.refl _ _).alloc (Nat.le_refl _) _
  have hX := Box.new w K N f ad n cap 29
  have h0 := h.below hA (Nat.le_refl _)
  have z1 := alloc_size w (.cells #[.int .i64 K, .int .i64 N, .float .f64 f, .slice ad n cap] 29)
  have hI := spec_KeyOk K N f ad n cap hf hn
  by_cases hok : okK K N f n = true
  · have e : keyB K N f n zs = bytesI K N (frank f) zs := by rw [keyB, if_pos hok]
    rw [e]
    rw [hok] at hI
    have hK : K = 1 ∨ K = 2 ∨ K = 3 := by
      simp only [okK, okI, Bool.and_eq_true, decide_eq_true_eq] at hok
      omega
    clear e
    go_enter Tryz.func80, Tryz.ntmps80
    go_wp2_with fail
    refine (hI _).mono ?_
    rintro e w1 ⟨rfl, b1⟩
    have B1 := hA.trans (b1.mono hA.size)
    obtain ⟨c0, c1, c2, c3⟩ := hX.below b1 (by omega)
    have h1 := hid (h0.below b1 (Nat.le_refl _))
    have hr := hid (spec_FloatRank f hf)
    have hfl := frank_lt f hf
    have HB := hid (fun (W : World) (hW : Reads W ad n zs) => spec_l3bytes K N f (frank f) cap hnil hW hn hN0 hN1 hfl hK)
    have HB1 := hid B1
    have X1 := hid (hX.below b1 (by omega))
    have ZZ := hid (show w.heap.size < w1.heap.size by have := b1.size; omega)
    clear hA b1 B1 hX h0 z1 hI h hK hok hnil
    go_wp2_with fail
    go_region_held3 (fun W => W.cell? ⟨w.heap.size, 0, none⟩ = some (.int .i64 K) ∧ W.cell? ⟨w.heap.size, 1, none⟩ = some (.int .i64 N) ∧ W.cell? ⟨w.heap.size, 2, none⟩ = some (.float .f64 f) ∧ W.cell? ⟨w.heap.size, 3, none⟩ = some (.slice ad n cap)) (first | exact ⟨k0, k1, k2, k3⟩ | exact ⟨by simpa using c0, by simpa using c1, by simpa using c2, by simpa using c3⟩) (first
      | (go_at_call 134; refine (hr.out _).mono ?_; rintro e w2 ⟨rfl, rfl⟩)
      | (go_at_call 133; refine (HB.out _ (h1.out.below ((Still.drewN w1 _).below _) (Nat.le_refl _))).mono ?_; rintro e w3 ⟨v, rfl, o3, b3⟩; obtain ⟨k0, k1, k2, k3⟩ := (X1.out.below ((Still.drewN w1 _).below w1.heap.size) ZZ.out).below b3 ZZ.out))
    have B3 : Below w.heap.size w w3 := (HB1.out.trans ((Still.drewN w1 _).below _)).trans (b3.mono (by have := ZZ.out; show w.heap.size ≤ w1.heap.size; omega))
    have O3 := hid (owns_base (base' := w.heap.size) o3 (by have := ZZ.out; show w.heap.size ≤ w1.heap.size; omega))
    clear o3 b3
    go_wp2_with fail
    go_ret
    exact ⟨_, rfl, O3.out, B3⟩
  · have e : keyB K N f n zs = [] := by rw [keyB, if_neg hok]
    have hok' : okK K N f n = false := by simpa using hok
    rw [e]
    rw [hok'] at hI
    go_enter Tryz.func80, Tryz.ntmps80
    go_wp2_with fail
    refine (hI _).mono ?_
    rintro e w1 ⟨rfl, b1⟩
    have B1 := hA.trans (b1.mono hA.size)
    clear hA b1 hX h0 z1
    go_wp2_with fail
    go_ret
    exact ⟨_, rfl, World.ownsRow_nil _ _ _ _, B1⟩
end Go.Proofs.YtebhipicfgnajaaGreat
/- Values' bytes, bytes read low and high, the bounds of keys' and values' bytes: four texts in one. -/

section
namespace Go.Proofs.YtebhipicfgnajaaGreat
open Go.RowKit

/-- A value's bytes. -/
def valB (K N : Int) (f n : Nat) (zs : List Int) : List Int := if okI K N f n = true ∧ K ≠ 0 then bytesI K N (fbits f) zs else []

set_option maxRecDepth 100000 in
set_option maxHeartbeats 3200000 in
theorem spec_ValueBytes (K N : Int) (f : Nat) {ad : Option Addr} {n : Nat} (cap : Nat) (hnil : ad = none → cap = 0) {zs : List Int} {w : World} (h : Reads w ad n zs) (hn : n ≤ 2097152) (hN0 : -9223372036854775808 ≤ N) (hN1 : N ≤ 9223372036854775807) (hf : f < 18446744073709551616) :
    Calls Tryz.prog 81 #[.agg #[.int .i64 K, .int .i64 N, .float .f64 f, .slice ad n cap]] w fun e w' => ∃ v, e = .returned v ∧ w'.ownsRow w.heap.size 5 1 v (valB K N f n zs).length (bys (valB K N f n zs)) ∧ Below w.heap.size w w' := by
  have hA : Below w.heap.size w (w.alloc (.cells #[.int .i64 K, .int .i64 N, .float .f64 f, .slice ad n cap] 29)) := (Below.refl _ _).alloc (Nat.le_refl _) _
  have hX := Box.new w K N f ad n cap 29
  have h0 := h.below hA (Nat.le_refl _)
  have z1 := alloc_size w (.cells #[.int .i64 K, .int .i64 N, .float .f64 f, .slice ad n cap] 29)
  have hI := spec_ItemOk K N f ad n cap hf hn
  by_cases hok : okI K N f n = true ∧ K ≠ 0
  · have e : valB K N f n zs = bytesI K N (fbits f) zs := by rw [valB, if_pos hok]
    rw [e]
    obtain ⟨hok1, hok2⟩ := hok
    rw [hok1] at hI
    have q : (K == 0) = false := beq_eq_false_iff_ne.2 hok2
    have hK : K = 1 ∨ K = 2 ∨ K = 3 := by
      simp only [okI, decide_eq_true_eq] at hok1
      omega
    clear e
    go_enter Tryz.func81, Tryz.ntmps81
    go_wp2_with fail
    refine (hI _).mono ?_
    rintro e w1 ⟨rfl, b1⟩
    have B1 := hA.trans (b1.mono hA.size)
    obtain ⟨c0, c1, c2, c3⟩ := hX.below b1 (by omega)
    have h1 := hid (h0.below b1 (Nat.le_refl _))
    have hr := hid (spec_FloatBits f hf)
    have hfl := fbits_lt f hf
    have HB := hid (fun (W : World) (hW : Reads W ad n zs) => spec_l3bytes K N f (fbits f) cap hnil hW hn hN0 hN1 hfl hK)
    have HB1 := hid B1
    have X1 := hid (hX.below b1 (by omega))
    have ZZ := hid (show w.heap.size < w1.heap.size by have := b1.size; omega)
    clear hA b1 B1 hX h0 z1 hI h hK hok1 hok2 hnil
    go_wp2_with fail
    go_region_held3 (fun W => W.cell? ⟨w.heap.size, 0, none⟩ = some (.int .i64 K) ∧ W.cell? ⟨w.heap.size, 1, none⟩ = some (.int .i64 N) ∧ W.cell? ⟨w.heap.size, 2, none⟩ = some (.float .f64 f) ∧ W.cell? ⟨w.heap.size, 3, none⟩ = some (.slice ad n cap)) (first | exact ⟨k0, k1, k2, k3⟩ | exact ⟨by simpa using c0, by simpa using c1, by simpa using c2, by simpa using c3⟩) (first
      | (go_at_call 73; refine (hr.out _).mono ?_; rintro e w2 ⟨rfl, rfl⟩)
      | (go_at_call 133; refine (HB.out _ (h1.out.below ((Still.drewN w1 _).below _) (Nat.le_refl _))).mono ?_; rintro e w3 ⟨v, rfl, o3, b3⟩; obtain ⟨k0, k1, k2, k3⟩ := (X1.out.below ((Still.drewN w1 _).below w1.heap.size) ZZ.out).below b3 ZZ.out))
    have B3 : Below w.heap.size w w3 := (HB1.out.trans ((Still.drewN w1 _).below _)).trans (b3.mono (by have := ZZ.out; show w.heap.size ≤ w1.heap.size; omega))
    have O3 := hid (owns_base (base' := w.heap.size) o3 (by have := ZZ.out; show w.heap.size ≤ w1.heap.size; omega))
    clear o3 b3
    go_wp2_with fail
    go_ret
    exact ⟨_, rfl, O3.out, B3⟩
  · have e : valB K N f n zs = [] := by rw [valB, if_neg hok]
    rw [e]
    clear e
    by_cases hok1 : okI K N f n = true
    · rw [hok1] at hI
      have q : (K == 0) = true := beq_iff_eq.2 (Classical.byContradiction fun e => hok ⟨hok1, e⟩)
      go_enter Tryz.func81, Tryz.ntmps81
      go_wp2_with fail
      refine (hI _).mono ?_
      rintro e w1 ⟨rfl, b1⟩
      have B1 := hA.trans (b1.mono hA.size)
      obtain ⟨c0, c1, c2, c3⟩ := hX.below b1 (by omega)
      clear hA b1 hX h0 z1
      go_wp2_with fail
      go_ret
      exact ⟨_, rfl, World.ownsRow_nil _ _ _ _, B1⟩
    · have hok' : okI K N f n = false := by simpa using hok1
      rw [hok'] at hI
      go_enter Tryz.func81, Tryz.ntmps81
      go_wp2_with fail
      refine (hI _).mono ?_
      rintro e w1 ⟨rfl, b1⟩
      have B1 := hA.trans (b1.mono hA.size)
      clear hA b1 hX h0 z1
      go_wp2_with fail
      go_ret
      exact ⟨_, rfl, World.ownsRow_nil _ _ _ _, B1⟩
end Go.Proofs.YtebhipicfgnajaaGreat
end

section
namespace Go.Proofs.YtebhipicfgnajaaGreat
open Go.RowKit

/-- The number that bytes are, modulo 2^64. -/
def low (zs : List Int) : Nat := zs.foldl (fun x b => (x * 256 + b.toNat) % 18446744073709551616) 0
theorem low_lt : ∀ (zs : List Int) (x : Nat), x < 18446744073709551616 → zs.foldl (fun x b => (x * 256 + b.toNat) % 18446744073709551616) x < 18446744073709551616
  | [], _, h => h
  | b :: zs, x, _ => low_lt zs _ (Nat.mod_lt _ (by omega))
theorem low_step (zs : List Int) (k : Nat) (h : k < zs.length) : low (zs.take (k + 1)) = (low (zs.take k) * 256 + (zs.getD k 0).toNat) % 18446744073709551616 := by
  unfold low
  rw [List.take_add_one, List.getElem?_eq_getElem h, Option.toList_some, List.foldl_append]
  simp [List.getD, h]
theorem or_shl (x b : Nat) (hb : b < 256) : bits .or .u64 (IntKind.u64.wrap ((x : Int) * 256)) (b : Int) = (((x * 256 + b) % 18446744073709551616 : Nat) : Int) := by
  have e : IntKind.u64.wrap ((x : Int) * 256) = ((x * 256 % 18446744073709551616 : Nat) : Int) := by simp [IntKind.wrap, IntKind.bits, IntKind.signed]
  rw [e, u64_or_nat _ _ (Nat.mod_lt _ (by omega)) (by omega), nat_join 8 _ _ (by omega) (by omega)]
  congr 1
  omega

set_option maxRecDepth 100000 in
set_option maxHeartbeats 1600000 in
theorem spec_l3low {ad : Option Addr} {n : Nat} (cap : Nat) {zs : List Int} {w : World} (h : Reads w ad n zs) (hn : n ≤ 2097152) :
    Calls Tryz.prog 159 #[.slice ad n cap] w fun e w' => e = .returned (.int .u64 (low zs : Int)) ∧ w' = w := by
  have hl := h.len
  go_enter Tryz.func159, Tryz.ntmps159
  go_wp2
  go_loopw [3, 4] (fun s i wr => ∃ k x : Nat, k ≤ n ∧ s = .int .u64 (x : Int) ∧ i = .int .i64 k ∧ x < 18446744073709551616 ∧ Hid (x = low (zs.take k)) ∧ wr = w) (fun _ i _ => n - (intOf i).toNat)
  case atStart => exact ⟨0, 0, Nat.zero_le _, rfl, rfl, by omega, hid (by rw [List.take_zero]; rfl), rfl⟩
  case round =>
    obtain ⟨k, x, hk, rfl, rfl, hx, HX, rfl⟩ := hrel
    by_cases hlt : k < n
    · rcases h.cells with h0 | ⟨b, off, rfl, hc⟩
      · omega
      have c1 := hc k hlt
      have hb := h.bd k
      have HS := hid (low_step zs k (by omega))
      obtain ⟨y, hy⟩ := Int.eq_ofNat_of_zero_le hb.1
      have HY := hid hy
      rw [hy] at c1 hb
      have ho := or_shl x y (by omega)
      have hlt' : (k : Int) < (n : Int) := by omega
      have hk0 : (0 : Int) ≤ (k : Int) := by omega
      have hxx : (x * 256 + y) % 18446744073709551616 < 18446744073709551616 := Nat.mod_lt _ (by omega)
      obtain ⟨q, hq⟩ : ∃ q, Hid ((x * 256 + y) % 18446744073709551616 = q) := ⟨_, rfl⟩
      have hq' := hq.out
      rw [hq'] at ho hxx
      clear hc hy hq'
      go_wp2
      go_roundw
      case rel => exact ⟨k + 1, q, by omega, rfl, by go_num, hxx, hid (by rw [HS.out, ← HX.out, HY.out, Int.toNat_natCast, hq.out]), by first | trivial | rfl⟩
      case measure => simp [intOf]; omega
    · have hk8 : k = n := by omega
      have HK := hid hk8
      have hge : ¬ (k : Int) < (n : Int) := by omega
      go_wp2
      go_ret
      exact ⟨by rw [HX.out, HK.out, List.take_of_length_le (by omega)]; rfl, rfl⟩
end Go.Proofs.YtebhipicfgnajaaGreat
end

section
namespace Go.Proofs.YtebhipicfgnajaaGreat
open Go.RowKit

theorem own_nil {w : World} {base : Nat} {e : TypeId} {s n m cap : Nat} {ad : Option Addr} {xs : List Value} (h : w.ownsRow base e s (.slice ad n cap) m xs) : ad = none → cap = 0 := by
  intro hn
  rcases h.2 with ⟨h1, _⟩ | ⟨g, c, cur, h1, _⟩
  · exact (Value.slice.inj h1).2.2
  · rw [hn] at h1; cases (Value.slice.inj h1).1

theorem bytesI_bd (K N : Int) (B : Nat) (zs : List Int) (h0 : 0 ≤ K) (h1 : K ≤ 255) (hz : ∀ i, 0 ≤ zs.getD i 0 ∧ zs.getD i 0 ≤ 255) (hl : zs.length ≤ 1048576) : (∀ i, 0 ≤ (bytesI K N B zs).getD i 0 ∧ (bytesI K N B zs).getD i 0 ≤ 255) ∧ (bytesI K N B zs).length ≤ 2097152 := by
  have key : ∀ ts : List Int, (∀ i, 0 ≤ ts.getD i 0 ∧ ts.getD i 0 ≤ 255) → ts.length ≤ 1048576 → (∀ i, 0 ≤ ([K] ++ ts).getD i 0 ∧ ([K] ++ ts).getD i 0 ≤ 255) ∧ ([K] ++ ts).length ≤ 2097152 := by
    intro ts h hl
    refine ⟨fun i => ?_, by simp; omega⟩
    match i with
    | 0 => exact ⟨h0, h1⟩
    | i + 1 => exact h i
  unfold bytesI
  apply key
  · intro i
    split
    · exact hi8_bd _ _ i
    · split
      · exact hi8_bd _ _ i
      · exact hz i
  · split
    · rw [hi8_length]; omega
    · split
      · rw [hi8_length]; omega
      · exact hl

theorem nil_bd : (∀ i, 0 ≤ ([] : List Int).getD i 0 ∧ ([] : List Int).getD i 0 ≤ 255) ∧ ([] : List Int).length ≤ 2097152 := ⟨fun i => by simp, by simp⟩

theorem okI_K {K N : Int} {f n : Nat} (h : okI K N f n = true) : 0 ≤ K ∧ K ≤ 3 := by
  have := of_decide_eq_true h
  omega
theorem okK_I {K N : Int} {f n : Nat} (h : okK K N f n = true) : okI K N f n = true ∧ K ≠ 0 ∧ f ≠ 9223372036854775808 := by
  unfold okK at h
  rw [Bool.and_eq_true] at h
  exact ⟨h.1, of_decide_eq_true h.2⟩

theorem keyB_bd {K N : Int} {f n : Nat} {zs RZ : List Int} (hR : keyB K N f n zs = RZ) (hz : ∀ i, 0 ≤ zs.getD i 0 ∧ zs.getD i 0 ≤ 255) (hl : zs.length ≤ 1048576) : (∀ i, 0 ≤ RZ.getD i 0 ∧ RZ.getD i 0 ≤ 255) ∧ RZ.length ≤ 2097152 := by
  subst hR
  unfold keyB
  split
  · rename_i h
    have hk := okI_K (okK_I h).1
    exact bytesI_bd K N _ zs hk.1 (by omega) hz hl
  · exact nil_bd
theorem valB_bd {K N : Int} {f n : Nat} {zs RZ : List Int} (hR : valB K N f n zs = RZ) (hz : ∀ i, 0 ≤ zs.getD i 0 ∧ zs.getD i 0 ≤ 255) (hl : zs.length ≤ 1048576) : (∀ i, 0 ≤ RZ.getD i 0 ∧ RZ.getD i 0 ≤ 255) ∧ RZ.length ≤ 2097152 := by
  subst hR
  unfold valB
  split
  · rename_i h
    have hk := okI_K h.1
    exact bytesI_bd K N _ zs hk.1 (by omega) hz hl
  · exact nil_bd

end Go.Proofs.YtebhipicfgnajaaGreat
end

section
namespace Go.Proofs.YtebhipicfgnajaaGreat
open Go.RowKit

theorem eight {zs : List Int} (h : zs.length = 8) : ∃ a b c d e f g i, zs = [a, b, c, d, e, f, g, i] := by
  match zs, h with
  | [a, b, c, d, e, f, g, i], _ => exact ⟨a, b, c, d, e, f, g, i, rfl⟩

theorem low_eight (a b c d e f g i : Nat) (ha : a < 256) (hb : b < 256) (hc : c < 256) (hd : d < 256) (he : e < 256) (hf : f < 256) (hg : g < 256) (hi : i < 256) :
    low [(a : Int), b, c, d, e, f, g, i] = a * 72057594037927936 + b * 281474976710656 + c * 1099511627776 + d * 4294967296 + e * 16777216 + f * 65536 + g * 256 + i := by
  simp only [low, List.foldl_cons, List.foldl_nil, Int.toNat_natCast]
  omega

theorem hi8_low {zs : List Int} (h : zs.length = 8) (hB : ∀ i, 0 ≤ zs.getD i 0 ∧ zs.getD i 0 ≤ 255) : hi8 (low zs) 8 = zs := by
  obtain ⟨a, b, c, d, e, f, g, i, rfl⟩ := eight h
  have b0 := hB 0
  have b1 := hB 1
  have b2 := hB 2
  have b3 := hB 3
  have b4 := hB 4
  have b5 := hB 5
  have b6 := hB 6
  have b7 := hB 7
  simp only [List.getD_cons_zero, List.getD_cons_succ] at b0 b1 b2 b3 b4 b5 b6 b7
  obtain ⟨a, rfl⟩ := Int.eq_ofNat_of_zero_le b0.1
  obtain ⟨b, rfl⟩ := Int.eq_ofNat_of_zero_le b1.1
  obtain ⟨c, rfl⟩ := Int.eq_ofNat_of_zero_le b2.1
  obtain ⟨d, rfl⟩ := Int.eq_ofNat_of_zero_le b3.1
  obtain ⟨e, rfl⟩ := Int.eq_ofNat_of_zero_le b4.1
  obtain ⟨f, rfl⟩ := Int.eq_ofNat_of_zero_le b5.1
  obtain ⟨g, rfl⟩ := Int.eq_ofNat_of_zero_le b6.1
  obtain ⟨i, rfl⟩ := Int.eq_ofNat_of_zero_le b7.1
  rw [low_eight a b c d e f g i (by omega) (by omega) (by omega) (by omega) (by omega) (by omega) (by omega) (by omega)]
  have hr : List.range 8 = [0, 1, 2, 3, 4, 5, 6, 7] := by decide
  rw [hi8, hr]
  simp only [List.map_cons, List.map_nil, hb]
  simp only [show 8 * (7 - 0) = 56 from rfl, show 8 * (7 - 1) = 48 from rfl, show 8 * (7 - 2) = 40 from rfl, show 8 * (7 - 3) = 32 from rfl, show 8 * (7 - 4) = 24 from rfl, show 8 * (7 - 5) = 16 from rfl, show 8 * (7 - 6) = 8 from rfl, show 8 * (7 - 7) = 0 from rfl, List.cons.injEq, and_true]
  refine ⟨?_, ?_, ?_, ?_, ?_, ?_, ?_, ?_⟩ <;> omega

theorem low_hi8 (x : Nat) (hx : x < 18446744073709551616) : low (hi8 x 8) = x := by
  have hr : List.range 8 = [0, 1, 2, 3, 4, 5, 6, 7] := by decide
  rw [hi8, hr]
  simp only [List.map_cons, List.map_nil, hb]
  rw [low_eight _ _ _ _ _ _ _ _ (by omega) (by omega) (by omega) (by omega) (by omega) (by omega) (by omega) (by omega)]
  simp only [show 8 * (7 - 0) = 56 from rfl, show 8 * (7 - 1) = 48 from rfl, show 8 * (7 - 2) = 40 from rfl, show 8 * (7 - 3) = 32 from rfl, show 8 * (7 - 4) = 24 from rfl, show 8 * (7 - 5) = 16 from rfl, show 8 * (7 - 6) = 8 from rfl, show 8 * (7 - 7) = 0 from rfl]
  omega
end Go.Proofs.YtebhipicfgnajaaGreat
end
/- Eight bytes, high first: the program's putHighFirst. -/


namespace Go.Proofs.YtebhipicfgnajaaGreat
open Go.RowKit

/-- What has been written behind k rounds. -/
def hiP (x k : Nat) : List Value := List.replicate (8 - k) (Value.int .u8 0) ++ bys ((hi8 x 8).drop (8 - k))
theorem hiP_step (x k : Nat) (h : k < 8) : (hiP x k).set (7 - k) (.int .u8 (hb x (7 - k))) = hiP x (k + 1) := by
  match k, h with
  | 0, _ => rfl
  | 1, _ => rfl
  | 2, _ => rfl
  | 3, _ => rfl
  | 4, _ => rfl
  | 5, _ => rfl
  | 6, _ => rfl
  | 7, _ => rfl
theorem hiP_cell (x k : Nat) (h : k < 8) : (hiP x k)[7 - k]? = some (.int .u8 0) := by
  match k, h with
  | 0, _ => rfl
  | 1, _ => rfl
  | 2, _ => rfl
  | 3, _ => rfl
  | 4, _ => rfl
  | 5, _ => rfl
  | 6, _ => rfl
  | 7, _ => rfl
theorem hb_sh (x k : Nat) (h : k < 8) : hb x (7 - k) = ((x / 256 ^ k : Nat) : Int) % 256 := by
  unfold hb
  rw [show 7 - (7 - k) = k by omega, Nat.pow_mul]
  show ((x / 256 ^ k % 256 : Nat) : Int) = _
  omega
theorem sh_next (x k : Nat) : x / 256 ^ (k + 1) = x / 256 ^ k / 256 := by
  rw [Nat.pow_succ, Nat.div_div_eq_div_mul]

set_option maxRecDepth 100000 in
set_option maxHeartbeats 1600000 in
theorem impl_putHigh (x : Nat) (hx : x < 18446744073709551616) (w : World) :
    Calls Tryz.prog 218 #[.int .u64 x] w fun e w' => ∃ v, e = .returned v ∧ w'.ownsRow w.heap.size 5 1 v 8 (bys (hi8 x 8)) ∧ Below w.heap.size w w' := by
  obtain ⟨i0, hi, hz0, hz1, hz2⟩ := info_parts Tryz.info5
  go_enter Tryz.func218, Tryz.ntmps218
  go_wp2_with (at_make; refine wpList_make_full _ rfl _ _ 22 rfl w.heap.size 5 i0 (.int .u8 0) 1 Tryz.underlying22 hi hz0 hz1 _ _ _ _ 8 rfl rfl (by omega) (by omega) ?b2 ?b3 (Nat.le_refl _) ?_)
  case b2 => rw [hz2]; omega
  case b3 => unfold maxLen; omega
  intro w0 hown0 hgrow0
  go_wp2
  go_loopw [0, 4, 8] (fun r _ i wr => ∃ k m : Nat, k ≤ 8 ∧ i = .int .i64 k ∧ r = .int .u64 (m : Nat) ∧ Hid (m = x / 256 ^ k) ∧ m < 18446744073709551616 ∧ wr.ownsRow w.heap.size 5 1 (.slice (some ⟨w.heap.size, 0, none⟩) 8 8) 8 (hiP x k) ∧ Below w.heap.size w wr)
    (fun _ _ i _ => 8 - (intOf i).toNat)
  case atStart =>
    refine ⟨0, x, Nat.zero_le _, rfl, rfl, hid (by simp), hx, ?_, (Below.refl _ _).grown hgrow0 (Nat.le_refl _) (fun k h => by cases h)⟩
    rw [toList_madeCells_one] at hown0
    rw [show hiP x 0 = List.replicate 8 (Value.int .u8 0) from rfl]
    exact hown0
  case round =>
    obtain ⟨k, m, hk, rfl, rfl, HM, hm, hown, hnx⟩ := hrel
    by_cases hlt : k < 8
    · have HS := hid (sh_next x k)
      have hcy : wr.cell? ⟨w.heap.size, 7 - k, none⟩ = some (.int .u8 0) := by
        rw [hown.cellAt (7 - k) (by omega), hiP_cell x k hlt]
      have hfr : wr.frozen? ⟨w.heap.size, 7 - k, none⟩ = false := hown.frozenAt (7 - k)
      have R := hown.stored (7 - k) (.int .u8 ((m : Int) % 256))
      rw [show (Value.int .u8 ((m : Int) % 256)) = .int .u8 (hb x (7 - k)) by rw [hb_sh x k hlt, HM.out], hiP_step x k hlt] at R
      rw [show (Value.int .u8 (hb x (7 - k))) = .int .u8 ((m : Int) % 256) by rw [hb_sh x k hlt, HM.out]] at R
      obtain ⟨j, hj⟩ : ∃ j, 7 - k = j := ⟨_, rfl⟩
      have ej : (7 : Int) - (k : Int) = (j : Int) := by omega
      rw [hj] at hcy hfr R
      have hj7 : (j : Int) < 8 := by omega
      have hj0 : (0 : Int) ≤ (j : Int) := by omega
      have R1 := hid R
      have hk0 : (0 : Int) ≤ (k : Int) := by omega
      have hk8 : (k : Int) < 8 := by omega
      clear R hown hj
      go_wp2
      go_roundw
      case rel => exact ⟨k + 1, m / 256, by omega, by go_num, by go_num, hid (by rw [HS.out, ← HM.out]), by omega, R1.out.1, hnx.setCell (Nat.le_refl _) _⟩
      case measure => simp [intOf]; omega
    · obtain rfl : k = 8 := by omega
      have hown' : wr.ownsRow w.heap.size 5 1 (.slice (some ⟨w.heap.size, 0, none⟩) 8 8) 8 (bys (hi8 x 8)) := hown
      have O := hid hown'
      clear hown hown'
      go_wp2
      go_ret
      exact ⟨_, rfl, O.out, hnx⟩
end Go.Proofs.YtebhipicfgnajaaGreat
/- An item in a block of its own, and its text. -/

namespace Go.Proofs.YtebhipicfgnajaaGreat
open Go.RowKit

structure Arg (w : World) (g : Nat) (K N : Int) (f : Nat) (ad : Option Addr) (n cap : Nat) (zs : List Int) : Prop where
  box : Box w g K N f ad n cap
  reads : Reads w ad n zs
  lt : g < w.heap.size

theorem Arg.below {w w' : World} {g : Nat} {K N : Int} {f : Nat} {ad : Option Addr} {n cap : Nat} {zs : List Int} (a : Arg w g K N f ad n cap zs) {B : Nat} (h : Below B w w') (hB : w.heap.size ≤ B) : Arg w' g K N f ad n cap zs :=
  ⟨a.box.below h (Nat.lt_of_lt_of_le a.lt hB), a.reads.below h hB, Nat.lt_of_lt_of_le a.lt h.size⟩
theorem Arg.alloc {w : World} {g : Nat} {K N : Int} {f : Nat} {ad : Option Addr} {n cap : Nat} {zs : List Int} (a : Arg w g K N f ad n cap zs) (o : Obj) : Arg (w.alloc o) g K N f ad n cap zs :=
  a.below ((Below.refl w.heap.size w).alloc (Nat.le_refl _) o) (Nat.le_refl _)
theorem Reads.alloc {w : World} {ad : Option Addr} {n : Nat} {zs : List Int} (h : Reads w ad n zs) (o : Obj) : Reads (w.alloc o) ad n zs :=
  h.below ((Below.refl w.heap.size w).alloc (Nat.le_refl _) o) (Nat.le_refl _)
theorem Arg.new {w : World} (K N : Int) (f : Nat) {ad : Option Addr} {n : Nat} (cap : Nat) {zs : List Int} (h : Reads w ad n zs) (t : TypeId) (g : Nat) (hg : g = w.heap.size) : Arg (w.alloc (.cells #[.int .i64 K, .int .i64 N, .float .f64 f, .slice ad n cap] t)) g K N f ad n cap zs := by
  subst hg
  exact ⟨Box.new w K N f ad n cap t, h.alloc _, by rw [alloc_size]; omega⟩

theorem Arg.drewN {w : World} {g : Nat} {K N : Int} {f : Nat} {ad : Option Addr} {n cap : Nat} {zs : List Int} (a : Arg w g K N f ad n cap zs) (k : Nat) : Arg (w.drewN k) g K N f ad n cap zs :=
  a.below ((Still.drewN w k).below w.heap.size) (Nat.le_refl _)

end Go.Proofs.YtebhipicfgnajaaGreat
/- The contract of the specification's l3copy. Conditions: texts of at most 2^21 bytes. -/

namespace Go.Proofs.YtebhipicfgnajaaGreat
open Go.RowKit

theorem three_first (w : World) (a b c : Obj) : (((w.alloc a).alloc b).alloc c).heap[w.heap.size]? = some a := by
  have h1 := alloc_size w a
  have h2 := alloc_size (w.alloc a) b
  rw [alloc_old _ _ _ (by omega), alloc_old _ _ _ (by omega)]
  exact heap_alloc_new w a

set_option maxRecDepth 100000 in
set_option maxHeartbeats 3200000 in
theorem spec_l3copy (K N : Int) (f : Nat) {ad : Option Addr} {n : Nat} (cap : Nat) (hnil : ad = none → cap = 0) {zs : List Int} {w : World} (h : Reads w ad n zs) (hn : n ≤ 2097152) :
    Calls Tryz.prog 155 #[.agg #[.int .i64 K, .int .i64 N, .float .f64 f, .slice ad n cap]] w fun e w' => ∃ v, e = .returned (.agg #[.int .i64 K, .int .i64 N, .float .f64 f, v]) ∧ w'.ownsRow w.heap.size 5 1 v n (bys zs) ∧ Below w.heap.size w w' := by
  obtain ⟨i0, hi, hz0, hz1, hz2⟩ := info_parts Tryz.info5
  have hl := h.len
  have hbd := h.bd
  have hst := fun w a m => run_store Tryz.prog w a (.float .f64 f) m rfl
  obtain ⟨z, R1, R2, bW⟩ := three w (.cells #[.int .i64 K, .int .i64 N, .float .f64 f, .slice ad n cap] 29) (.cells #[.int .i64 0, .int .i64 0, .float .f64 0, .slice none 0 0] 29) (.cells #[] 5)
  have R0 := three_first w (.cells #[.int .i64 K, .int .i64 N, .float .f64 f, .slice ad n cap] 29) (.cells #[.int .i64 0, .int .i64 0, .float .f64 0, .slice none 0 0] 29) (.cells #[] 5)
  have z2 := alloc_size (w.alloc (.cells #[.int .i64 K, .int .i64 N, .float .f64 f, .slice ad n cap] 29)) (.cells #[.int .i64 0, .int .i64 0, .float .f64 0, .slice none 0 0] 29)
  have z1 := alloc_size w (.cells #[.int .i64 K, .int .i64 N, .float .f64 f, .slice ad n cap] 29)
  rw [z1] at z2
  have o5 := World.ownsRow_lit (base := w.heap.size + 1 + 1) (e := 5) (size := 1) ((w.alloc (.cells #[.int .i64 K, .int .i64 N, .float .f64 f, .slice ad n cap] 29)).alloc (.cells #[.int .i64 0, .int .i64 0, .float .f64 0, .slice none 0 0] 29)) #[] 0 (by omega) (Nat.zero_le _) rfl
  rw [z2] at o5
  have r2 := h.below bW (Nat.le_refl _)
  have O5 := hid o5
  have H0 := hid R0
  have H1 := hid R1
  have HB := hid bW
  have HZ := hid z
  have HR := hid r2
  clear o5 R0 R1 R2 bW z z2 r2 z1
  rcases hc : ad with _ | a
  · subst hc
    obtain rfl := hnil rfl
    obtain rfl : n = 0 := by
      rcases h.cells with h0 | ⟨b, off, e, _⟩
      · exact h0
      · cases e
    obtain rfl : zs = [] := List.eq_nil_of_length_eq_zero hl
    clear h
    go_enter Tryz.func155, Tryz.ntmps155
    go_wp2_with (at_builtin; refine wpList_append_own_none rfl _ _ 22 rfl (w.heap.size + 1 + 1) 5 i0 1 Tryz.underlying22 hi _ _ _ rfl O5.out rfl ?_)
    obtain ⟨_, Q1, _, bQ⟩ := three w (.cells #[.int .i64 K, .int .i64 N, .float .f64 f, .slice (some ⟨w.heap.size + 1 + 1, 0, none⟩) 0 0] 29) (.cells #[.int .i64 K, .int .i64 N, .float .f64 f, .slice (some ⟨w.heap.size + 1 + 1, 0, none⟩) 0 0] 29) (.cells #[] 5)
    have y1 := alloc_size w (.cells #[.int .i64 K, .int .i64 N, .float .f64 f, .slice (some ⟨w.heap.size + 1 + 1, 0, none⟩) 0 0] 29)
    have y2 := alloc_size (w.alloc (.cells #[.int .i64 K, .int .i64 N, .float .f64 f, .slice (some ⟨w.heap.size + 1 + 1, 0, none⟩) 0 0] 29)) (.cells #[.int .i64 K, .int .i64 N, .float .f64 f, .slice (some ⟨w.heap.size + 1 + 1, 0, none⟩) 0 0] 29)
    rw [y1] at y2
    have oQ := World.ownsRow_lit (base := w.heap.size) (e := 5) (size := 1) ((w.alloc (.cells #[.int .i64 K, .int .i64 N, .float .f64 f, .slice (some ⟨w.heap.size + 1 + 1, 0, none⟩) 0 0] 29)).alloc (.cells #[.int .i64 K, .int .i64 N, .float .f64 f, .slice (some ⟨w.heap.size + 1 + 1, 0, none⟩) 0 0] 29)) #[] 0 (by omega) (Nat.zero_le _) rfl
    rw [y2] at oQ
    exact bodyPost_ret (results_cell_row Tryz.results155 _ _ (w.heap.size + 1) 29 _ (0, 0) _ rfl Q1 Tryz.underlying29 rfl size29) rfl ⟨_, rfl, oQ, bQ⟩
  · subst hc
    clear h
    go_enter Tryz.func155, Tryz.ntmps155
    go_wp2_with (at_builtin; refine wpList_append_own _ rfl _ _ 22 rfl (w.heap.size + 1 + 1) 5 i0 (.int .u8 0) 1 1 Tryz.underlying22 hi hz0 hz1 hz2 rfl (by decide) _ _ _ rfl O5.out a n cap (bys zs) rfl ?k2 HR.out.news (bys_one _) ?k4 ?k5 ?k6 ?_)
    case k2 => simp [bys_length, hl]
    case k4 => unfold maxLen; omega
    case k5 => omega
    intro v7 w7 o7 g7 _
    have o8 : w7.ownsRow (w.heap.size + 1 + 1) 5 1 v7 n (bys zs) := by simpa using o7
    obtain ⟨ad7, cap7, rfl, r7, d7⟩ := Reads.own o8 hbd
    have zW := HZ.out
    have B7 : Below w.heap.size w w7 := HB.out.grown g7 (by omega) (fun k hk => by have := (O5.out.lt k hk).1; omega)
    have S0 : w7.heap[w.heap.size]? = _ := (g7.block _ (by omega) (fun e => by have := (O5.out.lt _ e.symm).1; omega)).trans H0.out
    have S1 : w7.heap[w.heap.size + 1]? = _ := (g7.block _ (by omega) (fun e => by have := (O5.out.lt _ e.symm).1; omega)).trans H1.out
    have c3 : w7.cell? ⟨w.heap.size, 3, none⟩ = some (.slice (some a) n cap) := by rw [cell_of_row _ _ _ _ _ _ S0]; rfl
    have fz : w7.frozen? ⟨w.heap.size, 3, none⟩ = false := frozen_of_row _ _ _ _ _ S0
    have T0 := hid (heap_setCell_same w7 w.heap.size 3 _ 29 (.slice ad7 n cap7) S0)
    have T1 := hid ((heap_setCell_other w7 ⟨w.heap.size, 3, none⟩ (w.heap.size + 1) (.slice ad7 n cap7) (by simp)).trans S1)
    have BC := hid (B7.setCell (p := ⟨w.heap.size, 3, none⟩) (by simp) (.slice ad7 n cap7))
    have O7 := hid o8
    clear S0 S1 g7 o7 o8 r7 d7 zW B7 O5 H0 H1 HB HZ HR
    go_wp2_with (first
      | (refine wpList_load_row rfl 29 (.tmp 1) rfl w.heap.size rfl 29 _ (0, 0) _ T0.out Tryz.underlying29 rfl size29 ?_)
      | (refine wpList_store_row rfl 29 (.tmp 2) (.tmp 8) rfl (w.heap.size + 1) #[.int .i64 K, .int .i64 N, .float .f64 f, .slice ad7 n cap7] rfl rfl 29 _ T1.out ?s1 ?s2 ?s3 ?_))
    case s1 => exact size29
    case s2 => rfl
    case s3 => simp [Value.oneCell']
    refine bodyPost_ret (results_cell_row Tryz.results155 _ _ (w.heap.size + 1) 29 #[.int .i64 K, .int .i64 N, .float .f64 f, .slice ad7 n cap7] (0, 0) _ rfl (setRow_heap _ _ _ _ _ _ T1.out) Tryz.underlying29 rfl size29) rfl ⟨.slice ad7 n cap7, rfl, owns_base (owns_at O7.out fun k hk => ?_) (by omega), below_setRow BC.out (by omega) _⟩
    rw [setRow_other _ _ _ _ (by omega), heap_setCell_other _ _ _ _ (by simp; omega)]
end Go.Proofs.YtebhipicfgnajaaGreat
/- The contract of the specification's ItemClean. Conditions: texts of at most 2^21 bytes. -/

namespace Go.Proofs.YtebhipicfgnajaaGreat
open Go.RowKit

def cleanF (f : Nat) : Nat := if f = 9223372036854775808 then 0 else f
/-- What ItemClean answers. -/
def cleanV (K N : Int) (f n : Nat) (v : Value) : Value := if okI K N f n = true then .agg #[.int .i64 K, .int .i64 N, .float .f64 (cleanF f), v] else .agg #[.int .i64 0, .int .i64 0, .float .f64 0, .slice none 0 0]

set_option maxRecDepth 100000 in
set_option maxHeartbeats 3200000 in
theorem spec_ItemClean_no (K N : Int) (f : Nat) (ad : Option Addr) (n cap : Nat) (hf : f < 18446744073709551616) (hn : n ≤ 2097152) (hok : okI K N f n = false) (w : World) :
    Calls Tryz.prog 115 #[.agg #[.int .i64 K, .int .i64 N, .float .f64 f, .slice ad n cap]] w fun e w' => e = .returned (.agg #[.int .i64 0, .int .i64 0, .float .f64 0, .slice none 0 0]) ∧ Below w.heap.size w w' := by
  have hI := spec_ItemOk K N f ad n cap hf hn
  rw [hok] at hI
  have hB := two w (.cells #[.int .i64 K, .int .i64 N, .float .f64 f, .slice ad n cap] 29) (.cells #[.int .i64 0, .int .i64 0, .float .f64 0, .slice none 0 0] 29)
  have z1 := alloc_size w (.cells #[.int .i64 K, .int .i64 N, .float .f64 f, .slice ad n cap] 29)
  have z2 := alloc_size (w.alloc (.cells #[.int .i64 K, .int .i64 N, .float .f64 f, .slice ad n cap] 29)) (.cells #[.int .i64 0, .int .i64 0, .float .f64 0, .slice none 0 0] 29)
  have R1 := heap_alloc_new (w.alloc (.cells #[.int .i64 K, .int .i64 N, .float .f64 f, .slice ad n cap] 29)) (.cells #[.int .i64 0, .int .i64 0, .float .f64 0, .slice none 0 0] 29)
  rw [z1] at z2 R1
  have H1 := hid R1
  have HZ := hid z2
  have HB := hid hB
  clear R1 z2 z1 hB
  go_enter Tryz.func115, Tryz.ntmps115
  go_wp2_with fail
  refine (hI _).mono ?_
  rintro e w1 ⟨rfl, b1⟩
  have hz := HZ.out
  have S1 := (b1.block (w.heap.size + 1) (by omega)).trans H1.out
  have B1 := HB.out.trans (b1.mono HB.out.size)
  have T1 := hid S1
  clear S1 b1 hz HZ HB H1
  go_wp2_with (first
    | (refine wpList_store_row rfl 29 (.tmp 2) (.tmp 7) rfl (w.heap.size + 1) #[.int .i64 0, .int .i64 0, .float .f64 0, .slice none 0 0] rfl rfl 29 _ T1.out ?s1 ?s2 ?s3 ?_))
  case s1 => exact size29
  case s2 => rfl
  case s3 => simp [Value.oneCell']
  exact bodyPost_ret (results_cell_row Tryz.results115 _ _ (w.heap.size + 1) 29 _ (0, 0) _ rfl (setRow_heap _ _ _ _ _ _ T1.out) Tryz.underlying29 rfl size29) rfl ⟨rfl, below_setRow B1 (by omega) _⟩

set_option maxRecDepth 100000 in
set_option maxHeartbeats 3200000 in
theorem spec_ItemClean_yes (K N : Int) (f : Nat) {ad : Option Addr} {n : Nat} (cap : Nat) (hnil : ad = none → cap = 0) {zs : List Int} {w : World} (h : Reads w ad n zs) (hf : f < 18446744073709551616) (hn : n ≤ 2097152) (hok : okI K N f n = true) :
    Calls Tryz.prog 115 #[.agg #[.int .i64 K, .int .i64 N, .float .f64 f, .slice ad n cap]] w fun e w' => ∃ v, e = .returned (.agg #[.int .i64 K, .int .i64 N, .float .f64 (cleanF f), v]) ∧ w'.ownsRow w.heap.size 5 1 v n (bys zs) ∧ Below w.heap.size w w' := by
  have hI := spec_ItemOk K N f ad n cap hf hn
  rw [hok] at hI
  have hbd := h.bd
  have hst := fun w a m => run_store Tryz.prog w a (.float .f64 f) m rfl
  have hst0 := fun w a m => run_store Tryz.prog w a (.float .f64 0) m rfl
  have hB := two w (.cells #[.int .i64 K, .int .i64 N, .float .f64 f, .slice ad n cap] 29) (.cells #[.int .i64 0, .int .i64 0, .float .f64 0, .slice none 0 0] 29)
  have z1 := alloc_size w (.cells #[.int .i64 K, .int .i64 N, .float .f64 f, .slice ad n cap] 29)
  have z2 := alloc_size (w.alloc (.cells #[.int .i64 K, .int .i64 N, .float .f64 f, .slice ad n cap] 29)) (.cells #[.int .i64 0, .int .i64 0, .float .f64 0, .slice none 0 0] 29)
  have R1 := heap_alloc_new (w.alloc (.cells #[.int .i64 K, .int .i64 N, .float .f64 f, .slice ad n cap] 29)) (.cells #[.int .i64 0, .int .i64 0, .float .f64 0, .slice none 0 0] 29)
  have X0 := (Box.new w K N f ad n cap 29).below ((Below.refl (w.heap.size + 1) _).alloc (by omega) (.cells #[.int .i64 0, .int .i64 0, .float .f64 0, .slice none 0 0] 29)) (by omega)
  rw [z1] at z2 R1
  have h0 := h.below hB (Nat.le_refl _)
  have H1 := hid R1
  have HZ := hid z2
  have HB := hid hB
  have HX := hid X0
  have HR := hid h0
  clear R1 z2 z1 hB X0 h0 h
  go_enter Tryz.func115, Tryz.ntmps115
  go_wp2_with fail
  refine (hI _).mono ?_
  rintro e w1 ⟨rfl, b1⟩
  have hz := HZ.out
  have S1 := hid ((b1.block (w.heap.size + 1) (by omega)).trans H1.out)
  have B1 := hid (HB.out.trans (b1.mono HB.out.size))
  have X1 := hid (HX.out.below b1 (by omega))
  have r1 := hid (HR.out.below b1 (Nat.le_refl _))
  have Z1 := hid (show w.heap.size + 1 < w1.heap.size by have := b1.size; omega)
  clear b1 hz HZ HB H1 HX HR
  obtain ⟨c0, c1, c2, c3⟩ := X1.out
  go_wp2_with fail
  clear c0 c1 c2 c3
  refine (spec_l3copy K N f cap hnil r1.out hn).mono ?_
  rintro e w2 ⟨v, rfl, o2, b2⟩
  have hz := Z1.out
  obtain ⟨ad2, cap2, rfl, r2, d2⟩ := Reads.own o2 hbd
  have S2 := hid ((b2.block (w.heap.size + 1) (by omega)).trans S1.out)
  have B2 := hid (B1.out.trans (b2.mono B1.out.size))
  have X2 := hid (X1.out.below b2 (by omega))
  have Z2 := hid (show w.heap.size + 1 < w2.heap.size by have := b2.size; omega)
  have O2 := hid o2
  clear b2 hz S1 B1 X1 r1 o2 d2 r2
  obtain ⟨c0, c1, c2, c3⟩ := X2.out
  by_cases hz : f = 0 ∨ f = 9223372036854775808
  · have hc := hid (show cleanF f = 0 by rw [cleanF]; split <;> omega)
    have o : FloatKind.f64.format.order f 0 = some .eq := by rcases hz with rfl | rfl <;> decide
    have zz := Z2.out
    have T1 := hid ((alloc_old w2 (.cells #[.int .i64 K, .int .i64 N, .float .f64 0, .slice ad2 n cap2] 29) (w.heap.size + 1) (by omega)).trans S2.out)
    have BA := hid (B2.out.alloc (show w.heap.size ≤ w2.heap.size by omega) (.cells #[.int .i64 K, .int .i64 N, .float .f64 0, .slice ad2 n cap2] 29))
    have OA := hid (O2.out.alloc (.cells #[.int .i64 K, .int .i64 N, .float .f64 0, .slice ad2 n cap2] 29))
    have zz0 : w.heap.size < w2.heap.size := by omega
    have ne0 : ¬ w.heap.size = w2.heap.size := by omega
    clear S2 B2 O2 hz X2
    go_wp2_with (first
      | (refine wpList_store_row rfl 29 (.tmp 2) (.tmp 14) rfl (w.heap.size + 1) #[.int .i64 K, .int .i64 N, .float .f64 0, .slice ad2 n cap2] rfl rfl 29 _ T1.out ?s1 ?s2 ?s3 ?_))
    case s1 => exact size29
    case s2 => rfl
    case s3 => simp [Value.oneCell']
    refine bodyPost_ret (results_cell_row Tryz.results115 _ _ (w.heap.size + 1) 29 _ (0, 0) _ rfl (setRow_heap _ _ _ _ _ _ T1.out) Tryz.underlying29 rfl size29) rfl ⟨.slice ad2 n cap2, by rw [hc.out], owns_base (owns_at OA.out fun k hk => ?_) (by have := Z1.out; omega), below_setRow BA.out (by omega) _⟩
    exact setRow_other _ _ _ _ (by have := Z1.out; omega)
  · have hc := hid (show cleanF f = f by rw [cleanF, if_neg (by omega)])
    have o : FloatKind.f64.format.order f 0 = some .lt ∨ FloatKind.f64.format.order f 0 = some .gt ∨ FloatKind.f64.format.order f 0 = none := by
      by_cases hN : isN f = true
      · exact .inr (.inr (order_l f 0 hf hN))
      · have hN' : isN f = false := by simpa using hN
        have hm := (isN_not f).1 hN'
        by_cases hp : f < 9223372036854775808
        · exact .inr (.inl (order_gt f 0 hf (by omega) hN' isN_zero (by rw [kx_zero, kx, if_pos hp]; omega)))
        · exact .inl (order_lt f 0 hf (by omega) hN' isN_zero (by rw [kx_zero, kx, if_neg hp]; omega))
    rcases o with o | o | o
    all_goals
      have zz := Z2.out
      have T1 := hid ((alloc_old w2 (.cells #[.int .i64 K, .int .i64 N, .float .f64 f, .slice ad2 n cap2] 29) (w.heap.size + 1) (by omega)).trans S2.out)
      have BA := hid (B2.out.alloc (show w.heap.size ≤ w2.heap.size by omega) (.cells #[.int .i64 K, .int .i64 N, .float .f64 f, .slice ad2 n cap2] 29))
      have OA := hid (O2.out.alloc (.cells #[.int .i64 K, .int .i64 N, .float .f64 f, .slice ad2 n cap2] 29))
      have zz0 : w.heap.size < w2.heap.size := by omega
      have ne0 : ¬ w.heap.size = w2.heap.size := by omega
      clear S2 B2 O2 hz X2
      go_wp2_with (first
        | (refine wpList_store_row rfl 29 (.tmp 2) (.tmp 14) rfl (w.heap.size + 1) #[.int .i64 K, .int .i64 N, .float .f64 f, .slice ad2 n cap2] rfl rfl 29 _ T1.out ?s1 ?s2 ?s3 ?_))
      case s1 => exact size29
      case s2 => rfl
      case s3 => simp [Value.oneCell']
      refine bodyPost_ret (results_cell_row Tryz.results115 _ _ (w.heap.size + 1) 29 _ (0, 0) _ rfl (setRow_heap _ _ _ _ _ _ T1.out) Tryz.underlying29 rfl size29) rfl ⟨.slice ad2 n cap2, by rw [hc.out], owns_base (owns_at OA.out fun k hk => ?_) (by have := Z1.out; omega), below_setRow BA.out (by omega) _⟩
      exact setRow_other _ _ _ _ (by have := Z1.out; omega)
end Go.Proofs.YtebhipicfgnajaaGreat
/- What an item holds, behind an interface: contentOf, and the methods of the kinds. -/



namespace Go.Proofs.YtebhipicfgnajaaGreat
open Go.RowKit

set_option maxRecDepth 100000 in
theorem contentOf_int (N : Int) (f : Nat) (ad : Option Addr) (n cap : Nat) (w : World) :
    Calls Tryz.prog 190 #[.agg #[.int .i64 1, .int .i64 N, .float .f64 f, .slice ad n cap]] w fun e w' => e = .returned (.iface 199 (.int .i64 N)) ∧ Below w.heap.size w w' := by
  have HA := hid (Below.alloc1 w (.cells #[.int .i64 1, .int .i64 N, .float .f64 f, .slice ad n cap] 29))
  go_enter Tryz.func190, Tryz.ntmps190
  go_wp2
  go_ret
  exact ⟨rfl, HA.out⟩

set_option maxRecDepth 100000 in
theorem contentOf_float (N : Int) (f : Nat) (ad : Option Addr) (n cap : Nat) (w : World) :
    Calls Tryz.prog 190 #[.agg #[.int .i64 2, .int .i64 N, .float .f64 f, .slice ad n cap]] w fun e w' => e = .returned (.iface 200 (.float .f64 f)) ∧ Below w.heap.size w w' := by
  have HA := hid (Below.alloc1 w (.cells #[.int .i64 2, .int .i64 N, .float .f64 f, .slice ad n cap] 29))
  go_enter Tryz.func190, Tryz.ntmps190
  go_wp2
  go_ret
  exact ⟨rfl, HA.out⟩

set_option maxRecDepth 100000 in
theorem contentOf_text (N : Int) (f : Nat) (ad : Option Addr) (n cap : Nat) (w : World) :
    Calls Tryz.prog 190 #[.agg #[.int .i64 3, .int .i64 N, .float .f64 f, .slice ad n cap]] w fun e w' => e = .returned (.iface 201 (.slice ad n cap)) ∧ Below w.heap.size w w' := by
  have HA := hid (Below.alloc1 w (.cells #[.int .i64 3, .int .i64 N, .float .f64 f, .slice ad n cap] 29))
  go_enter Tryz.func190, Tryz.ntmps190
  go_wp2
  go_ret
  exact ⟨rfl, HA.out⟩

set_option maxRecDepth 100000 in
theorem contentOf_none (N : Int) (f : Nat) (ad : Option Addr) (n cap : Nat) (w : World) :
    Calls Tryz.prog 190 #[.agg #[.int .i64 0, .int .i64 N, .float .f64 f, .slice ad n cap]] w fun e w' => e = .returned (.iface 203 (.agg #[])) ∧ Below w.heap.size w w' := by
  have HA := hid (Below.alloc1 w (.cells #[.int .i64 0, .int .i64 N, .float .f64 f, .slice ad n cap] 29))
  go_enter Tryz.func190, Tryz.ntmps190
  go_wp2
  go_ret
  exact ⟨rfl, HA.out⟩

theorem key_text (ad : Option Addr) (n cap : Nat) (w : World) :
    Calls Tryz.prog 223 #[.slice ad n cap] w fun e w' => e = .returned (.slice ad n cap) ∧ w' = w := by
  go_enter Tryz.func223, Tryz.ntmps223
  go_wp2
  go_ret
  exact ⟨rfl, rfl⟩
theorem val_text (ad : Option Addr) (n cap : Nat) (w : World) :
    Calls Tryz.prog 224 #[.slice ad n cap] w fun e w' => e = .returned (.slice ad n cap) ∧ w' = w := by
  go_enter Tryz.func224, Tryz.ntmps224
  go_wp2_with fail
  refine (key_text ad n cap _).mono ?_
  rintro e w1 ⟨rfl, rfl⟩
  go_wp2_with fail
  go_ret
  exact ⟨rfl, rfl⟩

theorem lift_wrap (N : Int) (h0 : -9223372036854775808 ≤ N) (h1 : N ≤ 9223372036854775807) : IntKind.u64.wrap (IntKind.u64.wrap N + 9223372036854775808) = (((N + 9223372036854775808).toNat : Nat) : Int) := by
  simp [IntKind.wrap, IntKind.bits, IntKind.signed]
  omega

set_option maxRecDepth 100000 in
theorem key_int (N : Int) (h0 : -9223372036854775808 ≤ N) (h1 : N ≤ 9223372036854775807) (w : World) :
    Calls Tryz.prog 216 #[.int .i64 N] w fun e w' => ∃ v, e = .returned v ∧ w'.ownsRow w.heap.size 5 1 v 8 (bys (hi8 (N + 9223372036854775808).toNat 8)) ∧ Below w.heap.size w w' := by
  have hw := lift_wrap N h0 h1
  have hX : (N + 9223372036854775808).toNat < 18446744073709551616 := by omega
  generalize (N + 9223372036854775808).toNat = x at *
  clear h0 h1
  go_enter Tryz.func216, Tryz.ntmps216
  go_wp2_with fail
  refine (impl_putHigh x hX _).mono ?_
  rintro e w1 ⟨v, rfl, o, b⟩
  have O := hid o
  have B := hid b
  clear o b
  go_wp2_with fail
  go_ret
  exact ⟨_, rfl, O.out, B.out⟩
set_option maxRecDepth 100000 in
theorem val_int (N : Int) (h0 : -9223372036854775808 ≤ N) (h1 : N ≤ 9223372036854775807) (w : World) :
    Calls Tryz.prog 217 #[.int .i64 N] w fun e w' => ∃ v, e = .returned v ∧ w'.ownsRow w.heap.size 5 1 v 8 (bys (hi8 (N + 9223372036854775808).toNat 8)) ∧ Below w.heap.size w w' := by
  go_enter Tryz.func217, Tryz.ntmps217
  go_wp2_with fail
  refine (key_int N h0 h1 _).mono ?_
  rintro e w1 ⟨v, rfl, o, b⟩
  have O := hid o
  have B := hid b
  clear o b
  go_wp2_with fail
  go_ret
  exact ⟨_, rfl, O.out, B.out⟩
set_option maxRecDepth 100000 in
theorem key_float (f : Nat) (hf : f < 18446744073709551616) (w : World) :
    Calls Tryz.prog 220 #[.float .f64 f] w fun e w' => ∃ v, e = .returned v ∧ w'.ownsRow w.heap.size 5 1 v 8 (bys (hi8 (frank f) 8)) ∧ Below w.heap.size w w' := by
  go_enter Tryz.func220, Tryz.ntmps220
  go_wp2_with fail
  refine (impl_FloatRank f hf _).mono ?_
  rintro e w0 ⟨rfl, rfl⟩
  go_wp2_with fail
  refine (impl_putHigh (frank f) (frank_lt f hf) _).mono ?_
  rintro e w1 ⟨v, rfl, o, b⟩
  have O := hid o
  have B := hid b
  clear o b
  go_wp2_with fail
  go_ret
  exact ⟨_, rfl, O.out, B.out⟩
set_option maxRecDepth 100000 in
theorem val_float (f : Nat) (hf : f < 18446744073709551616) (w : World) :
    Calls Tryz.prog 221 #[.float .f64 f] w fun e w' => ∃ v, e = .returned v ∧ w'.ownsRow w.heap.size 5 1 v 8 (bys (hi8 (fbits f) 8)) ∧ Below w.heap.size w w' := by
  go_enter Tryz.func221, Tryz.ntmps221
  go_wp2_with fail
  refine (impl_FloatBits f hf _).mono ?_
  rintro e w0 ⟨rfl, rfl⟩
  go_wp2_with fail
  refine (impl_putHigh (fbits f) (fbits_lt f hf) _).mono ?_
  rintro e w1 ⟨v, rfl, o, b⟩
  have O := hid o
  have B := hid b
  clear o b
  go_wp2_with fail
  go_ret
  exact ⟨_, rfl, O.out, B.out⟩
end Go.Proofs.YtebhipicfgnajaaGreat
/- The library's Clone, and itemOf: a content turned back into an item. -/



namespace Go.Proofs.YtebhipicfgnajaaGreat
open Go.RowKit

theorem eql_none (c : Nat) (w : World) : (binOp .eql 22 (.slice none 0 c) (.slice none 0 0)).run Tryz.prog w = .ok (.bool true) w := by kernel_rfl
theorem eql_some (a : Addr) (n c : Nat) (w : World) : (binOp .eql 22 (.slice (some a) n c) (.slice none 0 0)).run Tryz.prog w = .ok (.bool false) w := by kernel_rfl
theorem as_int_int (v : Value) (w : World) : (Instr.typeAssert (.iface 199 v) 189 199 true).run Tryz.prog w = .ok (.tuple #[v, .bool true]) w := by kernel_rfl
theorem as_float_int (v : Value) (w : World) : (Instr.typeAssert (.iface 200 v) 189 199 true).run Tryz.prog w = .ok (.tuple #[.int .i64 0, .bool false]) w := by kernel_rfl
theorem as_text_int (v : Value) (w : World) : (Instr.typeAssert (.iface 201 v) 189 199 true).run Tryz.prog w = .ok (.tuple #[.int .i64 0, .bool false]) w := by kernel_rfl
theorem as_none_int (v : Value) (w : World) : (Instr.typeAssert (.iface 203 v) 189 199 true).run Tryz.prog w = .ok (.tuple #[.int .i64 0, .bool false]) w := by kernel_rfl
theorem as_float_float (v : Value) (w : World) : (Instr.typeAssert (.iface 200 v) 189 200 true).run Tryz.prog w = .ok (.tuple #[v, .bool true]) w := by kernel_rfl
theorem as_text_float (v : Value) (w : World) : (Instr.typeAssert (.iface 201 v) 189 200 true).run Tryz.prog w = .ok (.tuple #[.float .f64 0, .bool false]) w := by kernel_rfl
theorem as_none_float (v : Value) (w : World) : (Instr.typeAssert (.iface 203 v) 189 200 true).run Tryz.prog w = .ok (.tuple #[.float .f64 0, .bool false]) w := by kernel_rfl
theorem as_text_text (v : Value) (w : World) : (Instr.typeAssert (.iface 201 v) 189 201 true).run Tryz.prog w = .ok (.tuple #[v, .bool true]) w := by kernel_rfl
theorem as_none_text (v : Value) (w : World) : (Instr.typeAssert (.iface 203 v) 189 201 true).run Tryz.prog w = .ok (.tuple #[.slice none 0 0, .bool false]) w := by kernel_rfl

set_option maxRecDepth 100000 in
set_option maxHeartbeats 1600000 in
theorem bytes_clone {ad : Option Addr} {n : Nat} (cap : Nat) {zs : List Int} {w : World} (h : Reads w ad n zs) (hn : n ≤ 2097152) :
    Calls Tryz.prog 198 #[.slice ad n cap] w fun e w' => ∃ v, e = .returned v ∧ w'.ownsRow w.heap.size 5 1 v n (bys zs) ∧ Below w.heap.size w w' := by
  obtain ⟨i0, hi, hz0, hz1, hz2⟩ := info_parts Tryz.info5
  have hl := h.len
  have o5 := World.ownsRow_lit (base := w.heap.size) (e := 5) (size := 1) w #[] 0 (Nat.le_refl _) (Nat.zero_le _) rfl
  have r2 := h.alloc (.cells #[] 5)
  have O5 := hid o5
  have HR := hid r2
  clear o5 r2
  rcases hc : ad with _ | a
  · subst hc
    obtain rfl : n = 0 := by
      rcases h.cells with h0 | ⟨b, off, e, _⟩
      · exact h0
      · cases e
    obtain rfl : zs = [] := List.eq_nil_of_length_eq_zero hl
    clear h HR O5
    have q := eql_none
    go_enter Tryz.func198, Tryz.ntmps198
    go_wp2_with fail
    go_ret
    exact ⟨_, rfl, World.ownsRow_nil _ _ _ _, Below.refl _ _⟩
  · subst hc
    clear h
    have q := eql_some
    go_enter Tryz.func198, Tryz.ntmps198
    go_wp2_with (at_builtin; refine wpList_append_own _ rfl _ _ 22 rfl w.heap.size 5 i0 (.int .u8 0) 1 1 Tryz.underlying22 hi hz0 hz1 hz2 rfl (by decide) _ _ _ rfl O5.out a n cap (bys zs) rfl ?k2 HR.out.news (bys_one _) ?k4 ?k5 ?k6 ?_)
    case k2 => simp [bys_length, hl]
    case k4 => unfold maxLen; omega
    case k5 => omega
    intro v7 w7 o7 g7 _
    have o8 : w7.ownsRow w.heap.size 5 1 v7 n (bys zs) := by simpa using o7
    have B7 : Below w.heap.size w w7 := (Below.alloc1 w _).grown g7 (by simp) (fun k hk => (O5.out.lt k hk).1)
    have H8 := hid o8
    clear o7 o8 g7 O5 HR
    go_wp2_with fail
    go_ret
    exact ⟨_, rfl, H8.out, B7⟩

set_option maxRecDepth 100000 in
theorem itemOf_int (N : Int) (w : World) :
    Calls Tryz.prog 193 #[.iface 199 (.int .i64 N)] w fun e w' => e = .returned (.agg #[.int .i64 1, .int .i64 N, .float .f64 0, .slice none 0 0]) ∧ Below w.heap.size w w' := by
  have hst := fun w a m => run_store Tryz.prog w a (.float .f64 0) m rfl
  have R := heap_alloc_new w (.cells #[.int .i64 1, .int .i64 N, .float .f64 0, .slice none 0 0] 29)
  have HB := hid (Below.alloc1 w (.cells #[.int .i64 1, .int .i64 N, .float .f64 0, .slice none 0 0] 29))
  have HR := hid R
  clear R
  have q0 := as_int_int
  go_enter Tryz.func193, Tryz.ntmps193
  go_wp2_with fail
  exact bodyPost_ret (results_cell_row Tryz.results193 _ _ w.heap.size 29 _ (0, 0) _ rfl HR.out Tryz.underlying29 rfl size29) rfl ⟨rfl, HB.out⟩

set_option maxRecDepth 100000 in
theorem itemOf_float (f : Nat) (w : World) :
    Calls Tryz.prog 193 #[.iface 200 (.float .f64 f)] w fun e w' => e = .returned (.agg #[.int .i64 2, .int .i64 0, .float .f64 f, .slice none 0 0]) ∧ Below w.heap.size w w' := by
  have hst := fun w a m => run_store Tryz.prog w a (.float .f64 f) m rfl
  have R := heap_alloc_new w (.cells #[.int .i64 2, .int .i64 0, .float .f64 f, .slice none 0 0] 29)
  have HB := hid (Below.alloc1 w (.cells #[.int .i64 2, .int .i64 0, .float .f64 f, .slice none 0 0] 29))
  have HR := hid R
  clear R
  have q0 := as_float_int
  have q1 := as_float_float
  go_enter Tryz.func193, Tryz.ntmps193
  go_wp2_with fail
  exact bodyPost_ret (results_cell_row Tryz.results193 _ _ w.heap.size 29 _ (0, 0) _ rfl HR.out Tryz.underlying29 rfl size29) rfl ⟨rfl, HB.out⟩

set_option maxRecDepth 100000 in
theorem itemOf_none (w : World) :
    Calls Tryz.prog 193 #[.iface 203 (.agg #[])] w fun e w' => e = .returned (.agg #[.int .i64 0, .int .i64 0, .float .f64 0, .slice none 0 0]) ∧ Below w.heap.size w w' := by
  have hst := fun w a m => run_store Tryz.prog w a (.float .f64 0) m rfl
  have R := heap_alloc_new w (.cells #[.int .i64 0, .int .i64 0, .float .f64 0, .slice none 0 0] 29)
  have HB := hid (Below.alloc1 w (.cells #[.int .i64 0, .int .i64 0, .float .f64 0, .slice none 0 0] 29))
  have HR := hid R
  clear R
  have q0 := as_none_int
  have q1 := as_none_float
  have q2 := as_none_text
  go_enter Tryz.func193, Tryz.ntmps193
  go_wp2_with fail
  exact bodyPost_ret (results_cell_row Tryz.results193 _ _ w.heap.size 29 _ (0, 0) _ rfl HR.out Tryz.underlying29 rfl size29) rfl ⟨rfl, HB.out⟩

set_option maxRecDepth 100000 in
set_option maxHeartbeats 1600000 in
theorem itemOf_text {ad : Option Addr} {n : Nat} (cap : Nat) {zs : List Int} {w : World} (h : Reads w ad n zs) (hn : n ≤ 2097152) :
    Calls Tryz.prog 193 #[.iface 201 (.slice ad n cap)] w fun e w' => ∃ v, e = .returned (.agg #[.int .i64 3, .int .i64 0, .float .f64 0, v]) ∧ w'.ownsRow w.heap.size 5 1 v n (bys zs) ∧ Below w.heap.size w w' := by
  have hst := fun w a m => run_store Tryz.prog w a (.float .f64 0) m rfl
  have hbd := h.bd
  have R := heap_alloc_new w (.cells #[.int .i64 0, .int .i64 0, .float .f64 0, .slice none 0 0] 29)
  have HB := hid (Below.alloc1 w (.cells #[.int .i64 0, .int .i64 0, .float .f64 0, .slice none 0 0] 29))
  have h1 := h.alloc (.cells #[.int .i64 0, .int .i64 0, .float .f64 0, .slice none 0 0] 29)
  have HZ := hid (alloc_size w (.cells #[.int .i64 0, .int .i64 0, .float .f64 0, .slice none 0 0] 29))
  have HR := hid R
  clear R h
  have q0 := as_text_int
  have q1 := as_text_float
  have q2 := as_text_text
  go_enter Tryz.func193, Tryz.ntmps193
  go_wp2_with fail
  refine (bytes_clone cap h1 hn).mono ?_
  rintro e w1 ⟨v, rfl, o, b⟩
  obtain ⟨ad1, cap1, rfl, r1, _⟩ := Reads.own o hbd
  have z := HZ.out
  have S1 := (b.block w.heap.size (by omega)).trans HR.out
  have B1 := HB.out.trans (b.mono HB.out.size)
  have T1 := hid S1
  rw [z] at o
  have O := hid o
  clear S1 b z HZ HB HR o r1 h1
  go_wp2_with (first
    | (refine wpList_store_row rfl 29 (.tmp 2) (.tmp 22) rfl w.heap.size #[.int .i64 3, .int .i64 0, .float .f64 0, .slice ad1 n cap1] rfl rfl 29 _ T1.out ?s1 ?s2 ?s3 ?_))
  case s1 => exact size29
  case s2 => rfl
  case s3 => simp [Value.oneCell']
  refine bodyPost_ret (results_cell_row Tryz.results193 _ _ w.heap.size 29 _ (0, 0) _ rfl (setRow_heap _ _ _ _ _ _ T1.out) Tryz.underlying29 rfl size29) rfl ⟨_, rfl, owns_base (owns_at O.out fun k hk => ?_) (by omega), below_setRow B1 (by omega) _⟩
  rw [setRow_other _ _ _ _ (by omega)]
end Go.Proofs.YtebhipicfgnajaaGreat
/- getHighFirst and floatWithBits of the program; what is read of bytes. -/


namespace Go.Proofs.YtebhipicfgnajaaGreat
open Go.RowKit

set_option maxRecDepth 100000 in
set_option maxHeartbeats 1600000 in
theorem impl_getHigh {ad : Option Addr} {n : Nat} (cap : Nat) {zs : List Int} {w : World} (h : Reads w ad n zs) (hn : n = 8) :
    Calls Tryz.prog 197 #[.slice ad n cap] w fun e w' => e = .returned (.tuple #[.int .u64 (low zs : Int), .bool true]) ∧ w' = w := by
  have hl := h.len
  subst hn
  go_enter Tryz.func197, Tryz.ntmps197
  go_wp2
  go_loopw [4, 12] (fun s i wr => ∃ k x : Nat, k ≤ 8 ∧ s = .int .u64 (x : Int) ∧ i = .int .i64 k ∧ x < 18446744073709551616 ∧ Hid (x = low (zs.take k)) ∧ wr = w) (fun _ i _ => 8 - (intOf i).toNat)
  case atStart => exact ⟨0, 0, Nat.zero_le _, rfl, rfl, by omega, hid (by rw [List.take_zero]; rfl), rfl⟩
  case round =>
    obtain ⟨k, x, hk, rfl, rfl, hx, HX, rfl⟩ := hrel
    by_cases hlt : k < 8
    · rcases h.cells with h0 | ⟨b, off, rfl, hc⟩
      · omega
      have c1 := hc k hlt
      have hb := h.bd k
      have HS := hid (low_step zs k (by omega))
      obtain ⟨y, hy⟩ := Int.eq_ofNat_of_zero_le hb.1
      have HY := hid hy
      rw [hy] at c1 hb
      have ho := or_shl x y (by omega)
      have hlt' : (k : Int) < 8 := by omega
      have hk0 : (0 : Int) ≤ (k : Int) := by omega
      have hxx : (x * 256 + y) % 18446744073709551616 < 18446744073709551616 := Nat.mod_lt _ (by omega)
      obtain ⟨q, hq⟩ : ∃ q, Hid ((x * 256 + y) % 18446744073709551616 = q) := ⟨_, rfl⟩
      have hq' := hq.out
      rw [hq'] at ho hxx
      clear hc hy hq'
      go_wp2
      go_roundw
      case rel => exact ⟨k + 1, q, by omega, rfl, by go_num, hxx, hid (by rw [HS.out, ← HX.out, HY.out, Int.toNat_natCast, hq.out]), by first | trivial | rfl⟩
      case measure => simp [intOf]; omega
    · have hk8 : k = 8 := by omega
      subst hk8
      have HE := hid (show x = low zs by rw [HX.out, List.take_of_length_le (by omega)])
      go_wp2
      go_ret2
      exact ⟨by rw [HE.out]; rfl, rfl⟩

set_option maxRecDepth 100000 in
theorem impl_getHigh_no (ad : Option Addr) (n cap : Nat) (hn : n ≠ 8) (w : World) :
    Calls Tryz.prog 197 #[.slice ad n cap] w fun e w' => e = .returned (.tuple #[.int .u64 0, .bool false]) ∧ w' = w := by
  have q : ((n : Int) != 8) = true := by simp only [bne_iff_ne]; omega
  go_enter Tryz.func197, Tryz.ntmps197
  go_wp2
  go_ret2
  exact ⟨rfl, rfl⟩

theorem fbits_same {b y : Nat} (h1 : isN b = false → y = b) (h2 : isN b = isN y) : fbits y = fbits b := by
  unfold fbits
  by_cases hn : isN b = true
  · rw [if_pos hn, if_pos (by rw [← h2]; exact hn)]
  · have hn' : isN b = false := by simpa using hn
    rw [h1 hn']

theorem fbits_u64 (b : Nat) : (((fbits b : Nat) : Int) == (b : Int)) = decide (fbits b = b) := by
  by_cases h : fbits b = b
  · rw [h]; simp
  · rw [decide_eq_false h]; simp only [beq_eq_false_iff_ne]; omega

/-- What a rank tells, and what bits tell. -/
def unfK (k : Nat) : Option Nat := if frank (back k) = k then some (back k) else none
def unfV (b : Nat) : Option Nat := if fbits b = b then some b else none

/-- A function that turns numbers into floats. -/
def Dec (fn : Nat) (d : Nat → Option Nat) : Prop := ∀ (x : Nat) (w : World), x < 18446744073709551616 → Calls Tryz.prog fn #[.int .u64 x] w fun e w' => ∃ (y : Nat) (ok : Bool), e = .returned (.tuple #[.float .f64 y, .bool ok]) ∧ y < 18446744073709551616 ∧ Hid (d x = if ok = true then some y else none) ∧ w' = w

theorem dec_rank : Dec 187 unfK := by
  intro x w hx
  refine (impl_FloatUnrank x hx w).mono ?_
  rintro e w' ⟨rfl, rfl⟩
  by_cases h : frank (back x) = x
  · rw [if_pos h]
    exact ⟨_, _, rfl, back_lt x hx, hid (by rw [unfK, if_pos h]; rfl), rfl⟩
  · rw [if_neg h]
    exact ⟨_, _, rfl, by omega, hid (by rw [unfK, if_neg h]; rfl), rfl⟩

set_option maxRecDepth 100000 in
theorem dec_bits : Dec 188 unfV := by
  intro x w hx
  have hd : Hid (unfV x = if decide (fbits x = x) = true then some x else none) := hid (by
    unfold unfV
    by_cases h : fbits x = x
    · rw [if_pos h, decide_eq_true h]; rfl
    · rw [if_neg h, decide_eq_false h]; rfl)
  have hb := fbits_u64 x
  generalize decide (fbits x = x) = ok at *
  go_enter Tryz.func188, Tryz.ntmps188
  go_wp2_with fail
  refine (impl_FloatOf x _).mono ?_
  rintro e w1 ⟨rfl, rfl⟩
  go_wp2_with fail
  refine (impl_FloatBits x hx _).mono ?_
  rintro e w2 ⟨rfl, rfl⟩
  generalize fbits x = fb at *
  go_wp2_with fail
  go_ret2
  exact ⟨_, _, rfl, hx, hd, rfl⟩
end Go.Proofs.YtebhipicfgnajaaGreat
/- contentRead of the program. -/

namespace Go.Proofs.YtebhipicfgnajaaGreat
open Go.RowKit

theorem unlift (x : Nat) (hx : x < 18446744073709551616) : IntKind.i64.wrap (IntKind.u64.wrap ((x : Int) - 9223372036854775808)) = (x : Int) - 9223372036854775808 := by
  simp [IntKind.wrap, IntKind.bits, IntKind.signed]
  omega

set_option maxRecDepth 100000 in
set_option maxHeartbeats 1600000 in
theorem read_text (fn : Nat) (ad : Option Addr) (n cap : Nat) (w : World) :
    Calls Tryz.prog 192 #[.int .i64 3, .slice ad n cap, .func (.func fn) #[] #[]] w fun e w' => e = .returned (.tuple #[.iface 201 (.slice ad n cap), .bool (decide (n ≤ 40))]) ∧ w' = w := by
  by_cases h : n ≤ 40
  · rw [decide_eq_true h]
    have h' : (n : Int) ≤ 40 := by omega
    go_enter Tryz.func192, Tryz.ntmps192
    go_wp2
    go_ret2
    exact ⟨rfl, rfl⟩
  · rw [decide_eq_false h]
    have h' : ¬ (n : Int) ≤ 40 := by omega
    go_enter Tryz.func192, Tryz.ntmps192
    go_wp2
    go_ret2
    exact ⟨by first | rfl | (show Ending.returned (.tuple #[_, .bool (decide ((n : Int) ≤ 40))]) = _; rw [decide_eq_false (show ¬ (n : Int) ≤ 40 by omega)]), rfl⟩

set_option maxRecDepth 100000 in
set_option maxHeartbeats 1600000 in
theorem read_int (fn : Nat) {ad : Option Addr} {n : Nat} (cap : Nat) {zs : List Int} {w : World} (h : Reads w ad n zs) (hn : n = 8) :
    Calls Tryz.prog 192 #[.int .i64 1, .slice ad n cap, .func (.func fn) #[] #[]] w fun e w' => e = .returned (.tuple #[.iface 199 (.int .i64 ((low zs : Int) - 9223372036854775808)), .bool true]) ∧ w' = w := by
  have hx : low zs < 18446744073709551616 := low_lt zs 0 (by omega)
  have hu := unlift (low zs) hx
  have hg := impl_getHigh cap h hn
  generalize low zs = x at *
  clear h hn
  go_enter Tryz.func192, Tryz.ntmps192
  go_wp2_with fail
  refine hg.mono ?_
  rintro e w1 ⟨rfl, rfl⟩
  go_wp2_with fail
  go_ret2
  exact ⟨rfl, rfl⟩

end Go.Proofs.YtebhipicfgnajaaGreat
/- contentRead of the program, at floats and at what is none. -/

namespace Go.Proofs.YtebhipicfgnajaaGreat
open Go.RowKit

set_option maxRecDepth 100000 in
set_option maxHeartbeats 1600000 in
theorem read_float_K {ad : Option Addr} {n : Nat} (cap : Nat) {zs : List Int} {w : World} (h : Reads w ad n zs) (hn : n = 8) :
    Calls Tryz.prog 192 #[.int .i64 2, .slice ad n cap, .func (.func 187) #[] #[]] w fun e w' => ∃ (y : Nat) (ok : Bool), e = .returned (.tuple #[.iface 200 (.float .f64 y), .bool ok]) ∧ y < 18446744073709551616 ∧ Hid (unfK (low zs) = if ok = true then some y else none) ∧ w' = w := by
  have hx : low zs < 18446744073709551616 := low_lt zs 0 (by omega)
  have hg := impl_getHigh cap h hn
  have hf := hid (dec_rank (low zs))
  generalize low zs = x at *
  clear h hn
  go_enter Tryz.func192, Tryz.ntmps192
  go_wp2_with fail
  refine hg.mono ?_
  rintro e w1 ⟨rfl, h1⟩
  subst w1
  clear hg
  go_wp2_with fail
  refine (hf.out _ hx).mono ?_
  rintro e w2 ⟨y, ok, rfl, hy, HD, h2⟩
  subst w2
  cases ok
  · go_wp2_with fail
    go_ret2
    exact ⟨_, _, rfl, hy, HD, rfl⟩
  · go_wp2_with fail
    go_ret2
    exact ⟨_, _, rfl, hy, HD, rfl⟩

set_option maxRecDepth 100000 in
set_option maxHeartbeats 1600000 in
theorem read_short_K (K : Int) (h3 : K ≠ 3) (ad : Option Addr) (n cap : Nat) (hn : n ≠ 8) (w : World) :
    Calls Tryz.prog 192 #[.int .i64 K, .slice ad n cap, .func (.func 187) #[] #[]] w fun e w' => ∃ v, e = .returned (.tuple #[v, .bool false]) ∧ w' = w := by
  have hg := impl_getHigh_no ad n cap hn
  have hf := hid (dec_rank 0)
  have q3 : (K == 3) = false := by simp [h3]
  clear hn h3
  by_cases h1 : K = 1
  · subst h1
    go_enter Tryz.func192, Tryz.ntmps192
    go_wp2_with fail
    refine (hg _).mono ?_
    rintro e w1 ⟨rfl, h1⟩
    subst w1
    clear hg
    go_wp2_with fail
    go_ret2
    exact ⟨_, rfl, rfl⟩
  have q1 : (K == 1) = false := by simp [h1]
  by_cases h2 : K = 2
  · subst h2
    go_enter Tryz.func192, Tryz.ntmps192
    go_wp2_with fail
    refine (hg _).mono ?_
    rintro e w1 ⟨rfl, h1⟩
    subst w1
    clear hg
    go_wp2_with fail
    refine (hf.out _ (by omega)).mono ?_
    rintro e w2 ⟨y, ok, rfl, hy, HD, h2⟩
    subst w2
    go_wp2_with fail
    go_ret2
    exact ⟨_, rfl, rfl⟩
  have q2 : (K == 2) = false := by simp [h2]
  clear h1 h2
  go_enter Tryz.func192, Tryz.ntmps192
  go_wp2_with fail
  refine (hg _).mono ?_
  rintro e w1 ⟨rfl, h1⟩
  subst w1
  clear hg
  go_wp2_with fail
  go_ret2
  exact ⟨_, rfl, rfl⟩

set_option maxRecDepth 100000 in
set_option maxHeartbeats 1600000 in
theorem read_other_K (K : Int) (h1 : K ≠ 1) (h2 : K ≠ 2) (h3 : K ≠ 3) {ad : Option Addr} {n : Nat} (cap : Nat) {zs : List Int} {w : World} (h : Reads w ad n zs) (hn : n = 8) :
    Calls Tryz.prog 192 #[.int .i64 K, .slice ad n cap, .func (.func 187) #[] #[]] w fun e w' => ∃ v, e = .returned (.tuple #[v, .bool false]) ∧ w' = w := by
  have hg := impl_getHigh cap h hn
  generalize low zs = x at *
  have q3 : (K == 3) = false := by simp [h3]
  have q1 : (K == 1) = false := by simp [h1]
  have q2 : (K == 2) = false := by simp [h2]
  clear h1 h2 h3 h hn
  go_enter Tryz.func192, Tryz.ntmps192
  go_wp2_with fail
  refine hg.mono ?_
  rintro e w1 ⟨rfl, h1⟩
  subst w1
  clear hg
  go_wp2_with fail
  go_ret2
  exact ⟨_, rfl, rfl⟩

set_option maxRecDepth 100000 in
set_option maxHeartbeats 1600000 in
theorem read_float_V {ad : Option Addr} {n : Nat} (cap : Nat) {zs : List Int} {w : World} (h : Reads w ad n zs) (hn : n = 8) :
    Calls Tryz.prog 192 #[.int .i64 2, .slice ad n cap, .func (.func 188) #[] #[]] w fun e w' => ∃ (y : Nat) (ok : Bool), e = .returned (.tuple #[.iface 200 (.float .f64 y), .bool ok]) ∧ y < 18446744073709551616 ∧ Hid (unfV (low zs) = if ok = true then some y else none) ∧ w' = w := by
  have hx : low zs < 18446744073709551616 := low_lt zs 0 (by omega)
  have hg := impl_getHigh cap h hn
  have hf := hid (dec_bits (low zs))
  generalize low zs = x at *
  clear h hn
  go_enter Tryz.func192, Tryz.ntmps192
  go_wp2_with fail
  refine hg.mono ?_
  rintro e w1 ⟨rfl, h1⟩
  subst w1
  clear hg
  go_wp2_with fail
  refine (hf.out _ hx).mono ?_
  rintro e w2 ⟨y, ok, rfl, hy, HD, h2⟩
  subst w2
  cases ok
  · go_wp2_with fail
    go_ret2
    exact ⟨_, _, rfl, hy, HD, rfl⟩
  · go_wp2_with fail
    go_ret2
    exact ⟨_, _, rfl, hy, HD, rfl⟩

set_option maxRecDepth 100000 in
set_option maxHeartbeats 1600000 in
theorem read_short_V (K : Int) (h3 : K ≠ 3) (ad : Option Addr) (n cap : Nat) (hn : n ≠ 8) (w : World) :
    Calls Tryz.prog 192 #[.int .i64 K, .slice ad n cap, .func (.func 188) #[] #[]] w fun e w' => ∃ v, e = .returned (.tuple #[v, .bool false]) ∧ w' = w := by
  have hg := impl_getHigh_no ad n cap hn
  have hf := hid (dec_bits 0)
  have q3 : (K == 3) = false := by simp [h3]
  clear hn h3
  by_cases h1 : K = 1
  · subst h1
    go_enter Tryz.func192, Tryz.ntmps192
    go_wp2_with fail
    refine (hg _).mono ?_
    rintro e w1 ⟨rfl, h1⟩
    subst w1
    clear hg
    go_wp2_with fail
    go_ret2
    exact ⟨_, rfl, rfl⟩
  have q1 : (K == 1) = false := by simp [h1]
  by_cases h2 : K = 2
  · subst h2
    go_enter Tryz.func192, Tryz.ntmps192
    go_wp2_with fail
    refine (hg _).mono ?_
    rintro e w1 ⟨rfl, h1⟩
    subst w1
    clear hg
    go_wp2_with fail
    refine (hf.out _ (by omega)).mono ?_
    rintro e w2 ⟨y, ok, rfl, hy, HD, h2⟩
    subst w2
    go_wp2_with fail
    go_ret2
    exact ⟨_, rfl, rfl⟩
  have q2 : (K == 2) = false := by simp [h2]
  clear h1 h2
  go_enter Tryz.func192, Tryz.ntmps192
  go_wp2_with fail
  refine (hg _).mono ?_
  rintro e w1 ⟨rfl, h1⟩
  subst w1
  clear hg
  go_wp2_with fail
  go_ret2
  exact ⟨_, rfl, rfl⟩

set_option maxRecDepth 100000 in
set_option maxHeartbeats 1600000 in
theorem read_other_V (K : Int) (h1 : K ≠ 1) (h2 : K ≠ 2) (h3 : K ≠ 3) {ad : Option Addr} {n : Nat} (cap : Nat) {zs : List Int} {w : World} (h : Reads w ad n zs) (hn : n = 8) :
    Calls Tryz.prog 192 #[.int .i64 K, .slice ad n cap, .func (.func 188) #[] #[]] w fun e w' => ∃ v, e = .returned (.tuple #[v, .bool false]) ∧ w' = w := by
  have hg := impl_getHigh cap h hn
  generalize low zs = x at *
  have q3 : (K == 3) = false := by simp [h3]
  have q1 : (K == 1) = false := by simp [h1]
  have q2 : (K == 2) = false := by simp [h2]
  clear h1 h2 h3 h hn
  go_enter Tryz.func192, Tryz.ntmps192
  go_wp2_with fail
  refine hg.mono ?_
  rintro e w1 ⟨rfl, h1⟩
  subst w1
  clear hg
  go_wp2_with fail
  go_ret2
  exact ⟨_, rfl, rfl⟩

end Go.Proofs.YtebhipicfgnajaaGreat
/- The program's ItemOk. -/

namespace Go.Proofs.YtebhipicfgnajaaGreat
open Go.RowKit
set_option maxRecDepth 100000 in
set_option maxHeartbeats 1600000 in
theorem impl_ItemOk (K N : Int) (f : Nat) (ad : Option Addr) (n cap : Nat) (hf : f < 18446744073709551616) (hn : n ≤ 2097152) (w : World) :
    Calls Tryz.prog 123 #[.agg #[.int .i64 K, .int .i64 N, .float .f64 f, .slice ad n cap]] w fun e w' => e = .returned (.bool (okI K N f n)) ∧ Below w.heap.size w w' := by
  have hA : Below w.heap.size w (w.alloc (.cells #[.int .i64 K, .int .i64 N, .float .f64 f, .slice ad n cap] 29)) := (Below.refl _ _).alloc (Nat.le_refl _) _
  have HA := hid hA
  clear hA
  by_cases h1 : K < 0
  · rw [show okI K N f n = false from decide_eq_false (by omega)]
    go_enter Tryz.func123, Tryz.ntmps123
    go_wp2
    go_ret
    exact ⟨rfl, HA.out⟩
  by_cases h2 : 3 < K
  · rw [show okI K N f n = false from decide_eq_false (by omega)]
    go_enter Tryz.func123, Tryz.ntmps123
    go_wp2
    go_ret
    exact ⟨rfl, HA.out⟩
  by_cases h3 : 40 < n
  · rw [show okI K N f n = false from decide_eq_false (by omega)]
    have h3' : (40 : Int) < (n : Int) := by omega
    go_enter Tryz.func123, Tryz.ntmps123
    go_wp2
    go_ret
    exact ⟨rfl, HA.out⟩
  have h3' : ¬ (40 : Int) < (n : Int) := by omega
  by_cases h4 : K ≠ 1 ∧ N ≠ 0
  · rw [show okI K N f n = false from decide_eq_false (by omega)]
    have q1 : (K == 1) = false := by simp [h4.1]
    have q2 : (N == 0) = false := by simp [h4.2]
    go_enter Tryz.func123, Tryz.ntmps123
    go_wp2
    go_ret
    exact ⟨rfl, HA.out⟩
  by_cases h5 : K = 1
  · subst h5
    by_cases h6 : f = 0
    · subst h6
      have hz : fbits 0 = 0 := by decide
      by_cases h7 : n = 0
      · subst h7
        rw [show okI 1 N 0 0 = true from decide_eq_true (by omega)]
        go_enter Tryz.func123, Tryz.ntmps123
        go_wp2_with fail
        refine (impl_FloatBits 0 hf _).mono ?_
        rintro e w1 ⟨rfl, rfl⟩
        rw [hz]
        go_wp2_with fail
        go_ret
        exact ⟨rfl, HA.out⟩
      · rw [show okI 1 N 0 n = false from decide_eq_false (by omega)]
        have q7 : ((n : Int) == 0) = false := beq_eq_false_iff_ne.2 (by omega)
        go_enter Tryz.func123, Tryz.ntmps123
        go_wp2_with fail
        refine (impl_FloatBits 0 hf _).mono ?_
        rintro e w1 ⟨rfl, rfl⟩
        rw [hz]
        go_wp2_with fail
        go_ret
        exact ⟨rfl, HA.out⟩
    · rw [show okI 1 N f n = false from decide_eq_false (by omega)]
      have q6 : ((fbits f : Int) == 0) = false := by have := fbits_ne f h6; simpa using this
      go_enter Tryz.func123, Tryz.ntmps123
      go_wp2_with fail
      refine (impl_FloatBits f hf _).mono ?_
      rintro e w1 ⟨rfl, rfl⟩
      go_wp2_with fail
      go_ret
      exact ⟨rfl, HA.out⟩
  have h8 : N = 0 := by omega
  subst h8
  have q1 : (K == 1) = false := by simp [h5]
  by_cases h9 : K = 2
  · subst h9
    by_cases h7 : n = 0
    · subst h7
      rw [show okI 2 0 f 0 = true from decide_eq_true (by omega)]
      go_enter Tryz.func123, Tryz.ntmps123
      go_wp2
      go_ret
      exact ⟨rfl, HA.out⟩
    · rw [show okI 2 0 f n = false from decide_eq_false (by omega)]
      have q7 : ((n : Int) == 0) = false := beq_eq_false_iff_ne.2 (by omega)
      go_enter Tryz.func123, Tryz.ntmps123
      go_wp2
      go_ret
      exact ⟨rfl, HA.out⟩
  have q9 : (K == 2) = false := by simp [h9]
  by_cases h6 : f = 0
  · subst h6
    have hz : fbits 0 = 0 := by decide
    by_cases h7 : K = 3
    · subst h7
      rw [show okI 3 0 0 n = true from decide_eq_true (by omega)]
      go_enter Tryz.func123, Tryz.ntmps123
      go_wp2_with fail
      refine (impl_FloatBits 0 hf _).mono ?_
      rintro e w1 ⟨rfl, rfl⟩
      rw [hz]
      go_wp2_with fail
      go_ret
      exact ⟨rfl, HA.out⟩
    · have h10 : K = 0 := by omega
      subst h10
      by_cases h7 : n = 0
      · subst h7
        rw [show okI 0 0 0 0 = true from decide_eq_true (by omega)]
        go_enter Tryz.func123, Tryz.ntmps123
        go_wp2_with fail
        refine (impl_FloatBits 0 hf _).mono ?_
        rintro e w1 ⟨rfl, rfl⟩
        rw [hz]
        go_wp2_with fail
        go_ret
        exact ⟨rfl, HA.out⟩
      · rw [show okI 0 0 0 n = false from decide_eq_false (by omega)]
        have q7 : ((n : Int) == 0) = false := beq_eq_false_iff_ne.2 (by omega)
        go_enter Tryz.func123, Tryz.ntmps123
        go_wp2_with fail
        refine (impl_FloatBits 0 hf _).mono ?_
        rintro e w1 ⟨rfl, rfl⟩
        rw [hz]
        go_wp2_with fail
        go_ret
        exact ⟨rfl, HA.out⟩
  · rw [show okI K 0 f n = false from decide_eq_false (by omega)]
    have q6 : ((fbits f : Int) == 0) = false := by have := fbits_ne f h6; simpa using this
    go_enter Tryz.func123, Tryz.ntmps123
    go_wp2_with fail
    refine (impl_FloatBits f hf _).mono ?_
    rintro e w1 ⟨rfl, rfl⟩
    go_wp2_with fail
    go_ret
    exact ⟨rfl, HA.out⟩

end Go.Proofs.YtebhipicfgnajaaGreat
/- The program's KeyOk. -/

namespace Go.Proofs.YtebhipicfgnajaaGreat
open Go.RowKit
theorem fbits_top (f : Nat) : fbits f = 9223372036854775808 ↔ f = 9223372036854775808 := by
  by_cases h : isN f = true
  · rw [fbits, if_pos h]
    constructor
    · intro h'; omega
    · intro h'; subst h'; exact absurd h (by decide)
  · rw [fbits, if_neg h]

set_option maxRecDepth 100000 in
set_option maxHeartbeats 1600000 in
theorem impl_KeyOk (K N : Int) (f : Nat) (ad : Option Addr) (n cap : Nat) (hf : f < 18446744073709551616) (hn : n ≤ 2097152) (w : World) :
    Calls Tryz.prog 66 #[.agg #[.int .i64 K, .int .i64 N, .float .f64 f, .slice ad n cap]] w fun e w' => e = .returned (.bool (okK K N f n)) ∧ Below w.heap.size w w' := by
  have hI := impl_ItemOk K N f ad n cap hf hn
  have hA : Below w.heap.size w (w.alloc (.cells #[.int .i64 K, .int .i64 N, .float .f64 f, .slice ad n cap] 29)) := (Below.refl _ _).alloc (Nat.le_refl _) _
  have hB := Box.new w K N f ad n cap 29
  by_cases hok : okI K N f n = true
  · rw [hok] at hI
    by_cases hK : K = 0
    · rw [show okK K N f n = false by rw [okK, decide_eq_false (by omega), Bool.and_false]]
      have q : (K != 0) = false := by simp [hK]
      clear hK hok
      go_enter Tryz.func66, Tryz.ntmps66
      go_wp2_with fail
      refine (hI _).mono ?_
      rintro e w1 ⟨rfl, b1⟩
      have B := hid (hA.trans (b1.mono hA.size))
      obtain ⟨c0, c1, c2, c3⟩ := hB.below b1 (by simp)
      clear hA b1 hB hI
      go_wp2_with fail
      go_ret
      exact ⟨rfl, B.out⟩
    · have q : (K != 0) = true := by simp [hK]
      by_cases hF : f = 9223372036854775808
      · rw [show okK K N f n = false by rw [okK, decide_eq_false (fun h => h.2 hF), Bool.and_false]]
        have q2 : ((fbits f : Int) != 9223372036854775808) = false := by rw [(fbits_top f).2 hF]; rfl
        clear hK hok hF
        go_enter Tryz.func66, Tryz.ntmps66
        go_wp2_with fail
        refine (hI _).mono ?_
        rintro e w1 ⟨rfl, b1⟩
        have B := hid (hA.trans (b1.mono hA.size))
        obtain ⟨c0, c1, c2, c3⟩ := hB.below b1 (by simp)
        clear hA b1 hB hI
        go_wp2_with fail
        refine (impl_FloatBits f hf _).mono ?_
        rintro e w2 ⟨rfl, rfl⟩
        go_wp2_with fail
        go_ret
        exact ⟨rfl, B.out⟩
      · rw [show okK K N f n = true by rw [okK, hok, decide_eq_true ⟨hK, hF⟩]; rfl]
        have q2 : ((fbits f : Int) != 9223372036854775808) = true := by
          have : ¬ fbits f = 9223372036854775808 := fun e => hF ((fbits_top f).1 e)
          simp only [bne_iff_ne]; omega
        clear hK hok hF
        go_enter Tryz.func66, Tryz.ntmps66
        go_wp2_with fail
        refine (hI _).mono ?_
        rintro e w1 ⟨rfl, b1⟩
        have B := hid (hA.trans (b1.mono hA.size))
        obtain ⟨c0, c1, c2, c3⟩ := hB.below b1 (by simp)
        clear hA b1 hB hI
        go_wp2_with fail
        refine (impl_FloatBits f hf _).mono ?_
        rintro e w2 ⟨rfl, rfl⟩
        go_wp2_with fail
        go_ret
        exact ⟨rfl, B.out⟩
  · have hok' : okI K N f n = false := by simpa using hok
    rw [show okK K N f n = false by rw [okK, hok', Bool.false_and]]
    rw [hok'] at hI
    clear hok hok'
    go_enter Tryz.func66, Tryz.ntmps66
    go_wp2_with fail
    refine (hI _).mono ?_
    rintro e w1 ⟨rfl, b1⟩
    have B := hid (hA.trans (b1.mono hA.size))
    clear hA b1 hB hI
    go_wp2_with fail
    go_ret
    exact ⟨rfl, B.out⟩
end Go.Proofs.YtebhipicfgnajaaGreat
/- Bytes as strings: what the conversion gives. No conditions. -/



namespace Go.Proofs.YtebhipicfgnajaaGreat
open Go.RowKit

/-- The string of these bytes. -/
def str (zs : List Int) : ByteArray := ⟨(zs.map fun n => UInt8.ofNat n.toNat).toArray⟩
/-- A slice of bytes as a string. -/
theorem Reads.str {w : World} {ad : Option Addr} {n : Nat} {zs : List Int} (h : Reads w ad n zs) (cap : Nat) (src : TypeId) (hs : Tryz.prog.underlying src = some (.slice 5)) (he : Tryz.prog.underlying 5 = some (.int .u8)) (hd : Tryz.prog.underlying 9 = some .string) :
    (convert src 9 (.slice ad n cap)).run Tryz.prog w = .ok (.string (str zs)) w := by
  have hl := h.len
  rcases h.cells with h0 | ⟨b, off, rfl, hc⟩
  · subst h0
    have hz : zs = [] := List.length_eq_zero_iff.1 hl
    subst hz
    cases ad with
    | none => exact run_convert_bytes_nil w src 5 hs he 0 cap 9 hd
    | some a =>
      rw [run_convert_bytes_string w src 9 5 _ 0 cap hs he hd, run_bytesToString w a 0 cap [] (by simp [loadCells, loadCellsFrom])]
      rfl
  · exact run_convert_bytes_arg w src 5 hs he b off n cap zs hl hc 9 hd
end Go.Proofs.YtebhipicfgnajaaGreat
/- Bytes as strings: what the conversion gives, and how two such strings are held against each other. -/




namespace Go.Proofs.YtebhipicfgnajaaGreat
open Go.RowKit

def us (zs : List Int) : List UInt8 := zs.map fun n => UInt8.ofNat n.toNat
def inB (zs : List Int) : Prop := ∀ i, 0 ≤ zs.getD i 0 ∧ zs.getD i 0 ≤ 255

theorem str_list (zs : List Int) : (str zs).toList = us zs := by
  rw [ByteArray.toList_eq]
  rfl

theorem inB.head {x : Int} {xs : List Int} (h : inB (x :: xs)) : 0 ≤ x ∧ x ≤ 255 := h 0
theorem inB.tail {x : Int} {xs : List Int} (h : inB (x :: xs)) : inB xs := fun i => h (i + 1)

theorem u8_lt (x y : Int) (hx : 0 ≤ x ∧ x ≤ 255) (hy : 0 ≤ y ∧ y ≤ 255) : (UInt8.ofNat x.toNat < UInt8.ofNat y.toNat) ↔ x < y := by
  rw [UInt8.lt_iff_toNat_lt, UInt8.toNat_ofNat', UInt8.toNat_ofNat']
  omega
theorem u8_eq (x y : Int) (hx : 0 ≤ x ∧ x ≤ 255) (hy : 0 ≤ y ∧ y ≤ 255) : (UInt8.ofNat x.toNat = UInt8.ofNat y.toNat) ↔ x = y := by
  rw [← UInt8.toNat_inj, UInt8.toNat_ofNat', UInt8.toNat_ofNat']
  omega

theorem less_txt : ∀ (zs ys : List Int), inB zs → inB ys → Op.bytesLess (us zs) (us ys) = decide (txt zs ys = -1)
  | [], [], _, _ => rfl
  | [], _ :: _, _, _ => rfl
  | _ :: _, [], _, _ => rfl
  | x :: xs, y :: ys, hx, hy => by
    have ih := less_txt xs ys hx.tail hy.tail
    show (decide (UInt8.ofNat x.toNat < UInt8.ofNat y.toNat) || (UInt8.ofNat x.toNat == UInt8.ofNat y.toNat && Op.bytesLess (us xs) (us ys))) = _
    rw [ih]
    have e1 := u8_lt x y hx.head hy.head
    have e2 := u8_eq x y hx.head hy.head
    show _ = decide ((if x < y then -1 else if y < x then 1 else txt xs ys) = -1)
    by_cases h1 : x < y
    · rw [if_pos h1, decide_eq_true (e1.2 h1)]; rfl
    · rw [if_neg h1, decide_eq_false (fun h => h1 (e1.1 h))]
      by_cases h2 : y < x
      · rw [if_pos h2, beq_eq_false_iff_ne.2 (fun h => by have := e2.1 h; omega)]; rfl
      · rw [if_neg h2, beq_iff_eq.2 (e2.2 (by omega))]; simp

theorem eq_txt : ∀ (zs ys : List Int), inB zs → inB ys → (us zs == us ys) = decide (txt zs ys = 0)
  | [], [], _, _ => rfl
  | [], _ :: _, _, _ => rfl
  | _ :: _, [], _, _ => rfl
  | x :: xs, y :: ys, hx, hy => by
    have ih := eq_txt xs ys hx.tail hy.tail
    show (UInt8.ofNat x.toNat == UInt8.ofNat y.toNat && (us xs == us ys)) = _
    rw [ih]
    have e2 := u8_eq x y hx.head hy.head
    show _ = decide ((if x < y then -1 else if y < x then 1 else txt xs ys) = 0)
    by_cases h1 : x < y
    · rw [if_pos h1, beq_eq_false_iff_ne.2 (fun h => by have := e2.1 h; omega)]; rfl
    · rw [if_neg h1]
      by_cases h2 : y < x
      · rw [if_pos h2, beq_eq_false_iff_ne.2 (fun h => by have := e2.1 h; omega)]; rfl
      · rw [if_neg h2, beq_iff_eq.2 (e2.2 (by omega))]; simp

theorem txt_zero : ∀ (zs ys : List Int), txt zs ys = 0 ↔ zs = ys
  | [], [] => by simp [txt]
  | [], _ :: _ => by simp [txt]
  | _ :: _, [] => by simp [txt]
  | x :: xs, y :: ys => by
    have ih := txt_zero xs ys
    rw [txt]
    by_cases h1 : x < y
    · rw [if_pos h1]
      constructor
      · intro h; omega
      · intro h; have := (List.cons.inj h).1; omega
    · rw [if_neg h1]
      by_cases h2 : y < x
      · rw [if_pos h2]
        constructor
        · intro h; omega
        · intro h; have := (List.cons.inj h).1; omega
      · rw [if_neg h2, ih]
        have : x = y := by omega
        subst this
        simp

theorem txt_range : ∀ (zs ys : List Int), txt zs ys = -1 ∨ txt zs ys = 0 ∨ txt zs ys = 1
  | [], [] => .inr (.inl rfl)
  | [], _ :: _ => .inl rfl
  | _ :: _, [] => .inr (.inr rfl)
  | x :: xs, y :: ys => by
    have ih := txt_range xs ys
    rw [txt]
    by_cases h1 : x < y
    · rw [if_pos h1]; exact .inl rfl
    · rw [if_neg h1]
      by_cases h2 : y < x
      · rw [if_pos h2]; exact .inr (.inr rfl)
      · rw [if_neg h2]; exact ih

end Go.Proofs.YtebhipicfgnajaaGreat
/- The program's compareOrdered, at numbers and at texts, and the library's Or. -/

namespace Go.Proofs.YtebhipicfgnajaaGreat
open Go.RowKit

/-- How two numbers stand. -/
def ci (x y : Int) : Int := if x < y then -1 else if y < x then 1 else 0

set_option maxRecDepth 100000 in
theorem impl_ordInt (x y : Int) (w : World) :
    Calls Tryz.prog 126 #[.int .i64 x, .int .i64 y] w fun e w' => e = .returned (.int .i64 (ci x y)) ∧ w' = w := by
  by_cases h1 : x < y
  · rw [show ci x y = -1 by rw [ci, if_pos h1]]
    go_enter Tryz.func126, Tryz.ntmps126
    go_wp2
    go_ret
    exact ⟨rfl, rfl⟩
  · by_cases h2 : y < x
    · rw [show ci x y = 1 by rw [ci, if_neg h1, if_pos h2]]
      go_enter Tryz.func126, Tryz.ntmps126
      go_wp2
      go_ret
      exact ⟨rfl, rfl⟩
    · rw [show ci x y = 0 by rw [ci, if_neg h1, if_neg h2]]
      go_enter Tryz.func126, Tryz.ntmps126
      go_wp2
      go_ret
      exact ⟨rfl, rfl⟩

set_option maxRecDepth 100000 in
theorem impl_ordStr (zs ys : List Int) (hz : inB zs) (hy : inB ys) (w : World) :
    Calls Tryz.prog 128 #[.string (str zs), .string (str ys)] w fun e w' => e = .returned (.int .i64 (txt zs ys)) ∧ w' = w := by
  have e1 := less_txt zs ys hz hy
  have e2 := eq_txt zs ys hz hy
  rw [← str_list, ← str_list] at e1 e2
  have hr := txt_range zs ys
  generalize str zs = s at *
  generalize str ys = t at *
  clear hz hy
  rcases hr with hr | hr | hr
  · rw [hr] at e1 e2 ⊢
    rw [show decide ((-1 : Int) = -1) = true from rfl] at e1
    clear e2 hr
    go_enter Tryz.func128, Tryz.ntmps128
    go_wp2
    go_ret
    exact ⟨rfl, rfl⟩
  · rw [hr] at e1 e2 ⊢
    rw [show decide ((0 : Int) = -1) = false from rfl] at e1
    rw [show decide ((0 : Int) = 0) = true from rfl] at e2
    clear hr
    go_enter Tryz.func128, Tryz.ntmps128
    go_wp2
    go_ret
    exact ⟨rfl, rfl⟩
  · rw [hr] at e1 e2 ⊢
    rw [show decide ((1 : Int) = -1) = false from rfl] at e1
    rw [show decide ((1 : Int) = 0) = false from rfl] at e2
    clear hr
    go_enter Tryz.func128, Tryz.ntmps128
    go_wp2
    go_ret
    exact ⟨rfl, rfl⟩

theorem upto {p : Nat → Prop} {k : Nat} (h : ∀ j, j < k → p j) (hk : p k) : ∀ j, j < k + 1 → p j := by
  intro j hj
  by_cases e : j = k
  · subst e; exact hk
  · exact h j (by omega)

/-- The first number that is not 0. -/
def or4 (a b c d : Int) : Int := if a ≠ 0 then a else if b ≠ 0 then b else if c ≠ 0 then c else d

set_option maxRecDepth 100000 in
set_option maxHeartbeats 1600000 in
theorem cmp_or (a b c d : Int) (g : Nat) (w : World) (c0 : w.cell? ⟨g, 0, none⟩ = some (.int .i64 a)) (c1 : w.cell? ⟨g, 1, none⟩ = some (.int .i64 b)) (c2 : w.cell? ⟨g, 2, none⟩ = some (.int .i64 c)) (c3 : w.cell? ⟨g, 3, none⟩ = some (.int .i64 d)) :
    Calls Tryz.prog 125 #[.slice (some ⟨g, 0, none⟩) 4 4] w fun e w' => e = .returned (.int .i64 (or4 a b c d)) ∧ w' = w := by
  have hc : ∀ k : Nat, k < 4 → w.cell? ⟨g, k, none⟩ = some (.int .i64 ([a, b, c, d].getD k 0)) := by
    intro k hk
    match k, hk with
    | 0, _ => exact c0
    | 1, _ => exact c1
    | 2, _ => exact c2
    | 3, _ => exact c3
  have hor : ∀ k : Nat, k < 4 → (∀ j, j < k → [a, b, c, d].getD j 0 = 0) → [a, b, c, d].getD k 0 ≠ 0 → [a, b, c, d].getD k 0 = or4 a b c d := by
    intro k hk h0 h1
    unfold or4
    match k, hk with
    | 0, _ => simp at h1; simp [h1]
    | 1, _ => have := h0 0 (by omega); simp at h1 this; simp [h1, this]
    | 2, _ => have := h0 0 (by omega); have := h0 1 (by omega); simp at *; simp_all
    | 3, _ => have := h0 0 (by omega); have := h0 1 (by omega); have := h0 2 (by omega); simp at *; simp_all
  have hend : (∀ j, j < 4 → [a, b, c, d].getD j 0 = 0) → or4 a b c d = 0 := by
    intro h
    have h0 := h 0 (by omega)
    have h1 := h 1 (by omega)
    have h2 := h 2 (by omega)
    have h3 := h 3 (by omega)
    simp at h0 h1 h2 h3
    simp [or4, h0, h1, h2, h3]
  generalize or4 a b c d = o at *
  generalize [a, b, c, d] = xs at *
  have HO := hid hor
  have HE := hid hend
  clear c0 c1 c2 c3 hor hend
  go_enter Tryz.func125, Tryz.ntmps125
  go_wp2
  go_loopw [8] (fun i wr => ∃ k : Nat, k ≤ 4 ∧ i = .int .i64 k ∧ Hid (∀ j, j < k → xs.getD j 0 = 0) ∧ wr = w) (fun i _ => 4 - (intOf i).toNat)
  case atStart => exact ⟨0, by omega, rfl, hid (fun j hj => by omega), rfl⟩
  case round =>
    obtain ⟨k, hk, rfl, HZ, rfl⟩ := hrel
    by_cases hlt : k < 4
    · have c1 := hc k hlt
      have hlt' : (k : Int) < 4 := by omega
      have hk0 : (0 : Int) ≤ (k : Int) := by omega
      have HO1 := hid (HO.out k hlt HZ.out)
      obtain ⟨y, hy⟩ : ∃ y, xs.getD k 0 = y := ⟨_, rfl⟩
      rw [hy] at c1 HO1
      have HY := hid hy
      clear hy hc
      by_cases h0 : y = 0
      · subst h0
        go_wp2
        go_roundw
        case rel => exact ⟨k + 1, by omega, by go_num, hid (upto (p := fun j => xs.getD j 0 = 0) HZ.out HY.out), by first | trivial | rfl⟩
        case measure => simp [intOf]; omega
      · have q : (y != 0) = true := by simp [h0]
        have HQ := hid (HO1.out h0)
        go_wp2
        go_ret
        exact ⟨by rw [HQ.out]; rfl, rfl⟩
    · have hk4 : k = 4 := by omega
      subst hk4
      have HQ := hid (HE.out HZ.out)
      go_wp2
      go_ret
      exact ⟨by rw [HQ.out]; rfl, rfl⟩
end Go.Proofs.YtebhipicfgnajaaGreat
/- The program's ItemCompare. -/



namespace Go.Proofs.YtebhipicfgnajaaGreat
open Go.RowKit

theorem cell_oldx {w : World} (o : Obj) {p : Addr} {v : Value} (h : w.cell? p = some v) : (w.alloc o).cell? p = some v := by
  have hl := World.block_lt_of_cell? w _ h
  have hb : Below w.heap.size w (w.alloc o) := (Below.refl _ _).alloc (Nat.le_refl _) _
  rw [hb.cell hl]; exact h
theorem new4 (w : World) (a b c d : Value) (t : TypeId) : (w.alloc (.cells #[a, b, c, d] t)).cell? ⟨w.heap.size, 0, none⟩ = some a ∧ (w.alloc (.cells #[a, b, c, d] t)).cell? ⟨w.heap.size, 1, none⟩ = some b ∧ (w.alloc (.cells #[a, b, c, d] t)).cell? ⟨w.heap.size, 2, none⟩ = some c ∧ (w.alloc (.cells #[a, b, c, d] t)).cell? ⟨w.heap.size, 3, none⟩ = some d := by
  have h := heap_alloc_new w (.cells #[a, b, c, d] t)
  refine ⟨?_, ?_, ?_, ?_⟩ <;> (rw [cell_of_row _ _ _ _ _ _ h]; rfl)

theorem or_cmp (K N K' N' : Int) (f f' n n' : Nat) (zs zs' : List Int) (h : okI K N f n = true) (h' : okI K' N' f' n' = true) :
    or4 (ci K K') (ci N N') (cmp3 (frank f) (frank f')) (txt zs zs') = cmpI K N f n zs K' N' f' n' zs' := by
  have c0 : ¬ (okI K N f n = false ∨ okI K' N' f' n' = false) := by rw [h, h']; simp
  unfold or4 cmpI
  rw [if_neg c0]
  rcases Int.lt_trichotomy K K' with h1 | h1 | h1
  · rw [show ci K K' = -1 by rw [ci, if_pos h1], if_pos (by decide), if_pos (by omega), if_pos h1]
  · rw [show ci K K' = 0 by rw [ci, if_neg (by omega), if_neg (by omega)], if_neg (by decide), if_neg (show ¬ K ≠ K' from fun e => e h1)]
    rcases Int.lt_trichotomy N N' with h2 | h2 | h2
    · rw [show ci N N' = -1 by rw [ci, if_pos h2], if_pos (by decide), if_pos (by omega), if_pos h2]
    · rw [show ci N N' = 0 by rw [ci, if_neg (by omega), if_neg (by omega)], if_neg (by decide), if_neg (show ¬ N ≠ N' from fun e => e h2)]
    · rw [show ci N N' = 1 by rw [ci, if_neg (by omega), if_pos h2], if_pos (by decide), if_pos (by omega), if_neg (by omega)]
  · rw [show ci K K' = 1 by rw [ci, if_neg (by omega), if_pos h1], if_pos (by decide), if_pos (by omega), if_neg (by omega)]

set_option maxRecDepth 100000 in
set_option maxHeartbeats 3200000 in
theorem impl_ItemCompare (K N K' N' : Int) (f f' : Nat) {ad ad' : Option Addr} {n n' : Nat} (cap cap' : Nat) {zs zs' : List Int} {w : World} (hf : f < 18446744073709551616) (hf' : f' < 18446744073709551616)
    (h : Reads w ad n zs) (h' : Reads w ad' n' zs') (hn : n ≤ 2097152) (hn' : n' ≤ 2097152) :
    Calls Tryz.prog 69 #[.agg #[.int .i64 K, .int .i64 N, .float .f64 f, .slice ad n cap], .agg #[.int .i64 K', .int .i64 N', .float .f64 f', .slice ad' n' cap']] w fun e w' => e = .returned (.int .i64 (cmpI K N f n zs K' N' f' n' zs')) ∧ Below w.heap.size w w' := by
  have hB := two w (.cells #[.int .i64 K, .int .i64 N, .float .f64 f, .slice ad n cap] 29) (.cells #[.int .i64 K', .int .i64 N', .float .f64 f', .slice ad' n' cap'] 29)
  have z1 := alloc_size w (.cells #[.int .i64 K, .int .i64 N, .float .f64 f, .slice ad n cap] 29)
  have z2 := alloc_size (w.alloc (.cells #[.int .i64 K, .int .i64 N, .float .f64 f, .slice ad n cap] 29)) (.cells #[.int .i64 K', .int .i64 N', .float .f64 f', .slice ad' n' cap'] 29)
  have x1 := (Box.new w K N f ad n cap 29).below ((Below.refl (w.heap.size + 1) _).alloc (by omega) (.cells #[.int .i64 K', .int .i64 N', .float .f64 f', .slice ad' n' cap'] 29)) (by omega)
  have x2 := Box.new (w.alloc (.cells #[.int .i64 K, .int .i64 N, .float .f64 f, .slice ad n cap] 29)) K' N' f' ad' n' cap' 29
  rw [z1] at x2 z2
  have H1 := h.below hB (Nat.le_refl _)
  have H2 := h'.below hB (Nat.le_refl _)
  have e1 := impl_ItemOk K N f ad n cap hf hn
  have e2 := impl_ItemOk K' N' f' ad' n' cap' hf' hn'
  by_cases o1 : okI K N f n = false
  · rw [show cmpI K N f n zs K' N' f' n' zs' = -2 by rw [cmpI, if_pos (.inl o1)]]
    rw [o1] at e1
    go_enter Tryz.func69, Tryz.ntmps69
    go_wp2_with fail
    refine (e1 _).mono ?_
    rintro e w1 ⟨rfl, b1⟩
    have BB := hid (hB.trans (b1.mono hB.size))
    clear hB b1 H1 H2 x1 x2 z1 z2
    go_wp2_with fail
    go_ret
    exact ⟨rfl, BB.out⟩
  have o1' : okI K N f n = true := by simpa using o1
  rw [o1'] at e1
  by_cases o2 : okI K' N' f' n' = false
  · rw [show cmpI K N f n zs K' N' f' n' zs' = -2 by rw [cmpI, if_pos (.inr o2)]]
    rw [o2] at e2
    go_enter Tryz.func69, Tryz.ntmps69
    go_wp2_with fail
    refine (e1 _).mono ?_
    rintro e w1 ⟨rfl, b1⟩
    have B1 := hB.trans (b1.mono hB.size)
    have y2 := x2.below b1 (by omega)
    obtain ⟨d0, d1, d2, d3⟩ := y2
    clear hB b1 H1 H2 x1 x2 z1 z2
    go_wp2_with fail
    clear d0 d1 d2 d3
    refine (e2 _).mono ?_
    rintro e w2 ⟨rfl, b2⟩
    have BB := hid (B1.trans (b2.mono B1.size))
    clear b2 B1
    go_wp2_with fail
    go_ret
    exact ⟨rfl, BB.out⟩
  have o2' : okI K' N' f' n' = true := by simpa using o2
  rw [o2'] at e2
  rw [← or_cmp K N K' N' f f' n n' zs zs' o1' o2']
  clear o1 o2 o1' o2'
  go_enter Tryz.func69, Tryz.ntmps69
  go_wp2_with fail
  refine (e1 _).mono ?_
  rintro e w1 ⟨rfl, b1⟩
  have B1 := hB.trans (b1.mono hB.size)
  have y1 := x1.below b1 (by omega)
  have y2 := x2.below b1 (by omega)
  have zz := b1.size
  have h1 := H1.below b1 (Nat.le_refl _)
  have h2 := H2.below b1 (Nat.le_refl _)
  obtain ⟨d0, d1, d2, d3⟩ := y2
  have Y1 := hid y1
  have Y2 := hid (x2.below b1 (by omega))
  have ZZ := hid (show w.heap.size + 1 < w1.heap.size by omega)
  clear hB b1 H1 H2 x1 x2 z1 z2 y1 zz
  go_wp2_with fail
  clear d0 d1 d2 d3
  refine (e2 _).mono ?_
  rintro e w2 ⟨rfl, b2⟩
  have BB := B1.trans (b2.mono B1.size)
  have h3 := h1.below b2 (Nat.le_refl _)
  have h4 := h2.below b2 (Nat.le_refl _)
  have z := ZZ.out
  obtain ⟨c0, c1, c2, c3⟩ := Y1.out.below b2 (by omega)
  obtain ⟨d0, d1, d2, d3⟩ := Y2.out.below b2 (by omega)
  have ZB := b2.size
  have ZZ2 := hid (show w.heap.size + 1 < w2.heap.size by omega)
  have s1 : ∀ W, Below w2.heap.size w2 W → (convert 22 9 (.slice ad n cap)).run Tryz.prog W = .ok (.string (str zs)) W := fun W b => (h3.below b (Nat.le_refl _)).str cap 22 Tryz.underlying22 Tryz.underlying5 Tryz.underlying9
  have s2 : ∀ W, Below w2.heap.size w2 W → (convert 22 9 (.slice ad' n' cap')).run Tryz.prog W = .ok (.string (str zs')) W := fun W b => (h4.below b (Nat.le_refl _)).str cap' 22 Tryz.underlying22 Tryz.underlying5 Tryz.underlying9
  have S1 := hid s1
  have S2 := hid s2
  clear s1 s2
  have D1 : Below w2.heap.size w2 w2.drew := (Still.drewN w2 1).below w2.heap.size
  have HD := hid D1
  clear D1
  have i1 : inB zs := h.bd
  have i2 : inB zs' := h'.bd
  have HB := hid BB
  clear b2 B1 h1 h2 z ZB BB Y1 Y2 ZZ h3 h4 h h'
  go_wp2_with fail
  go_region_held3 (fun W => (W.cell? ⟨w.heap.size, 0, none⟩ = some (.int .i64 K) ∧ W.cell? ⟨w.heap.size, 1, none⟩ = some (.int .i64 N) ∧ W.cell? ⟨w.heap.size, 2, none⟩ = some (.float .f64 f) ∧ W.cell? ⟨w.heap.size, 3, none⟩ = some (.slice ad n cap)) ∧ W.cell? ⟨w.heap.size + 1, 0, none⟩ = some (.int .i64 K') ∧ W.cell? ⟨w.heap.size + 1, 1, none⟩ = some (.int .i64 N') ∧ W.cell? ⟨w.heap.size + 1, 2, none⟩ = some (.float .f64 f') ∧ W.cell? ⟨w.heap.size + 1, 3, none⟩ = some (.slice ad' n' cap') ∧ (convert 22 9 (.slice ad n cap)).run Tryz.prog W = .ok (.string (str zs)) W ∧ (convert 22 9 (.slice ad' n' cap')).run Tryz.prog W = .ok (.string (str zs')) W)
    (first
      | exact ⟨⟨by simpa using c0, by simpa using c1, by simpa using c2, by simpa using c3⟩, by simpa using d0, by simpa using d1, by simpa using d2, by simpa using d3, S1.out _ (by first | exact Below.refl _ _ | exact HD.out | exact (Still.drewN w2 _).below _), S2.out _ (by first | exact Below.refl _ _ | exact HD.out | exact (Still.drewN w2 _).below _)⟩
      | exact ⟨⟨cell_oldx _ (by simpa using c0), cell_oldx _ (by simpa using c1), cell_oldx _ (by simpa using c2), cell_oldx _ (by simpa using c3)⟩, cell_oldx _ (by simpa using d0), cell_oldx _ (by simpa using d1), cell_oldx _ (by simpa using d2), cell_oldx _ (by simpa using d3), S1.out _ (by first | exact HD.out.alloc (Nat.le_refl _) _ | exact (Below.refl _ _).alloc (Nat.le_refl _) _), S2.out _ (by first | exact HD.out.alloc (Nat.le_refl _) _ | exact (Below.refl _ _).alloc (Nat.le_refl _) _)⟩)
    (first
    | (go_at_call 126; refine (impl_ordInt _ _ _).mono ?_; rintro e w3 ⟨rfl, rfl⟩)
    | (go_at_call 127; refine (impl_FloatCompare _ _ hf hf' _).mono ?_; rintro e w3 ⟨rfl, rfl⟩)
    | (go_at_call 128; refine (impl_ordStr _ _ i1 i2 _).mono ?_; rintro e w3 ⟨rfl, rfl⟩)
    | (go_at_call 125; refine (cmp_or (ci K K') (ci N N') (cmp3 (frank f) (frank f')) (txt zs zs') w2.heap.size _ (new4 w2.drew _ _ _ _ 3).1 (new4 w2.drew _ _ _ _ 3).2.1 (new4 w2.drew _ _ _ _ 3).2.2.1 (new4 w2.drew _ _ _ _ 3).2.2.2).mono ?_; rintro e w3 ⟨rfl, rfl⟩))
  go_wp2_with fail
  go_ret
  refine ⟨rfl, HB.out.trans ?_⟩
  exact ((Below.refl _ w2).alloc (by have := ZZ2.out; omega) _).trans ((Still.drewN _ 1).below _)
end Go.Proofs.YtebhipicfgnajaaGreat
