/- The contracts of the specification's FloatRank, FloatUnrank and FloatCompare and of the laws' sameFloat; the laws of chapter 2 on FloatBits, FloatOf, FloatRank, FloatUnrank, FloatCompare. For every argument. -/
import Derived.Test.YtnjofaiekofamaaFlf
import Derived.Test.YtnjofaiekofamaaFsa
namespace Go.Proofs.Ytnjofaiekofamaa
open Go.RowKit Ieee

theorem sameFloat_walk (x y : Nat) (hx : x < 18446744073709551616) (hy : y < 18446744073709551616) (hs : Same x y) (w : World) :
    Calls Try.prog 76 #[.float .f64 x, .float .f64 y] w fun e w' => e = .returned (.bool true) ∧ w' = w := by
  rcases hs with ⟨n1, n2⟩ | ⟨n1, rfl⟩
  · have o1 := order_l x x hx n1
    have o2 := order_l y y hy n2
    clear hx hy n1 n2
    go_enter Try.func76, Try.ntmps76
    go_wp2
    go_ret
    exact ⟨rfl, rfl⟩
  · have o1 := order_eq y y hx hx n1 n1 rfl
    by_cases h0 : y % 9223372036854775808 = 0
    · have h2 : y = 0 ∨ y = 9223372036854775808 := by omega
      clear hx hy n1 h0
      have d1 := fun t w => run_float_arith (P := Try.prog) w .quo t .f64 4607182418800017408 0 9218868437227405312 (by decide)
      have d2 := fun t w => run_float_arith (P := Try.prog) w .quo t .f64 4607182418800017408 9223372036854775808 18442240474082181120 (by decide)
      have o3 : FloatKind.f64.format.order 9218868437227405312 0 = some .gt := by decide
      have o4 : FloatKind.f64.format.order 18442240474082181120 0 = some .lt := by decide
      have o5 : FloatKind.f64.format.order 9223372036854775808 0 = some .eq := by decide
      rcases h2 with rfl | rfl
      all_goals
        go_enter Try.func76, Try.ntmps76
        go_wp2
        go_ret
        exact ⟨rfl, rfl⟩
    · have hm := (isN_not y).1 n1
      have o2 : FloatKind.f64.format.order y 0 = some .lt ∨ FloatKind.f64.format.order y 0 = some .gt := by
        by_cases hp : y < 9223372036854775808
        · exact .inr (order_gt y 0 hx (by omega) n1 isN_zero (by rw [kx_zero, kx, if_pos hp]; omega))
        · exact .inl (order_lt y 0 hx (by omega) n1 isN_zero (by rw [kx_zero, kx, if_neg hp]; omega))
      clear hx hy n1 h0 hm
      rcases o2 with o2 | o2
      all_goals
        go_enter Try.func76, Try.ntmps76
        go_wp2
        go_ret
        exact ⟨rfl, rfl⟩

theorem or_top (x : Nat) (h : x < 9223372036854775808) : bits .or .u64 (x : Int) 9223372036854775808 = ((x + 9223372036854775808 : Nat) : Int) := by
  have := u64_or_nat x 9223372036854775808 (by omega) (by omega)
  rw [Nat.or_comm, nat_join 63 _ _ (by decide) (by omega), Nat.add_comm] at this
  exact this

theorem spec_FloatRank (x : Nat) (hx : x < 18446744073709551616) (w : World) :
    Calls Try.prog 83 #[.float .f64 x] w fun e w' => e = .returned (.int .u64 (frank x)) ∧ w' = w := by
  by_cases hn : isN x = true
  · have ef : frank x = 18446744073709551615 := by rw [frank, if_pos hn]
    have eb : fbits x = 9221120237041090560 := by rw [fbits, if_pos hn]
    go_enter Try.func83, Try.ntmps83
    go_wp2_with fail
    refine (spec_FloatBits x hx w).mono ?_
    rintro e w1 ⟨rfl, rfl⟩
    rw [eb]
    go_wp2_with fail
    go_ret
    exact ⟨by rw [ef]; rfl, rfl⟩
  · have hn' : isN x = false := by simpa using hn
    have hm := (isN_not x).1 hn'
    have eb : fbits x = x := by rw [fbits, if_neg hn]
    have hne : ((x : Int) == 9221120237041090560) = false := beq_eq_false_iff_ne.2 (by omega)
    by_cases h0 : x % 9223372036854775808 = 0
    · have ef : frank x = 9223372036854775808 := by rw [frank, if_neg hn, if_pos h0]
      have o := order_eq x 0 hx (by omega) hn' isN_zero (by rw [kx_zero, kx]; split <;> omega)
      clear hm h0 hn hn'
      go_enter Try.func83, Try.ntmps83
      go_wp2_with fail
      refine (spec_FloatBits x hx w).mono ?_
      rintro e w1 ⟨rfl, rfl⟩
      rw [eb]
      go_wp2_with fail
      go_ret
      exact ⟨by rw [ef]; rfl, rfl⟩
    · by_cases hs : x < 9223372036854775808
      · have ef := hid (show frank x = x + 9223372036854775808 by rw [frank, if_neg hn, if_neg h0, if_pos hs])
        have o := order_gt x 0 hx (by omega) hn' isN_zero (by rw [kx_zero, kx]; split <;> omega)
        have ht : ((x : Int) / 9223372036854775808 == 1) = false := beq_eq_false_iff_ne.2 (by omega)
        have hor := or_top x hs
        clear hm h0 hn hn' hs
        go_enter Try.func83, Try.ntmps83
        go_wp2_with fail
        refine (spec_FloatBits x hx w).mono ?_
        rintro e w1 ⟨rfl, rfl⟩
        rw [eb]
        go_wp2_with fail
        go_ret
        exact ⟨by rw [ef.out]; rfl, rfl⟩
      · have ef := hid (show frank x = 18446744073709551615 - x by rw [frank, if_neg hn, if_neg h0, if_neg hs])
        have o := order_lt x 0 hx (by omega) hn' isN_zero (by rw [kx_zero, kx]; split <;> omega)
        have ht : ((x : Int) / 9223372036854775808 == 1) = true := beq_iff_eq.2 (by omega)
        have hnot := not64 x hx
        clear hm h0 hn hn' hs
        go_enter Try.func83, Try.ntmps83
        go_wp2_with fail
        refine (spec_FloatBits x hx w).mono ?_
        rintro e w1 ⟨rfl, rfl⟩
        rw [eb]
        go_wp2_with fail
        go_ret
        exact ⟨by rw [ef.out]; rfl, rfl⟩

theorem frank_same (x y : Nat) (h1 : isN x = false → y = x) (h2 : isN x = isN y) : frank y = frank x := by
  by_cases hn : isN x = true
  · rw [frank, frank, if_pos hn, if_pos (by rw [← h2]; exact hn)]
  · rw [h1 (by simpa using hn)]

theorem same_of {x y : Nat} (h1 : isN x = false → y = x) (h2 : isN x = isN y) : Same x y := by
  by_cases hn : isN x = true
  · exact .inl ⟨hn, by rw [← h2]; exact hn⟩
  · have hn' : isN x = false := by simpa using hn
    exact .inr ⟨hn', h1 hn'⟩

/-- What FloatUnrank answers, as the specification does it. -/
def Unrank (k : Nat) (y : Nat) (ok : Bool) : Prop :=
  (frank (back k) = k ∧ ok = true ∧ Same (back k) y) ∨ (¬ frank (back k) = k ∧ ok = false ∧ y = 0)

theorem spec_FloatCompare (x y : Nat) (hx : x < 18446744073709551616) (hy : y < 18446744073709551616) (w : World) :
    Calls Try.prog 49 #[.float .f64 x, .float .f64 y] w fun e w' => e = .returned (.int .i64 (cmp3 (frank x) (frank y))) ∧ w' = w := by
  have hrx := spec_FloatRank x hx
  have hry := spec_FloatRank y hy
  generalize frank x = a at *
  generalize frank y = b at *
  rcases Nat.lt_trichotomy a b with h | h | h
  · have ec : cmp3 a b = -1 := by rw [cmp3, if_pos h]
    have h1 : (a : Int) < b := by omega
    clear h
    go_enter Try.func49, Try.ntmps49
    go_wp2_with fail
    refine (hrx _).mono ?_
    rintro e w1 ⟨rfl, rfl⟩
    go_wp2_with fail
    refine (hry _).mono ?_
    rintro e w1 ⟨rfl, rfl⟩
    go_wp2_with fail
    go_ret
    exact ⟨by rw [ec]; rfl, rfl⟩
  · have ec : cmp3 a b = 0 := by rw [cmp3, if_neg (by omega), if_neg (by omega)]
    subst h
    go_enter Try.func49, Try.ntmps49
    go_wp2_with fail
    refine (hrx _).mono ?_
    rintro e w1 ⟨rfl, rfl⟩
    go_wp2_with fail
    refine (hry _).mono ?_
    rintro e w1 ⟨rfl, rfl⟩
    go_wp2_with fail
    go_ret
    exact ⟨by rw [ec]; rfl, rfl⟩
  · have ec : cmp3 a b = 1 := by rw [cmp3, if_neg (by omega), if_pos h]
    have h1 : (b : Int) < a := by omega
    clear h
    go_enter Try.func49, Try.ntmps49
    go_wp2_with fail
    refine (hrx _).mono ?_
    rintro e w1 ⟨rfl, rfl⟩
    go_wp2_with fail
    refine (hry _).mono ?_
    rintro e w1 ⟨rfl, rfl⟩
    go_wp2_with fail
    go_ret
    exact ⟨by rw [ec]; rfl, rfl⟩

end Go.Proofs.Ytnjofaiekofamaa
