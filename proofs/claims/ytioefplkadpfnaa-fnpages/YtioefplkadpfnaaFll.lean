/- The contracts of the specification's FloatRank, FloatUnrank and FloatCompare and of the laws' sameFloat; the laws of chapter 2 on FloatBits, FloatOf, FloatRank, FloatUnrank, FloatCompare. For every argument. -/
import Derived.Test.YtioefplkadpfnaaMgc
import Derived.Test.YtioefplkadpfnaaFsa
namespace Go.Proofs.Ytioefplkadpfnaa
open Go.RowKit Ieee

theorem or_top (x : Nat) (h : x < 9223372036854775808) : bits .or .u64 (x : Int) 9223372036854775808 = ((x + 9223372036854775808 : Nat) : Int) := by
  have := u64_or_nat x 9223372036854775808 (by omega) (by omega)
  rw [Nat.or_comm, nat_join 63 _ _ (by decide) (by omega), Nat.add_comm] at this
  exact this

theorem spec_FloatRank (x : Nat) (hx : x < 18446744073709551616) (w : World) :
    Calls Try.prog 93 #[.float .f64 x] w fun e w' => e = .returned (.int .u64 (frank x)) ∧ w' = w := by
  by_cases hn : isN x = true
  · have ef : frank x = 18446744073709551615 := by rw [frank, if_pos hn]
    have eb : fbits x = 9221120237041090560 := by rw [fbits, if_pos hn]
    go_enter Try.func93, Try.ntmps93
    go_wp2_with fail
    refine (spec_FloatBits x hx w).mono ?_
    rintro e w1 ⟨rfl, rfl⟩
    rw [eb]
    go_wp2_with fail
    go_ret
    exact ⟨by rw [ef]; rfl, rfl⟩
  · have hn' : isN x = false := by simpa using hn
    have hm := (isN_not x).1 hn'
    have eb : fbits x = x := by rw [fbits, if_neg hn]
    have hne : ((x : Int) == 9221120237041090560) = false := beq_eq_false_iff_ne.2 (by omega)
    by_cases h0 : x % 9223372036854775808 = 0
    · have ef : frank x = 9223372036854775808 := by rw [frank, if_neg hn, if_pos h0]
      have o := order_eq x 0 hx (by omega) hn' isN_zero (by rw [kx_zero, kx]; split <;> omega)
      clear hm h0 hn hn'
      go_enter Try.func93, Try.ntmps93
      go_wp2_with fail
      refine (spec_FloatBits x hx w).mono ?_
      rintro e w1 ⟨rfl, rfl⟩
      rw [eb]
      go_wp2_with fail
      go_ret
      exact ⟨by rw [ef]; rfl, rfl⟩
    · by_cases hs : x < 9223372036854775808
      · have ef := hid (show frank x = x + 9223372036854775808 by rw [frank, if_neg hn, if_neg h0, if_pos hs])
        have o := order_gt x 0 hx (by omega) hn' isN_zero (by rw [kx_zero, kx]; split <;> omega)
        have ht : ((x : Int) / 9223372036854775808 == 1) = false := beq_eq_false_iff_ne.2 (by omega)
        have hor := or_top x hs
        clear hm h0 hn hn' hs
        go_enter Try.func93, Try.ntmps93
        go_wp2_with fail
        refine (spec_FloatBits x hx w).mono ?_
        rintro e w1 ⟨rfl, rfl⟩
        rw [eb]
        go_wp2_with fail
        go_ret
        exact ⟨by rw [ef.out]; rfl, rfl⟩
      · have ef := hid (show frank x = 18446744073709551615 - x by rw [frank, if_neg hn, if_neg h0, if_neg hs])
        have o := order_lt x 0 hx (by omega) hn' isN_zero (by rw [kx_zero, kx]; split <;> omega)
        have ht : ((x : Int) / 9223372036854775808 == 1) = true := beq_iff_eq.2 (by omega)
        have hnot := not64 x hx
        clear hm h0 hn hn' hs
        go_enter Try.func93, Try.ntmps93
        go_wp2_with fail
        refine (spec_FloatBits x hx w).mono ?_
        rintro e w1 ⟨rfl, rfl⟩
        rw [eb]
        go_wp2_with fail
        go_ret
        exact ⟨by rw [ef.out]; rfl, rfl⟩

theorem frank_same (x y : Nat) (h1 : isN x = false → y = x) (h2 : isN x = isN y) : frank y = frank x := by
  by_cases hn : isN x = true
  · rw [frank, frank, if_pos hn, if_pos (by rw [← h2]; exact hn)]
  · rw [h1 (by simpa using hn)]

theorem same_of {x y : Nat} (h1 : isN x = false → y = x) (h2 : isN x = isN y) : Same x y := by
  by_cases hn : isN x = true
  · exact .inl ⟨hn, by rw [← h2]; exact hn⟩
  · have hn' : isN x = false := by simpa using hn
    exact .inr ⟨hn', h1 hn'⟩

/-- What FloatUnrank answers, as the specification does it. -/
def Unrank (k : Nat) (y : Nat) (ok : Bool) : Prop :=
  (frank (back k) = k ∧ ok = true ∧ Same (back k) y) ∨ (¬ frank (back k) = k ∧ ok = false ∧ y = 0)

end Go.Proofs.Ytioefplkadpfnaa
