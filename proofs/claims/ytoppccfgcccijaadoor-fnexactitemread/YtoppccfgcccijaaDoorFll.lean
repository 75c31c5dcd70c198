/- The contracts of the specification's FloatRank, FloatUnrank and FloatCompare and of the laws' sameFloat; the laws of chapter 2 on FloatBits, FloatOf, FloatRank, FloatUnrank, FloatCompare. For every argument. -/
import Derived.Test.YtoppccfgcccijaaDoorMga
namespace Go.Proofs.YtoppccfgcccijaaDoor
open Go.RowKit Ieee

theorem sameFloat_walk (x y : Nat) (hx : x < 18446744073709551616) (hy : y < 18446744073709551616) (hs : Same x y) (w : World) :
    Calls Tryd.prog 33 #[.float .f64 x, .float .f64 y] w fun e w' => e = .returned (.bool true) ∧ w' = w := by
  rcases hs with ⟨n1, n2⟩ | ⟨n1, rfl⟩
  · have o1 := order_l x x hx n1
    have o2 := order_l y y hy n2
    clear hx hy n1 n2
    go_enter Tryd.func33, Tryd.ntmps33
    go_wp2
    go_ret
    exact ⟨rfl, rfl⟩
  · have o1 := order_eq y y hx hx n1 n1 rfl
    by_cases h0 : y % 9223372036854775808 = 0
    · have h2 : y = 0 ∨ y = 9223372036854775808 := by omega
      clear hx hy n1 h0
      have d1 := fun t w => run_float_arith (P := Tryd.prog) w .quo t .f64 4607182418800017408 0 9218868437227405312 (by decide)
      have d2 := fun t w => run_float_arith (P := Tryd.prog) w .quo t .f64 4607182418800017408 9223372036854775808 18442240474082181120 (by decide)
      have o3 : FloatKind.f64.format.order 9218868437227405312 0 = some .gt := by decide
      have o4 : FloatKind.f64.format.order 18442240474082181120 0 = some .lt := by decide
      have o5 : FloatKind.f64.format.order 9223372036854775808 0 = some .eq := by decide
      rcases h2 with rfl | rfl
      all_goals
        go_enter Tryd.func33, Tryd.ntmps33
        go_wp2
        go_ret
        exact ⟨rfl, rfl⟩
    · have hm := (isN_not y).1 n1
      have o2 : FloatKind.f64.format.order y 0 = some .lt ∨ FloatKind.f64.format.order y 0 = some .gt := by
        by_cases hp : y < 9223372036854775808
        · exact .inr (order_gt y 0 hx (by omega) n1 isN_zero (by rw [kx_zero, kx, if_pos hp]; omega))
        · exact .inl (order_lt y 0 hx (by omega) n1 isN_zero (by rw [kx_zero, kx, if_neg hp]; omega))
      clear hx hy n1 h0 hm
      rcases o2 with o2 | o2
      all_goals
        go_enter Tryd.func33, Tryd.ntmps33
        go_wp2
        go_ret
        exact ⟨rfl, rfl⟩

theorem or_top (x : Nat) (h : x < 9223372036854775808) : bits .or .u64 (x : Int) 9223372036854775808 = ((x + 9223372036854775808 : Nat) : Int) := by
  have := u64_or_nat x 9223372036854775808 (by omega) (by omega)
  rw [Nat.or_comm, nat_join 63 _ _ (by decide) (by omega), Nat.add_comm] at this
  exact this

theorem frank_same (x y : Nat) (h1 : isN x = false → y = x) (h2 : isN x = isN y) : frank y = frank x := by
  by_cases hn : isN x = true
  · rw [frank, frank, if_pos hn, if_pos (by rw [← h2]; exact hn)]
  · rw [h1 (by simpa using hn)]

theorem same_of {x y : Nat} (h1 : isN x = false → y = x) (h2 : isN x = isN y) : Same x y := by
  by_cases hn : isN x = true
  · exact .inl ⟨hn, by rw [← h2]; exact hn⟩
  · have hn' : isN x = false := by simpa using hn
    exact .inr ⟨hn', h1 hn'⟩

/-- What FloatUnrank answers, as the specification does it. -/
def Unrank (k : Nat) (y : Nat) (ok : Bool) : Prop :=
  (frank (back k) = k ∧ ok = true ∧ Same (back k) y) ∨ (¬ frank (back k) = k ∧ ok = false ∧ y = 0)

end Go.Proofs.YtoppccfgcccijaaDoor
