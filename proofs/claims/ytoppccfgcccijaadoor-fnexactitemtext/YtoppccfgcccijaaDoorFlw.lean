/- The contract of the specification's FloatBits: it answers 'fbits', and leaves memory as it was. For every argument. -/
import Derived.Test.YtoppccfgcccijaaDoorFlv
import Derived.Test.YtoppccfgcccijaaDoorFli
namespace Go.Proofs.YtoppccfgcccijaaDoor
open Go.RowKit Ieee

theorem kpos (a : Nat) (h : a ≤ 9218868437227405312) : a < 18446744073709551616 ∧ isN a = false ∧ kx a = a := by
  refine ⟨by omega, (isN_not a).2 (by omega), ?_⟩
  rw [kx, if_pos (by omega)]
theorem olt (a b : Nat) (ha : a ≤ 9218868437227405312) (hb : b ≤ 9218868437227405312) (h : a < b) : FloatKind.f64.format.order a b = some .lt :=
  order_lt a b (kpos a ha).1 (kpos b hb).1 (kpos a ha).2.1 (kpos b hb).2.1 (by rw [(kpos a ha).2.2, (kpos b hb).2.2]; omega)
theorem ogt (a b : Nat) (ha : a ≤ 9218868437227405312) (hb : b ≤ 9218868437227405312) (h : b < a) : FloatKind.f64.format.order a b = some .gt :=
  order_gt a b (kpos a ha).1 (kpos b hb).1 (kpos a ha).2.1 (kpos b hb).2.1 (by rw [(kpos a ha).2.2, (kpos b hb).2.2]; omega)
theorem oeq (a : Nat) (ha : a ≤ 9218868437227405312) : FloatKind.f64.format.order a a = some .eq :=
  order_eq a a (kpos a ha).1 (kpos a ha).1 (kpos a ha).2.1 (kpos a ha).2.1 rfl

theorem dval (r : Nat) (h : r < 9218868437227405312) (h1 : 4503599627370496 ≤ r) : ∃ t f, f < 2 ^ 52 ∧ t ≤ 2045 ∧ r = (t + 1) * 2 ^ 52 + f ∧ r = F (2 ^ 52 + f) t := by
  refine ⟨r / 4503599627370496 - 1, r % 4503599627370496, by omega, by omega, by omega, ?_⟩
  rw [F_norm _ _ (by omega) (by omega)]
  omega

theorem half_r (r : Nat) (h1 : 4611686018427387904 ≤ r) (h2 : r < 9218868437227405312) : floatBits .quo .f64 r 4611686018427387904 = some (r - 4503599627370496) := by
  obtain ⟨t, f, hf, ht, e1, e2⟩ := dval r h2 (by omega)
  obtain ⟨u, rfl⟩ : ∃ u, t = u + 1 := ⟨t - 1, by omega⟩
  have := half_F (2 ^ 52 + f) u (by omega) (by omega)
  rw [← e2, F_norm u f hf (by omega)] at this
  rw [show r - 4503599627370496 = (u + 1) * 2 ^ 52 + f by omega]
  exact this

theorem F_suc (c j : Nat) (hc : c < 2 ^ 53) (hj : j + 1 ≤ 2045) : wval (F c (j + 1)) = wval (F c j) * 2 := by
  rw [F_wval _ _ hc hj, F_wval _ _ hc (by omega), Nat.pow_succ, Nat.mul_assoc]
theorem two_F' : 4611686018427387904 = F (2 ^ 52) (1022 + 1) := (F_norm (1022 + 1) 0 (by omega) (by omega)).symm
theorem wval_le (a b : Nat) (h : wval a < wval b) : a < b := by
  rcases Nat.lt_or_ge a b with h' | h'
  · exact h'
  · rcases Nat.lt_or_eq_of_le h' with h'' | h''
    · have := wval_lt b a h''; omega
    · subst h''; omega

theorem dbl_r (r : Nat) (h : r < 4607182418800017408) : ∃ q, floatBits .mul .f64 r 4611686018427387904 = some q ∧ wval q = wval r * 2 ∧ q < 4611686018427387904 := by
  have main : ∃ c j, c < 2 ^ 53 ∧ j + 1 ≤ 2045 ∧ r = F c j := by
    by_cases h1 : 4503599627370496 ≤ r
    · obtain ⟨t, f, hf, ht, e1, e2⟩ := dval r (by omega) h1
      exact ⟨2 ^ 52 + f, t, by omega, by omega, e2⟩
    · exact ⟨r, 0, by omega, by omega, (F_sub r (by omega)).symm⟩
  obtain ⟨c, j, hc, hj, e⟩ := main
  have hm := double_F c j hc hj
  rw [← e] at hm
  have hv : wval (F c (j + 1)) = wval r * 2 := by
    rw [e, F_wval _ _ hc hj, F_wval _ _ hc (by omega), Nat.pow_succ, Nat.mul_assoc]
  refine ⟨_, hm, hv, ?_⟩
  apply wval_le
  rw [hv]
  have h1 : wval r < wval 4607182418800017408 := wval_lt _ _ h
  have h2 : wval 4611686018427387904 = wval 4607182418800017408 * 2 := by
    rw [two_F', one_F]
    exact F_suc _ _ (by omega) (by omega)
  omega

/-- The end of it, above 1. -/
theorem top_r (r k j q : Nat) (hq1 : 4607182418800017408 ≤ q) (hq2 : q < 4611686018427387904) (hj : j ≤ 1022)
    (h : (k = 0 ∧ wval q = wval r * 2 ^ j) ∨ (j = 0 ∧ r = q + k * 4503599627370496)) :
    ∃ f : Nat, f < 4503599627370496 ∧ r = (k + 1023 - j) * 4503599627370496 + f ∧ floatBits .sub .f64 q 4607182418800017408 = some (F f 1022) ∧ floatBits .mul .f64 (F f 1022) 4841369599423283200 = some (F f 1074) ∧ floatToIntVal .f64 (F f 1074) .u64 = some (f : Int) := by
  refine ⟨q - 4607182418800017408, by omega, ?_, ?_, lift_F _ 1022 (by omega) (by omega), int_F _ (by omega)⟩
  · rcases h with ⟨rfl, h⟩ | ⟨rfl, h⟩
    · obtain ⟨t, ht⟩ : ∃ t, 1023 - j = t + 1 := ⟨1022 - j, by omega⟩
      have e1 : wval q = (2 ^ 52 + (q - 4607182418800017408)) * 2 ^ 1022 := by
        have e0 := wval_norm 1022 (q - 4607182418800017408) (by omega)
        rwa [show (1022 + 1) * 2 ^ 52 + (q - 4607182418800017408) = q by omega] at e0
      have e2 := wval_norm t (q - 4607182418800017408) (by omega)
      have e3 : (2 : Nat) ^ 1022 = 2 ^ t * 2 ^ j := by rw [show (1022 : Nat) = t + j by omega, Nat.pow_add]
      rw [e1, e3, ← Nat.mul_assoc, ← e2] at h
      have := wval_inj _ _ (Nat.eq_of_mul_eq_mul_right (Nat.two_pow_pos j) h)
      rw [← this]
      omega
    · omega
  · have hs := less_F (q - 4607182418800017408) (by omega)
    rw [F_norm _ _ (by omega) (by omega)] at hs
    rw [show (1022 + 1) * 2 ^ 52 + (q - 4607182418800017408) = q by omega] at hs
    exact hs

/-- The end of it, below 1. -/
theorem low_r (r q : Nat) (hq : q < 4607182418800017408) (h : wval q = wval r * 2 ^ 1022) :
    r < 4503599627370496 ∧ floatBits .mul .f64 q 4841369599423283200 = some (F r 1074) ∧ floatToIntVal .f64 (F r 1074) .u64 = some (r : Int) := by
  have h1 : wval q < wval 4607182418800017408 := wval_lt _ _ hq
  have h2 : wval 4607182418800017408 = wval 4503599627370496 * 2 ^ 1022 := by
    rw [one_F, F_wval _ _ (by omega) (by omega), show wval 4503599627370496 = 2 ^ 52 by decide]
  have hlt : r < 4503599627370496 := by
    apply wval_le
    rw [h, h2] at h1
    exact Nat.lt_of_mul_lt_mul_right h1
  have hv : wval r = r := by rw [wval, if_pos hlt]
  rw [hv] at h
  have e : q = F r 1022 := F_of q r 1022 (by omega) h
  refine ⟨hlt, ?_, int_F r hlt⟩
  rw [e]
  exact lift_F r 1022 (by omega) (by omega)
end Go.Proofs.YtoppccfgcccijaaDoor
