/- Texts of this proof in one: Flw Flb Flq Flf Fsa Fll It1. -/
import Derived.Test.YtlkoghdajpbffaaGreatMgb
import Derived.Deep.Draws
import Derived.Test.YtlkoghdajpbffaaGreatMga
/- The contract of the specification's FloatBits: it answers 'fbits', and leaves memory as it was. For every argument. -/


namespace Go.Proofs.YtlkoghdajpbffaaGreat
open Go.RowKit Ieee
theorem kpos (a : Nat) (h : a ≤ 9218868437227405312) : a < 18446744073709551616 ∧ isN a = false ∧ kx a = a := by
 refine ⟨by omega, (isN_not a).2 (by omega), ?_⟩
 rw [kx, if_pos (by omega)]
theorem olt (a b : Nat) (ha : a ≤ 9218868437227405312) (hb : b ≤ 9218868437227405312) (h : a < b) : FloatKind.f64.format.order a b = some .lt :=
 order_lt a b (kpos a ha).1 (kpos b hb).1 (kpos a ha).2.1 (kpos b hb).2.1 (by rw [(kpos a ha).2.2, (kpos b hb).2.2]; omega)
theorem ogt (a b : Nat) (ha : a ≤ 9218868437227405312) (hb : b ≤ 9218868437227405312) (h : b < a) : FloatKind.f64.format.order a b = some .gt :=
 order_gt a b (kpos a ha).1 (kpos b hb).1 (kpos a ha).2.1 (kpos b hb).2.1 (by rw [(kpos a ha).2.2, (kpos b hb).2.2]; omega)
theorem oeq (a : Nat) (ha : a ≤ 9218868437227405312) : FloatKind.f64.format.order a a = some .eq :=
 order_eq a a (kpos a ha).1 (kpos a ha).1 (kpos a ha).2.1 (kpos a ha).2.1 rfl
theorem dval (r : Nat) (h : r < 9218868437227405312) (h1 : 4503599627370496 ≤ r) : ∃ t f, f < 2 ^ 52 ∧ t ≤ 2045 ∧ r = (t + 1) * 2 ^ 52 + f ∧ r = F (2 ^ 52 + f) t := by
 refine ⟨r / 4503599627370496 - 1, r % 4503599627370496, by omega, by omega, by omega, ?_⟩
 rw [F_norm _ _ (by omega) (by omega)]
 omega
theorem half_r (r : Nat) (h1 : 4611686018427387904 ≤ r) (h2 : r < 9218868437227405312) : floatBits .quo .f64 r 4611686018427387904 = some (r - 4503599627370496) := by
 obtain ⟨t, f, hf, ht, e1, e2⟩ := dval r h2 (by omega)
 obtain ⟨u, rfl⟩ : ∃ u, t = u + 1 := ⟨t - 1, by omega⟩
 have := half_F (2 ^ 52 + f) u (by omega) (by omega)
 rw [← e2, F_norm u f hf (by omega)] at this
 rw [show r - 4503599627370496 = (u + 1) * 2 ^ 52 + f by omega]
 exact this
theorem F_suc (c j : Nat) (hc : c < 2 ^ 53) (hj : j + 1 ≤ 2045) : wval (F c (j + 1)) = wval (F c j) * 2 := by
 rw [F_wval _ _ hc hj, F_wval _ _ hc (by omega), Nat.pow_succ, Nat.mul_assoc]
theorem two_F' : 4611686018427387904 = F (2 ^ 52) (1022 + 1) := (F_norm (1022 + 1) 0 (by omega) (by omega)).symm
theorem wval_le (a b : Nat) (h : wval a < wval b) : a < b := by
 rcases Nat.lt_or_ge a b with h' | h'
 · exact h'
 · rcases Nat.lt_or_eq_of_le h' with h'' | h''
   · have := wval_lt b a h''; omega
   · subst h''; omega
theorem dbl_r (r : Nat) (h : r < 4607182418800017408) : ∃ q, floatBits .mul .f64 r 4611686018427387904 = some q ∧ wval q = wval r * 2 ∧ q < 4611686018427387904 := by
 have main : ∃ c j, c < 2 ^ 53 ∧ j + 1 ≤ 2045 ∧ r = F c j := by
  by_cases h1 : 4503599627370496 ≤ r
  · obtain ⟨t, f, hf, ht, e1, e2⟩ := dval r (by omega) h1
    exact ⟨2 ^ 52 + f, t, by omega, by omega, e2⟩
  · exact ⟨r, 0, by omega, by omega, (F_sub r (by omega)).symm⟩
 obtain ⟨c, j, hc, hj, e⟩ := main
 have hm := double_F c j hc hj
 rw [← e] at hm
 have hv : wval (F c (j + 1)) = wval r * 2 := by
  rw [e, F_wval _ _ hc hj, F_wval _ _ hc (by omega), Nat.pow_succ, Nat.mul_assoc]
 refine ⟨_, hm, hv, ?_⟩
 apply wval_le
 rw [hv]
 have h1 : wval r < wval 4607182418800017408 := wval_lt _ _ h
 have h2 : wval 4611686018427387904 = wval 4607182418800017408 * 2 := by
  rw [two_F', one_F]
  exact F_suc _ _ (by omega) (by omega)
 omega
theorem top_r (r k j q : Nat) (hq1 : 4607182418800017408 ≤ q) (hq2 : q < 4611686018427387904) (hj : j ≤ 1022)
 (h : (k = 0 ∧ wval q = wval r * 2 ^ j) ∨ (j = 0 ∧ r = q + k * 4503599627370496)) :
 ∃ f : Nat, f < 4503599627370496 ∧ r = (k + 1023 - j) * 4503599627370496 + f ∧ floatBits .sub .f64 q 4607182418800017408 = some (F f 1022) ∧ floatBits .mul .f64 (F f 1022) 4841369599423283200 = some (F f 1074) ∧ floatToIntVal .f64 (F f 1074) .u64 = some (f : Int) := by
 refine ⟨q - 4607182418800017408, by omega, ?_, ?_, lift_F _ 1022 (by omega) (by omega), int_F _ (by omega)⟩
 · rcases h with ⟨rfl, h⟩ | ⟨rfl, h⟩
   · obtain ⟨t, ht⟩ : ∃ t, 1023 - j = t + 1 := ⟨1022 - j, by omega⟩
     have e1 : wval q = (2 ^ 52 + (q - 4607182418800017408)) * 2 ^ 1022 := by
      have e0 := wval_norm 1022 (q - 4607182418800017408) (by omega)
      rwa [show (1022 + 1) * 2 ^ 52 + (q - 4607182418800017408) = q by omega] at e0
     have e2 := wval_norm t (q - 4607182418800017408) (by omega)
     have e3 : (2 : Nat) ^ 1022 = 2 ^ t * 2 ^ j := by rw [show (1022 : Nat) = t + j by omega, Nat.pow_add]
     rw [e1, e3, ← Nat.mul_assoc, ← e2] at h
     have := wval_inj _ _ (Nat.eq_of_mul_eq_mul_right (Nat.two_pow_pos j) h)
     rw [← this]
     omega
   · omega
 · have hs := less_F (q - 4607182418800017408) (by omega)
   rw [F_norm _ _ (by omega) (by omega)] at hs
   rw [show (1022 + 1) * 2 ^ 52 + (q - 4607182418800017408) = q by omega] at hs
   exact hs
theorem low_r (r q : Nat) (hq : q < 4607182418800017408) (h : wval q = wval r * 2 ^ 1022) :
 r < 4503599627370496 ∧ floatBits .mul .f64 q 4841369599423283200 = some (F r 1074) ∧ floatToIntVal .f64 (F r 1074) .u64 = some (r : Int) := by
 have h1 : wval q < wval 4607182418800017408 := wval_lt _ _ hq
 have h2 : wval 4607182418800017408 = wval 4503599627370496 * 2 ^ 1022 := by
  rw [one_F, F_wval _ _ (by omega) (by omega), show wval 4503599627370496 = 2 ^ 52 by decide]
 have hlt : r < 4503599627370496 := by
  apply wval_le
  rw [h, h2] at h1
  exact Nat.lt_of_mul_lt_mul_right h1
 have hv : wval r = r := by rw [wval, if_pos hlt]
 rw [hv] at h
 have e : q = F r 1022 := F_of q r 1022 (by omega) h
 refine ⟨hlt, ?_, int_F r hlt⟩
 rw [e]
 exact lift_F r 1022 (by omega) (by omega)
end Go.Proofs.YtlkoghdajpbffaaGreat
/- The contract of the specification's FloatBits: it answers 'fbits', and leaves memory as it was. For every argument. -/

namespace Go.Proofs.YtlkoghdajpbffaaGreat
open Go.RowKit Ieee
def fl : Value → Nat
 | .float _ b => b
 | _ => 0
theorem or_pos (x : Nat) (h : x < 9223372036854775808) : bits .or .u64 0 (x : Int) = ((x : Nat) : Int) := by
 have := u64_or_nat 0 x (by omega) (by omega)
 rw [Nat.zero_or] at this
 exact this
theorem or_neg (x : Nat) (h : x < 9223372036854775808) : bits .or .u64 9223372036854775808 (x : Int) = ((9223372036854775808 + x : Nat) : Int) := by
 have := u64_or_nat 9223372036854775808 x (by omega) (by omega)
 rw [nat_join 63 _ _ (by decide) (by omega)] at this
 exact this
theorem or_low (s e f : Nat) (hs : s = 0 ∨ s = 9223372036854775808) (he : e < 2048) (hf : f < 4503599627370496) : bits .or .u64 ((s + e * 4503599627370496 : Nat) : Int) (f : Int) = ((s + (e * 4503599627370496 + f) : Nat) : Int) := by
 rw [u64_or_nat _ _ (by omega) (by omega), nat_join 52 _ _ (by omega) (by omega), Nat.add_assoc]
theorem top_pos (r k j f : Nat) (hj : j ≤ 1022) (hk : k ≤ 1023) (hf : f < 4503599627370496) (e : r = (k + 1023 - j) * 4503599627370496 + f) :
 bits .or .u64 (bits .or .u64 0 (((k : Int) - j + 1023) * 4503599627370496)) (f : Int) = (r : Int) := by
 rw [show ((k : Int) - j + 1023) * 4503599627370496 = (((k + 1023 - j) * 4503599627370496 : Nat) : Int) by omega, or_pos _ (by omega)]
 have := or_low 0 (k + 1023 - j) f (.inl rfl) (by omega) hf
 rw [Nat.zero_add, Nat.zero_add, ← e] at this
 exact this
theorem top_neg (r k j f : Nat) (hj : j ≤ 1022) (hk : k ≤ 1023) (hf : f < 4503599627370496) (e : r = (k + 1023 - j) * 4503599627370496 + f) :
 bits .or .u64 (bits .or .u64 9223372036854775808 (((k : Int) - j + 1023) * 4503599627370496)) (f : Int) = ((9223372036854775808 + r : Nat) : Int) := by
 rw [show ((k : Int) - j + 1023) * 4503599627370496 = (((k + 1023 - j) * 4503599627370496 : Nat) : Int) by omega, or_neg _ (by omega)]
 rw [or_low 9223372036854775808 (k + 1023 - j) f (.inr rfl) (by omega) hf, ← e]
theorem neg_bits (r : Nat) (h : r < 9223372036854775808) : Op.negFloat .f64 (9223372036854775808 + r) = r := by
 unfold Op.negFloat
 rw [show 2 ^ (FloatKind.f64.format.exponentBits + FloatKind.f64.format.fractionBits) = 2 ^ 63 from rfl]
 have e : 9223372036854775808 + r = 2 ^ 63 ||| r := (nat_join 63 _ _ (by decide) (by omega)).symm
 rw [e]
 apply Nat.eq_of_testBit_eq
 intro i
 rw [Nat.testBit_xor, Nat.testBit_or, Nat.testBit_two_pow]
 by_cases hi : 63 = i
 · subst hi
   rw [Nat.testBit_lt_two_pow h]
   rfl
 · simp [hi]
theorem neg_run (x y : Nat) (h : Op.negFloat .f64 x = y) (w : World) : (Op.unary .neg (.float .f64 x)).run Tryz.prog w = .ok (.float .f64 y) w := by
 subst h
 rfl
set_option maxRecDepth 100000 in
set_option maxHeartbeats 1600000 in
theorem spec_FloatBits_pos (r : Nat) (h0 : 0 < r) (h1 : r < 9218868437227405312) (w : World) :
 Calls Tryz.prog 71 #[.float .f64 (r)] w fun e w' => e = .returned (.int .u64 ((r : Nat) : Int)) ∧ w' = w := by
 have o1 := oeq r (by omega)
 have o3 := ogt r 0 (by omega) (by omega) h0
 have o4 : FloatKind.f64.format.order r 9218868437227405311 = some .lt ∨ FloatKind.f64.format.order r 9218868437227405311 = some .eq := by
  by_cases h : r = 9218868437227405311
  · exact .inr (by rw [h]; exact oeq _ (by omega))
  · exact .inl (olt _ _ (by omega) (by omega) (by omega))
 have H0 := hid h0
 have H1 := hid h1
 clear h0 h1
 rcases o4 with o4 | o4
 all_goals
  go_enter Tryz.func71, Tryz.ntmps71
  go_wp2
  clear o1 o3 o4
  go_loopw [4, 5] (fun a e wr => ∃ q k : Nat, a = .float .f64 q ∧ e = .int .i64 k ∧ Hid (r = q + k * 4503599627370496) ∧ Hid (k = 0 ∨ 4607182418800017408 ≤ q) ∧ Hid (k ≤ 1023) ∧ wr = w) (fun a _ _ => fl a)
  case atStart => exact ⟨r, 0, rfl, rfl, hid (by omega), hid (.inl rfl), hid (by omega), rfl⟩
  case round =>
   obtain ⟨q, k, rfl, rfl, P1, P2, P3, rfl⟩ := hrel
   have hq : q < 9218868437227405312 := by have := P1.out; have := H1.out; omega
   by_cases hge : 4611686018427387904 ≤ q
   · obtain ⟨p, hp, ep⟩ : ∃ p, floatBits .quo .f64 q 4611686018427387904 = some p ∧ Hid (q = p + 4503599627370496) := ⟨_, half_r q hge hq, hid (by omega)⟩
     have hd := fun t w => run_float_arith (P := Tryz.prog) w .quo t .f64 q 4611686018427387904 _ hp
     have oo : FloatKind.f64.format.order q 4611686018427387904 = some .gt ∨ FloatKind.f64.format.order q 4611686018427387904 = some .eq := by
      by_cases h : q = 4611686018427387904
      · exact .inr (by rw [h]; exact oeq _ (by omega))
      · exact .inl (ogt _ _ (by omega) (by omega) (by omega))
     have Q1 := hid hge
     have Q2 := hid hq
     have hk : (k : Int) ≤ 1023 := by have := P3.out; omega
     clear hge hq hp
     rcases oo with oo | oo
     all_goals
      go_wp2
      go_roundw
      case rel => exact ⟨p, k + 1, rfl, by go_num, hid (by have := P1.out; have := ep.out; omega), hid (.inr (by have := Q1.out; have := ep.out; omega)), hid (by have := P1.out; have := P3.out; have := Q1.out; have := H1.out; omega), by first | trivial | rfl⟩
      case measure => have := ep.out; simp only [fl]; omega
   · have oo := olt q 4611686018427387904 (by omega) (by omega) (by omega)
     have Q1 := hid hge
     have Q2 := hid hq
     have hk : (k : Int) ≤ 1023 := by have := P3.out; omega
     clear hge hq
     go_wp2
     clear oo
     go_loopw [4, 5] (fun a e wr' => ∃ p j : Nat, a = .float .f64 p ∧ e = .int .i64 ((k : Int) - j) ∧ Hid ((k = 0 ∧ wval p = wval q * 2 ^ j) ∨ (j = 0 ∧ p = q ∧ 4607182418800017408 ≤ q)) ∧ Hid (p < 4611686018427387904) ∧ Hid (j ≤ 1022) ∧ wr' = wr) (fun _ e _ => (intOf e + 1022).toNat)
     case atStart => exact ⟨q, 0, rfl, by go_num, hid (by
      rcases P2.out with h | h
      · exact .inl ⟨h, by rw [Nat.pow_zero, Nat.mul_one]⟩
      · exact .inr ⟨rfl, rfl, h⟩), hid (by have := Q1.out; omega), hid (by omega), rfl⟩
     case round =>
      obtain ⟨p, j, rfl, rfl, R1, R2, R3, rfl⟩ := hrel
      have hj : (j : Int) ≤ 1022 := by have := R3.out; omega
      by_cases hlt : p < 4607182418800017408
      · have R1' : Hid (k = 0 ∧ wval p = wval q * 2 ^ j) := by
         rcases R1.out with h | h
         · exact h
         · exact absurd h.2.2 (by have := h.2.1; omega)
        have ol := olt p 4607182418800017408 (by omega) (by omega) hlt
        have hk0 : (k : Int) = 0 := by have := R1'.out.1; omega
        by_cases h22 : j = 1022
        · obtain ⟨a1, a2, a3⟩ := low_r q p hlt (by have := R1'.out.2; rw [h22] at this; exact this)
          have hm := fun t w => run_float_arith (P := Tryz.prog) w .mul t .f64 p 4841369599423283200 _ a2
          have hc := fun w => run_convert_float_int (P := Tryz.prog) w 25 127 .f64 .u64 _ (q : Int) (by rw [Tryz.underlying25]; rfl) Tryz.underlying127 a3
          have hor := or_pos q (by omega)
          have ht : ¬ (-1022 : Int) < (k : Int) - j := by omega
          have A1 := hid (show r = q by have := P1.out; have := R1'.out.1; subst this; omega)
          generalize F q 1074 = y at *
          clear a1 a2 a3 hlt h22 hk0
          go_wp2
          go_ret
          exact ⟨by rw [A1.out]; rfl, rfl⟩
        · obtain ⟨p', b1, b2, b3⟩ := dbl_r p hlt
          have hm := fun t w => run_float_arith (P := Tryz.prog) w .mul t .f64 p 4611686018427387904 _ b1
          have ht : (-1022 : Int) < (k : Int) - j := by omega
          have B2 := hid b2
          have B3 := hid b3
          have H22 := hid h22
          clear b1 b2 b3 hlt h22 hk0
          go_wp2
          go_roundw
          case rel => exact ⟨p', j + 1, rfl, by go_num, hid (.inl ⟨R1'.out.1, by rw [B2.out, R1'.out.2, Nat.pow_succ, Nat.mul_assoc]⟩), B3, hid (by have := R3.out; have := H22.out; omega), by first | trivial | rfl⟩
          case measure => simp [intOf]; omega
      · obtain ⟨f, c1, c2, c3, c4, c5⟩ := top_r r k j p (by omega) R2.out R3.out (by
         rcases R1.out with h | h
         · refine .inl ⟨h.1, ?_⟩
           have := P1.out
           rw [h.1, Nat.zero_mul, Nat.add_zero] at this
           rw [this]
           exact h.2
         · exact .inr ⟨h.1, by rw [h.2.1]; exact P1.out⟩)
        have oo : FloatKind.f64.format.order p 4607182418800017408 = some .gt ∨ FloatKind.f64.format.order p 4607182418800017408 = some .eq := by
         have := R2.out
         by_cases h : p = 4607182418800017408
         · exact .inr (by rw [h]; exact oeq _ (by omega))
         · exact .inl (ogt _ _ (by omega) (by omega) (by omega))
        have hs := fun t w => run_float_arith (P := Tryz.prog) w .sub t .f64 p 4607182418800017408 _ c3
        have hm := fun t w => run_float_arith (P := Tryz.prog) w .mul t .f64 _ 4841369599423283200 _ c4
        have hc := fun w => run_convert_float_int (P := Tryz.prog) w 25 127 .f64 .u64 _ (f : Int) (by rw [Tryz.underlying25]; rfl) Tryz.underlying127 c5
        have hk0 : (0 : Int) ≤ (k : Int) := by omega
        have hj0 : (0 : Int) ≤ (j : Int) := by omega
        have C1 := hid c1
        have C2 := hid c2
        generalize F f 1022 = y at *
        generalize F f 1074 = y' at *
        clear c1 c2 c3 c4 c5 hlt
        rcases oo with oo | oo
        all_goals
         go_wp2
         go_ret
         exact ⟨by rw [← top_pos r k j f R3.out P3.out C1.out C2.out]; rfl, rfl⟩
set_option maxRecDepth 100000 in
set_option maxHeartbeats 1600000 in
theorem spec_FloatBits_neg (r : Nat) (h0 : 0 < r) (h1 : r < 9218868437227405312) (w : World) :
 Calls Tryz.prog 71 #[.float .f64 (9223372036854775808 + r)] w fun e w' => e = .returned (.int .u64 ((9223372036854775808 + r : Nat) : Int)) ∧ w' = w := by
 have o1 : FloatKind.f64.format.order (9223372036854775808 + r) (9223372036854775808 + r) = some .eq := order_eq _ _ (by omega) (by omega) ((isN_not _).2 (by omega)) ((isN_not _).2 (by omega)) rfl
 have o2 : FloatKind.f64.format.order (9223372036854775808 + r) 0 = some .lt := order_lt _ _ (by omega) (by omega) ((isN_not _).2 (by omega)) isN_zero (by rw [kx_zero, kx, if_neg (by omega)]; omega)
 have on := neg_run (9223372036854775808 + r) r (neg_bits r (by omega))
 have o3 := ogt r 0 (by omega) (by omega) h0
 have o4 : FloatKind.f64.format.order r 9218868437227405311 = some .lt ∨ FloatKind.f64.format.order r 9218868437227405311 = some .eq := by
  by_cases h : r = 9218868437227405311
  · exact .inr (by rw [h]; exact oeq _ (by omega))
  · exact .inl (olt _ _ (by omega) (by omega) (by omega))
 have H0 := hid h0
 have H1 := hid h1
 clear h0 h1
 rcases o4 with o4 | o4
 all_goals
  go_enter Tryz.func71, Tryz.ntmps71
  go_wp2
  clear o1 o2 o3 o4 on
  go_loopw [4, 5] (fun a e wr => ∃ q k : Nat, a = .float .f64 q ∧ e = .int .i64 k ∧ Hid (r = q + k * 4503599627370496) ∧ Hid (k = 0 ∨ 4607182418800017408 ≤ q) ∧ Hid (k ≤ 1023) ∧ wr = w) (fun a _ _ => fl a)
  case atStart => exact ⟨r, 0, rfl, rfl, hid (by omega), hid (.inl rfl), hid (by omega), rfl⟩
  case round =>
   obtain ⟨q, k, rfl, rfl, P1, P2, P3, rfl⟩ := hrel
   have hq : q < 9218868437227405312 := by have := P1.out; have := H1.out; omega
   by_cases hge : 4611686018427387904 ≤ q
   · obtain ⟨p, hp, ep⟩ : ∃ p, floatBits .quo .f64 q 4611686018427387904 = some p ∧ Hid (q = p + 4503599627370496) := ⟨_, half_r q hge hq, hid (by omega)⟩
     have hd := fun t w => run_float_arith (P := Tryz.prog) w .quo t .f64 q 4611686018427387904 _ hp
     have oo : FloatKind.f64.format.order q 4611686018427387904 = some .gt ∨ FloatKind.f64.format.order q 4611686018427387904 = some .eq := by
      by_cases h : q = 4611686018427387904
      · exact .inr (by rw [h]; exact oeq _ (by omega))
      · exact .inl (ogt _ _ (by omega) (by omega) (by omega))
     have Q1 := hid hge
     have Q2 := hid hq
     have hk : (k : Int) ≤ 1023 := by have := P3.out; omega
     clear hge hq hp
     rcases oo with oo | oo
     all_goals
      go_wp2
      go_roundw
      case rel => exact ⟨p, k + 1, rfl, by go_num, hid (by have := P1.out; have := ep.out; omega), hid (.inr (by have := Q1.out; have := ep.out; omega)), hid (by have := P1.out; have := P3.out; have := Q1.out; have := H1.out; omega), by first | trivial | rfl⟩
      case measure => have := ep.out; simp only [fl]; omega
   · have oo := olt q 4611686018427387904 (by omega) (by omega) (by omega)
     have Q1 := hid hge
     have Q2 := hid hq
     have hk : (k : Int) ≤ 1023 := by have := P3.out; omega
     clear hge hq
     go_wp2
     clear oo
     go_loopw [4, 5] (fun a e wr' => ∃ p j : Nat, a = .float .f64 p ∧ e = .int .i64 ((k : Int) - j) ∧ Hid ((k = 0 ∧ wval p = wval q * 2 ^ j) ∨ (j = 0 ∧ p = q ∧ 4607182418800017408 ≤ q)) ∧ Hid (p < 4611686018427387904) ∧ Hid (j ≤ 1022) ∧ wr' = wr) (fun _ e _ => (intOf e + 1022).toNat)
     case atStart => exact ⟨q, 0, rfl, by go_num, hid (by
      rcases P2.out with h | h
      · exact .inl ⟨h, by rw [Nat.pow_zero, Nat.mul_one]⟩
      · exact .inr ⟨rfl, rfl, h⟩), hid (by have := Q1.out; omega), hid (by omega), rfl⟩
     case round =>
      obtain ⟨p, j, rfl, rfl, R1, R2, R3, rfl⟩ := hrel
      have hj : (j : Int) ≤ 1022 := by have := R3.out; omega
      by_cases hlt : p < 4607182418800017408
      · have R1' : Hid (k = 0 ∧ wval p = wval q * 2 ^ j) := by
         rcases R1.out with h | h
         · exact h
         · exact absurd h.2.2 (by have := h.2.1; omega)
        have ol := olt p 4607182418800017408 (by omega) (by omega) hlt
        have hk0 : (k : Int) = 0 := by have := R1'.out.1; omega
        by_cases h22 : j = 1022
        · obtain ⟨a1, a2, a3⟩ := low_r q p hlt (by have := R1'.out.2; rw [h22] at this; exact this)
          have hm := fun t w => run_float_arith (P := Tryz.prog) w .mul t .f64 p 4841369599423283200 _ a2
          have hc := fun w => run_convert_float_int (P := Tryz.prog) w 25 127 .f64 .u64 _ (q : Int) (by rw [Tryz.underlying25]; rfl) Tryz.underlying127 a3
          have hor := or_neg q (by omega)
          have ht : ¬ (-1022 : Int) < (k : Int) - j := by omega
          have A1 := hid (show r = q by have := P1.out; have := R1'.out.1; subst this; omega)
          generalize F q 1074 = y at *
          clear a1 a2 a3 hlt h22 hk0
          go_wp2
          go_ret
          exact ⟨by rw [A1.out]; rfl, rfl⟩
        · obtain ⟨p', b1, b2, b3⟩ := dbl_r p hlt
          have hm := fun t w => run_float_arith (P := Tryz.prog) w .mul t .f64 p 4611686018427387904 _ b1
          have ht : (-1022 : Int) < (k : Int) - j := by omega
          have B2 := hid b2
          have B3 := hid b3
          have H22 := hid h22
          clear b1 b2 b3 hlt h22 hk0
          go_wp2
          go_roundw
          case rel => exact ⟨p', j + 1, rfl, by go_num, hid (.inl ⟨R1'.out.1, by rw [B2.out, R1'.out.2, Nat.pow_succ, Nat.mul_assoc]⟩), B3, hid (by have := R3.out; have := H22.out; omega), by first | trivial | rfl⟩
          case measure => simp [intOf]; omega
      · obtain ⟨f, c1, c2, c3, c4, c5⟩ := top_r r k j p (by omega) R2.out R3.out (by
         rcases R1.out with h | h
         · refine .inl ⟨h.1, ?_⟩
           have := P1.out
           rw [h.1, Nat.zero_mul, Nat.add_zero] at this
           rw [this]
           exact h.2
         · exact .inr ⟨h.1, by rw [h.2.1]; exact P1.out⟩)
        have oo : FloatKind.f64.format.order p 4607182418800017408 = some .gt ∨ FloatKind.f64.format.order p 4607182418800017408 = some .eq := by
         have := R2.out
         by_cases h : p = 4607182418800017408
         · exact .inr (by rw [h]; exact oeq _ (by omega))
         · exact .inl (ogt _ _ (by omega) (by omega) (by omega))
        have hs := fun t w => run_float_arith (P := Tryz.prog) w .sub t .f64 p 4607182418800017408 _ c3
        have hm := fun t w => run_float_arith (P := Tryz.prog) w .mul t .f64 _ 4841369599423283200 _ c4
        have hc := fun w => run_convert_float_int (P := Tryz.prog) w 25 127 .f64 .u64 _ (f : Int) (by rw [Tryz.underlying25]; rfl) Tryz.underlying127 c5
        have hk0 : (0 : Int) ≤ (k : Int) := by omega
        have hj0 : (0 : Int) ≤ (j : Int) := by omega
        have C1 := hid c1
        have C2 := hid c2
        generalize F f 1022 = y at *
        generalize F f 1074 = y' at *
        clear c1 c2 c3 c4 c5 hlt
        rcases oo with oo | oo
        all_goals
         go_wp2
         go_ret
         exact ⟨by rw [← top_neg r k j f R3.out P3.out C1.out C2.out]; rfl, rfl⟩
theorem spec_FloatBits_rest (x : Nat) (w : World) (hx : x = 0 ∨ x = 9223372036854775808 ∨ x = 9218868437227405312 ∨ x = 18442240474082181120) :
 Calls Tryz.prog 71 #[.float .f64 x] w fun e w' => e = .returned (.int .u64 (x : Int)) ∧ w' = w := by
 have d1 := fun t w => run_float_arith (P := Tryz.prog) w .quo t .f64 4607182418800017408 0 9218868437227405312 (by decide)
 have d2 := fun t w => run_float_arith (P := Tryz.prog) w .quo t .f64 4607182418800017408 9223372036854775808 18442240474082181120 (by decide)
 have o1 : FloatKind.f64.format.order 0 0 = some .eq := by decide
 have o2 : FloatKind.f64.format.order 9223372036854775808 0 = some .eq := by decide
 have o3 : FloatKind.f64.format.order 9218868437227405312 0 = some .gt := by decide
 have o4 : FloatKind.f64.format.order 18442240474082181120 0 = some .lt := by decide
 have o5 : FloatKind.f64.format.order 9223372036854775808 9223372036854775808 = some .eq := by decide
 have o6 : FloatKind.f64.format.order 9218868437227405312 9218868437227405312 = some .eq := by decide
 have o7 : FloatKind.f64.format.order 18442240474082181120 18442240474082181120 = some .eq := by decide
 have o8 : FloatKind.f64.format.order 9218868437227405312 9218868437227405311 = some .gt := by decide
 have n1 := neg_run 9223372036854775808 0 (by decide)
 have n2 := neg_run 18442240474082181120 9218868437227405312 (by decide)
 have b1 : bits .or .u64 0 9218868437227405312 = 9218868437227405312 := or_pos 9218868437227405312 (by omega)
 have b2 : bits .or .u64 9223372036854775808 9218868437227405312 = 18442240474082181120 := or_neg 9218868437227405312 (by omega)
 rcases hx with rfl | rfl | rfl | rfl
 all_goals
  go_enter Tryz.func71, Tryz.ntmps71
  go_wp2
  go_ret
  exact ⟨rfl, rfl⟩
theorem spec_FloatBits_nan (x : Nat) (hx : x < 18446744073709551616) (hn : isN x = true) (w : World) :
 Calls Tryz.prog 71 #[.float .f64 x] w fun e w' => e = .returned (.int .u64 9221120237041090560) ∧ w' = w := by
 have o := order_l x x hx hn
 clear hx hn
 go_enter Tryz.func71, Tryz.ntmps71
 go_wp2
 go_ret
 exact ⟨rfl, rfl⟩
theorem spec_FloatBits (x : Nat) (hx : x < 18446744073709551616) (w : World) :
 Calls Tryz.prog 71 #[.float .f64 x] w fun e w' => e = .returned (.int .u64 (fbits x : Int)) ∧ w' = w := by
 by_cases hn : isN x = true
 · rw [fbits, if_pos hn]
   exact spec_FloatBits_nan x hx hn w
 · have hn' : isN x = false := by simpa using hn
   rw [isN_not] at hn'
   rw [fbits, if_neg hn]
   by_cases h4 : x = 0 ∨ x = 9223372036854775808 ∨ x = 9218868437227405312 ∨ x = 18442240474082181120
   · exact spec_FloatBits_rest x w h4
   · by_cases hp : x < 9223372036854775808
     · exact spec_FloatBits_pos x (by omega) (by omega) w
     · obtain ⟨r, rfl⟩ : ∃ r, x = 9223372036854775808 + r := ⟨x - 9223372036854775808, by omega⟩
       exact spec_FloatBits_neg r (by omega) (by omega) w
end Go.Proofs.YtlkoghdajpbffaaGreat
/- The contract of the specification's FloatOf: the float with the bits, or some NaN where they are a NaN's; memory stays as it was. For every argument. -/


namespace Go.Proofs.YtlkoghdajpbffaaGreat
open Go.RowKit Ieee
end Go.Proofs.YtlkoghdajpbffaaGreat
/- The contract of the specification's FloatOf: the float with the bits, or some NaN where they are a NaN's; memory stays as it was. For every argument. -/

namespace Go.Proofs.YtlkoghdajpbffaaGreat
open Go.RowKit Ieee
end Go.Proofs.YtlkoghdajpbffaaGreat
/- One float, all NaNs being one. No statement of its own; no conditions. -/

namespace Go.Proofs.YtlkoghdajpbffaaGreat
def Same (x y : Nat) : Prop := (isN x = true ∧ isN y = true) ∨ (isN x = false ∧ y = x)
theorem Same.refl (x : Nat) : Same x x := by
 by_cases h : isN x = true
 · exact .inl ⟨h, h⟩
 · exact .inr ⟨by simpa using h, rfl⟩
end Go.Proofs.YtlkoghdajpbffaaGreat
/- The contracts of the specification's FloatRank, FloatUnrank and FloatCompare and of the laws' sameFloat; the laws of chapter 2 on FloatBits, FloatOf, FloatRank, FloatUnrank, FloatCompare. For every argument. -/


namespace Go.Proofs.YtlkoghdajpbffaaGreat
open Go.RowKit Ieee
theorem sameFloat_walk (x y : Nat) (hx : x < 18446744073709551616) (hy : y < 18446744073709551616) (hs : Same x y) (w : World) :
 Calls Tryz.prog 34 #[.float .f64 x, .float .f64 y] w fun e w' => e = .returned (.bool true) ∧ w' = w := by
 rcases hs with ⟨n1, n2⟩ | ⟨n1, rfl⟩
 · have o1 := order_l x x hx n1
   have o2 := order_l y y hy n2
   clear hx hy n1 n2
   go_enter Tryz.func34, Tryz.ntmps34
   go_wp2
   go_ret
   exact ⟨rfl, rfl⟩
 · have o1 := order_eq y y hx hx n1 n1 rfl
   by_cases h0 : y % 9223372036854775808 = 0
   · have h2 : y = 0 ∨ y = 9223372036854775808 := by omega
     clear hx hy n1 h0
     have d1 := fun t w => run_float_arith (P := Tryz.prog) w .quo t .f64 4607182418800017408 0 9218868437227405312 (by decide)
     have d2 := fun t w => run_float_arith (P := Tryz.prog) w .quo t .f64 4607182418800017408 9223372036854775808 18442240474082181120 (by decide)
     have o3 : FloatKind.f64.format.order 9218868437227405312 0 = some .gt := by decide
     have o4 : FloatKind.f64.format.order 18442240474082181120 0 = some .lt := by decide
     have o5 : FloatKind.f64.format.order 9223372036854775808 0 = some .eq := by decide
     rcases h2 with rfl | rfl
     all_goals
      go_enter Tryz.func34, Tryz.ntmps34
      go_wp2
      go_ret
      exact ⟨rfl, rfl⟩
   · have hm := (isN_not y).1 n1
     have o2 : FloatKind.f64.format.order y 0 = some .lt ∨ FloatKind.f64.format.order y 0 = some .gt := by
      by_cases hp : y < 9223372036854775808
      · exact .inr (order_gt y 0 hx (by omega) n1 isN_zero (by rw [kx_zero, kx, if_pos hp]; omega))
      · exact .inl (order_lt y 0 hx (by omega) n1 isN_zero (by rw [kx_zero, kx, if_neg hp]; omega))
     clear hx hy n1 h0 hm
     rcases o2 with o2 | o2
     all_goals
      go_enter Tryz.func34, Tryz.ntmps34
      go_wp2
      go_ret
      exact ⟨rfl, rfl⟩
theorem or_top (x : Nat) (h : x < 9223372036854775808) : bits .or .u64 (x : Int) 9223372036854775808 = ((x + 9223372036854775808 : Nat) : Int) := by
 have := u64_or_nat x 9223372036854775808 (by omega) (by omega)
 rw [Nat.or_comm, nat_join 63 _ _ (by decide) (by omega), Nat.add_comm] at this
 exact this
theorem spec_FloatRank (x : Nat) (hx : x < 18446744073709551616) (w : World) :
 Calls Tryz.prog 106 #[.float .f64 x] w fun e w' => e = .returned (.int .u64 (frank x)) ∧ w' = w := by
 by_cases hn : isN x = true
 · have ef : frank x = 18446744073709551615 := by rw [frank, if_pos hn]
   have eb : fbits x = 9221120237041090560 := by rw [fbits, if_pos hn]
   go_enter Tryz.func106, Tryz.ntmps106
   go_wp2_with fail
   refine (spec_FloatBits x hx w).mono ?_
   rintro e w1 ⟨rfl, rfl⟩
   rw [eb]
   go_wp2_with fail
   go_ret
   exact ⟨by rw [ef]; rfl, rfl⟩
 · have hn' : isN x = false := by simpa using hn
   have hm := (isN_not x).1 hn'
   have eb : fbits x = x := by rw [fbits, if_neg hn]
   have hne : ((x : Int) == 9221120237041090560) = false := beq_eq_false_iff_ne.2 (by omega)
   by_cases h0 : x % 9223372036854775808 = 0
   · have ef : frank x = 9223372036854775808 := by rw [frank, if_neg hn, if_pos h0]
     have o := order_eq x 0 hx (by omega) hn' isN_zero (by rw [kx_zero, kx]; split <;> omega)
     clear hm h0 hn hn'
     go_enter Tryz.func106, Tryz.ntmps106
     go_wp2_with fail
     refine (spec_FloatBits x hx w).mono ?_
     rintro e w1 ⟨rfl, rfl⟩
     rw [eb]
     go_wp2_with fail
     go_ret
     exact ⟨by rw [ef]; rfl, rfl⟩
   · by_cases hs : x < 9223372036854775808
     · have ef := hid (show frank x = x + 9223372036854775808 by rw [frank, if_neg hn, if_neg h0, if_pos hs])
       have o := order_gt x 0 hx (by omega) hn' isN_zero (by rw [kx_zero, kx]; split <;> omega)
       have ht : ((x : Int) / 9223372036854775808 == 1) = false := beq_eq_false_iff_ne.2 (by omega)
       have hor := or_top x hs
       clear hm h0 hn hn' hs
       go_enter Tryz.func106, Tryz.ntmps106
       go_wp2_with fail
       refine (spec_FloatBits x hx w).mono ?_
       rintro e w1 ⟨rfl, rfl⟩
       rw [eb]
       go_wp2_with fail
       go_ret
       exact ⟨by rw [ef.out]; rfl, rfl⟩
     · have ef := hid (show frank x = 18446744073709551615 - x by rw [frank, if_neg hn, if_neg h0, if_neg hs])
       have o := order_lt x 0 hx (by omega) hn' isN_zero (by rw [kx_zero, kx]; split <;> omega)
       have ht : ((x : Int) / 9223372036854775808 == 1) = true := beq_iff_eq.2 (by omega)
       have hnot := not64 x hx
       clear hm h0 hn hn' hs
       go_enter Tryz.func106, Tryz.ntmps106
       go_wp2_with fail
       refine (spec_FloatBits x hx w).mono ?_
       rintro e w1 ⟨rfl, rfl⟩
       rw [eb]
       go_wp2_with fail
       go_ret
       exact ⟨by rw [ef.out]; rfl, rfl⟩
theorem spec_FloatCompare (x y : Nat) (hx : x < 18446744073709551616) (hy : y < 18446744073709551616) (w : World) :
 Calls Tryz.prog 95 #[.float .f64 x, .float .f64 y] w fun e w' => e = .returned (.int .i64 (cmp3 (frank x) (frank y))) ∧ w' = w := by
 have hrx := spec_FloatRank x hx
 have hry := spec_FloatRank y hy
 generalize frank x = a at *
 generalize frank y = b at *
 rcases Nat.lt_trichotomy a b with h | h | h
 · have ec : cmp3 a b = -1 := by rw [cmp3, if_pos h]
   have h1 : (a : Int) < b := by omega
   clear h
   go_enter Tryz.func95, Tryz.ntmps95
   go_wp2_with fail
   refine (hrx _).mono ?_
   rintro e w1 ⟨rfl, rfl⟩
   go_wp2_with fail
   refine (hry _).mono ?_
   rintro e w1 ⟨rfl, rfl⟩
   go_wp2_with fail
   go_ret
   exact ⟨by rw [ec]; rfl, rfl⟩
 · have ec : cmp3 a b = 0 := by rw [cmp3, if_neg (by omega), if_neg (by omega)]
   subst h
   go_enter Tryz.func95, Tryz.ntmps95
   go_wp2_with fail
   refine (hrx _).mono ?_
   rintro e w1 ⟨rfl, rfl⟩
   go_wp2_with fail
   refine (hry _).mono ?_
   rintro e w1 ⟨rfl, rfl⟩
   go_wp2_with fail
   go_ret
   exact ⟨by rw [ec]; rfl, rfl⟩
 · have ec : cmp3 a b = 1 := by rw [cmp3, if_neg (by omega), if_pos h]
   have h1 : (b : Int) < a := by omega
   clear h
   go_enter Tryz.func95, Tryz.ntmps95
   go_wp2_with fail
   refine (hrx _).mono ?_
   rintro e w1 ⟨rfl, rfl⟩
   go_wp2_with fail
   refine (hry _).mono ?_
   rintro e w1 ⟨rfl, rfl⟩
   go_wp2_with fail
   go_ret
   exact ⟨by rw [ec]; rfl, rfl⟩
end Go.Proofs.YtlkoghdajpbffaaGreat
/- Items: what is ItemOk; the contracts of the specification's ItemOk and KeyOk and of the laws' szItem, toItem, eqItem. Conditions: texts of at most 2^21 bytes where memory is made. -/


namespace Go.Proofs.YtlkoghdajpbffaaGreat
open Go.RowKit
def okI (K N : Int) (f n : Nat) : Bool := decide (0 ≤ K ∧ K ≤ 3 ∧ n ≤ 40 ∧ (K = 1 ∨ N = 0) ∧ (K = 2 ∨ f = 0) ∧ (K = 3 ∨ n = 0))
theorem fbits_zero (f : Nat) : fbits f = 0 ↔ f = 0 := by
 unfold fbits
 split
 · rename_i h
   constructor
   · intro h'; omega
   · intro h'; subst h'; exact absurd h (by decide)
 · exact Iff.rfl
theorem fbits_ne (f : Nat) (h : f ≠ 0) : ((fbits f : Int) != 0) = true := by
 have := fun e => h ((fbits_zero f).1 e)
 simp
 omega
set_option maxRecDepth 100000 in
set_option maxHeartbeats 1600000 in
theorem spec_ItemOk (K N : Int) (f : Nat) (ad : Option Addr) (n cap : Nat) (hf : f < 18446744073709551616) (hn : n ≤ 2097152) (w : World) :
 Calls Tryz.prog 70 #[.agg #[.int .i64 K, .int .i64 N, .float .f64 f, .slice ad n cap]] w fun e w' => e = .returned (.bool (okI K N f n)) ∧ Below w.heap.size w w' := by
 have hA : Below w.heap.size w (w.alloc (.cells #[.int .i64 K, .int .i64 N, .float .f64 f, .slice ad n cap] 37)) := (Below.refl _ _).alloc qN _
 have HA := hid hA
 clear hA
 by_cases h1 : K < 0
 · rw [show okI K N f n = false from decide_eq_false (by omega)]
   go_enter Tryz.func70, Tryz.ntmps70
   go_wp2
   go_ret
   exact ⟨rfl, HA.out⟩
 by_cases h2 : 3 < K
 · rw [show okI K N f n = false from decide_eq_false (by omega)]
   go_enter Tryz.func70, Tryz.ntmps70
   go_wp2
   go_ret
   exact ⟨rfl, HA.out⟩
 by_cases h3 : 40 < n
 · rw [show okI K N f n = false from decide_eq_false (by omega)]
   have h3' : (40 : Int) < (n : Int) := by omega
   go_enter Tryz.func70, Tryz.ntmps70
   go_wp2
   go_ret
   exact ⟨rfl, HA.out⟩
 have h3' : ¬ (40 : Int) < (n : Int) := by omega
 by_cases h4 : K ≠ 1 ∧ N ≠ 0
 · rw [show okI K N f n = false from decide_eq_false (by omega)]
   have q1 : (K != 1) = true := by simp [h4.1]
   have q2 : (N != 0) = true := by simp [h4.2]
   go_enter Tryz.func70, Tryz.ntmps70
   go_wp2
   go_ret
   exact ⟨rfl, HA.out⟩
 by_cases h5 : K = 1
 · subst h5
   by_cases h6 : f = 0
   · subst h6
     have hz : fbits 0 = 0 := by decide
     by_cases h7 : n = 0
     · subst h7
       rw [show okI 1 N 0 0 = true from decide_eq_true (by omega)]
       go_enter Tryz.func70, Tryz.ntmps70
       go_wp2_with fail
       refine (spec_FloatBits 0 hf _).mono ?_
       rintro e w1 ⟨rfl, rfl⟩
       rw [hz]
       go_wp2_with fail
       go_ret
       exact ⟨rfl, HA.out⟩
     · rw [show okI 1 N 0 n = false from decide_eq_false (by omega)]
       have q7 : ((n : Int) == 0) = false := beq_eq_false_iff_ne.2 (by omega)
       go_enter Tryz.func70, Tryz.ntmps70
       go_wp2_with fail
       refine (spec_FloatBits 0 hf _).mono ?_
       rintro e w1 ⟨rfl, rfl⟩
       rw [hz]
       go_wp2_with fail
       go_ret
       exact ⟨rfl, HA.out⟩
   · rw [show okI 1 N f n = false from decide_eq_false (by omega)]
     have q6 : ((fbits f : Int) != 0) = true := fbits_ne f h6
     go_enter Tryz.func70, Tryz.ntmps70
     go_wp2_with fail
     refine (spec_FloatBits f hf _).mono ?_
     rintro e w1 ⟨rfl, rfl⟩
     go_wp2_with fail
     go_ret
     exact ⟨rfl, HA.out⟩
 have h8 : N = 0 := by omega
 subst h8
 have q1 : (K != 1) = true := by simp [h5]
 by_cases h9 : K = 2
 · subst h9
   by_cases h7 : n = 0
   · subst h7
     rw [show okI 2 0 f 0 = true from decide_eq_true (by omega)]
     go_enter Tryz.func70, Tryz.ntmps70
     go_wp2
     go_ret
     exact ⟨rfl, HA.out⟩
   · rw [show okI 2 0 f n = false from decide_eq_false (by omega)]
     have q7 : ((n : Int) == 0) = false := beq_eq_false_iff_ne.2 (by omega)
     go_enter Tryz.func70, Tryz.ntmps70
     go_wp2
     go_ret
     exact ⟨rfl, HA.out⟩
 have q9 : (K != 2) = true := by simp [h9]
 by_cases h6 : f = 0
 · subst h6
   have hz : fbits 0 = 0 := by decide
   by_cases h7 : K = 3
   · subst h7
     rw [show okI 3 0 0 n = true from decide_eq_true (by omega)]
     go_enter Tryz.func70, Tryz.ntmps70
     go_wp2_with fail
     refine (spec_FloatBits 0 hf _).mono ?_
     rintro e w1 ⟨rfl, rfl⟩
     rw [hz]
     go_wp2_with fail
     go_ret
     exact ⟨rfl, HA.out⟩
   · have h10 : K = 0 := by omega
     subst h10
     by_cases h7 : n = 0
     · subst h7
       rw [show okI 0 0 0 0 = true from decide_eq_true (by omega)]
       go_enter Tryz.func70, Tryz.ntmps70
       go_wp2_with fail
       refine (spec_FloatBits 0 hf _).mono ?_
       rintro e w1 ⟨rfl, rfl⟩
       rw [hz]
       go_wp2_with fail
       go_ret
       exact ⟨rfl, HA.out⟩
     · rw [show okI 0 0 0 n = false from decide_eq_false (by omega)]
       have q7 : ((n : Int) == 0) = false := beq_eq_false_iff_ne.2 (by omega)
       go_enter Tryz.func70, Tryz.ntmps70
       go_wp2_with fail
       refine (spec_FloatBits 0 hf _).mono ?_
       rintro e w1 ⟨rfl, rfl⟩
       rw [hz]
       go_wp2_with fail
       go_ret
       exact ⟨rfl, HA.out⟩
 · rw [show okI K 0 f n = false from decide_eq_false (by omega)]
   have q6 : ((fbits f : Int) != 0) = true := fbits_ne f h6
   go_enter Tryz.func70, Tryz.ntmps70
   go_wp2_with fail
   refine (spec_FloatBits f hf _).mono ?_
   rintro e w1 ⟨rfl, rfl⟩
   go_wp2_with fail
   go_ret
   exact ⟨rfl, HA.out⟩
def okK (K N : Int) (f n : Nat) : Bool := okI K N f n && decide (K ≠ 0 ∧ f ≠ 9223372036854775808)
end Go.Proofs.YtlkoghdajpbffaaGreat
