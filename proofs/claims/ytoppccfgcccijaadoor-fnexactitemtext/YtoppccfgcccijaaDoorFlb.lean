/- The contract of the specification's FloatBits: it answers 'fbits', and leaves memory as it was. For every argument. -/
import Derived.Test.YtoppccfgcccijaaDoorFlw
namespace Go.Proofs.YtoppccfgcccijaaDoor
open Go.RowKit Ieee

/-- The bits in a float's cell. -/
def fl : Value → Nat
  | .float _ b => b
  | _ => 0

theorem or_pos (x : Nat) (h : x < 9223372036854775808) : bits .or .u64 0 (x : Int) = ((x : Nat) : Int) := by
  have := u64_or_nat 0 x (by omega) (by omega)
  rw [Nat.zero_or] at this
  exact this
theorem or_neg (x : Nat) (h : x < 9223372036854775808) : bits .or .u64 9223372036854775808 (x : Int) = ((9223372036854775808 + x : Nat) : Int) := by
  have := u64_or_nat 9223372036854775808 x (by omega) (by omega)
  rw [nat_join 63 _ _ (by decide) (by omega)] at this
  exact this
theorem or_low (s e f : Nat) (hs : s = 0 ∨ s = 9223372036854775808) (he : e < 2048) (hf : f < 4503599627370496) : bits .or .u64 ((s + e * 4503599627370496 : Nat) : Int) (f : Int) = ((s + (e * 4503599627370496 + f) : Nat) : Int) := by
  rw [u64_or_nat _ _ (by omega) (by omega), nat_join 52 _ _ (by omega) (by omega), Nat.add_assoc]

theorem top_pos (r k j f : Nat) (hj : j ≤ 1022) (hk : k ≤ 1023) (hf : f < 4503599627370496) (e : r = (k + 1023 - j) * 4503599627370496 + f) :
    bits .or .u64 (bits .or .u64 0 (((k : Int) - j + 1023) * 4503599627370496)) (f : Int) = (r : Int) := by
  rw [show ((k : Int) - j + 1023) * 4503599627370496 = (((k + 1023 - j) * 4503599627370496 : Nat) : Int) by omega, or_pos _ (by omega)]
  have := or_low 0 (k + 1023 - j) f (.inl rfl) (by omega) hf
  rw [Nat.zero_add, Nat.zero_add, ← e] at this
  exact this
theorem top_neg (r k j f : Nat) (hj : j ≤ 1022) (hk : k ≤ 1023) (hf : f < 4503599627370496) (e : r = (k + 1023 - j) * 4503599627370496 + f) :
    bits .or .u64 (bits .or .u64 9223372036854775808 (((k : Int) - j + 1023) * 4503599627370496)) (f : Int) = ((9223372036854775808 + r : Nat) : Int) := by
  rw [show ((k : Int) - j + 1023) * 4503599627370496 = (((k + 1023 - j) * 4503599627370496 : Nat) : Int) by omega, or_neg _ (by omega)]
  rw [or_low 9223372036854775808 (k + 1023 - j) f (.inr rfl) (by omega) hf, ← e]

theorem neg_bits (r : Nat) (h : r < 9223372036854775808) : Op.negFloat .f64 (9223372036854775808 + r) = r := by
  unfold Op.negFloat
  rw [show 2 ^ (FloatKind.f64.format.exponentBits + FloatKind.f64.format.fractionBits) = 2 ^ 63 from rfl]
  have e : 9223372036854775808 + r = 2 ^ 63 ||| r := (nat_join 63 _ _ (by decide) (by omega)).symm
  rw [e]
  apply Nat.eq_of_testBit_eq
  intro i
  rw [Nat.testBit_xor, Nat.testBit_or, Nat.testBit_two_pow]
  by_cases hi : 63 = i
  · subst hi
    rw [Nat.testBit_lt_two_pow h]
    rfl
  · simp [hi]

theorem neg_run (x y : Nat) (h : Op.negFloat .f64 x = y) (w : World) : (Op.unary .neg (.float .f64 x)).run Tryd.prog w = .ok (.float .f64 y) w := by
  subst h
  rfl

set_option maxRecDepth 100000 in
set_option maxHeartbeats 1600000 in
theorem spec_FloatBits_pos (r : Nat) (h0 : 0 < r) (h1 : r < 9218868437227405312) (w : World) :
    Calls Tryd.prog 30 #[.float .f64 (r)] w fun e w' => e = .returned (.int .u64 ((r : Nat) : Int)) ∧ w' = w := by
  have o1 := oeq r (by omega)
  have o3 := ogt r 0 (by omega) (by omega) h0
  have o4 : FloatKind.f64.format.order r 9218868437227405311 = some .lt ∨ FloatKind.f64.format.order r 9218868437227405311 = some .eq := by
    by_cases h : r = 9218868437227405311
    · exact .inr (by rw [h]; exact oeq _ (by omega))
    · exact .inl (olt _ _ (by omega) (by omega) (by omega))
  have H0 := hid h0
  have H1 := hid h1
  clear h0 h1
  rcases o4 with o4 | o4
  all_goals
    go_enter Tryd.func30, Tryd.ntmps30
    go_wp2
    clear o1 o3 o4
    go_loopw [4, 5] (fun a e wr => ∃ q k : Nat, a = .float .f64 q ∧ e = .int .i64 k ∧ Hid (r = q + k * 4503599627370496) ∧ Hid (k = 0 ∨ 4607182418800017408 ≤ q) ∧ Hid (k ≤ 1023) ∧ wr = w) (fun a _ _ => fl a)
    case atStart => exact ⟨r, 0, rfl, rfl, hid (by omega), hid (.inl rfl), hid (by omega), rfl⟩
    case round =>
      obtain ⟨q, k, rfl, rfl, P1, P2, P3, rfl⟩ := hrel
      have hq : q < 9218868437227405312 := by have := P1.out; have := H1.out; omega
      by_cases hge : 4611686018427387904 ≤ q
      · obtain ⟨p, hp, ep⟩ : ∃ p, floatBits .quo .f64 q 4611686018427387904 = some p ∧ Hid (q = p + 4503599627370496) := ⟨_, half_r q hge hq, hid (by omega)⟩
        have hd := fun t w => run_float_arith (P := Tryd.prog) w .quo t .f64 q 4611686018427387904 _ hp
        have oo : FloatKind.f64.format.order q 4611686018427387904 = some .gt ∨ FloatKind.f64.format.order q 4611686018427387904 = some .eq := by
          by_cases h : q = 4611686018427387904
          · exact .inr (by rw [h]; exact oeq _ (by omega))
          · exact .inl (ogt _ _ (by omega) (by omega) (by omega))
        have Q1 := hid hge
        have Q2 := hid hq
        have hk : (k : Int) ≤ 1023 := by have := P3.out; omega
        clear hge hq hp
        rcases oo with oo | oo
        all_goals
          go_wp2
          go_roundw
          case rel => exact ⟨p, k + 1, rfl, by go_num, hid (by have := P1.out; have := ep.out; omega), hid (.inr (by have := Q1.out; have := ep.out; omega)), hid (by have := P1.out; have := P3.out; have := Q1.out; have := H1.out; omega), by first | trivial | rfl⟩
          case measure => have := ep.out; simp only [fl]; omega
      · have oo := olt q 4611686018427387904 (by omega) (by omega) (by omega)
        have Q1 := hid hge
        have Q2 := hid hq
        have hk : (k : Int) ≤ 1023 := by have := P3.out; omega
        clear hge hq
        go_wp2
        clear oo
        go_loopw [4, 5] (fun a e wr' => ∃ p j : Nat, a = .float .f64 p ∧ e = .int .i64 ((k : Int) - j) ∧ Hid ((k = 0 ∧ wval p = wval q * 2 ^ j) ∨ (j = 0 ∧ p = q ∧ 4607182418800017408 ≤ q)) ∧ Hid (p < 4611686018427387904) ∧ Hid (j ≤ 1022) ∧ wr' = wr) (fun _ e _ => (intOf e + 1022).toNat)
        case atStart => exact ⟨q, 0, rfl, by go_num, hid (by
          rcases P2.out with h | h
          · exact .inl ⟨h, by rw [Nat.pow_zero, Nat.mul_one]⟩
          · exact .inr ⟨rfl, rfl, h⟩), hid (by have := Q1.out; omega), hid (by omega), rfl⟩
        case round =>
          obtain ⟨p, j, rfl, rfl, R1, R2, R3, rfl⟩ := hrel
          have hj : (j : Int) ≤ 1022 := by have := R3.out; omega
          by_cases hlt : p < 4607182418800017408
          · have R1' : Hid (k = 0 ∧ wval p = wval q * 2 ^ j) := by
              rcases R1.out with h | h
              · exact h
              · exact absurd h.2.2 (by have := h.2.1; omega)
            have ol := olt p 4607182418800017408 (by omega) (by omega) hlt
            have hk0 : (k : Int) = 0 := by have := R1'.out.1; omega
            by_cases h22 : j = 1022
            · obtain ⟨a1, a2, a3⟩ := low_r q p hlt (by have := R1'.out.2; rw [h22] at this; exact this)
              have hm := fun t w => run_float_arith (P := Tryd.prog) w .mul t .f64 p 4841369599423283200 _ a2
              have hc := fun w => run_convert_float_int (P := Tryd.prog) w 22 54 .f64 .u64 _ (q : Int) (by rw [Tryd.underlying22]; rfl) Tryd.underlying54 a3
              have hor := or_pos q (by omega)
              have ht : ¬ (-1022 : Int) < (k : Int) - j := by omega
              have A1 := hid (show r = q by have := P1.out; have := R1'.out.1; subst this; omega)
              generalize F q 1074 = y at *
              clear a1 a2 a3 hlt h22 hk0
              go_wp2
              go_ret
              exact ⟨by rw [A1.out]; rfl, rfl⟩
            · obtain ⟨p', b1, b2, b3⟩ := dbl_r p hlt
              have hm := fun t w => run_float_arith (P := Tryd.prog) w .mul t .f64 p 4611686018427387904 _ b1
              have ht : (-1022 : Int) < (k : Int) - j := by omega
              have B2 := hid b2
              have B3 := hid b3
              have H22 := hid h22
              clear b1 b2 b3 hlt h22 hk0
              go_wp2
              go_roundw
              case rel => exact ⟨p', j + 1, rfl, by go_num, hid (.inl ⟨R1'.out.1, by rw [B2.out, R1'.out.2, Nat.pow_succ, Nat.mul_assoc]⟩), B3, hid (by have := R3.out; have := H22.out; omega), by first | trivial | rfl⟩
              case measure => simp [intOf]; omega
          · obtain ⟨f, c1, c2, c3, c4, c5⟩ := top_r r k j p (by omega) R2.out R3.out (by
              rcases R1.out with h | h
              · refine .inl ⟨h.1, ?_⟩
                have := P1.out
                rw [h.1, Nat.zero_mul, Nat.add_zero] at this
                rw [this]
                exact h.2
              · exact .inr ⟨h.1, by rw [h.2.1]; exact P1.out⟩)
            have oo : FloatKind.f64.format.order p 4607182418800017408 = some .gt ∨ FloatKind.f64.format.order p 4607182418800017408 = some .eq := by
              have := R2.out
              by_cases h : p = 4607182418800017408
              · exact .inr (by rw [h]; exact oeq _ (by omega))
              · exact .inl (ogt _ _ (by omega) (by omega) (by omega))
            have hs := fun t w => run_float_arith (P := Tryd.prog) w .sub t .f64 p 4607182418800017408 _ c3
            have hm := fun t w => run_float_arith (P := Tryd.prog) w .mul t .f64 _ 4841369599423283200 _ c4
            have hc := fun w => run_convert_float_int (P := Tryd.prog) w 22 54 .f64 .u64 _ (f : Int) (by rw [Tryd.underlying22]; rfl) Tryd.underlying54 c5
            have hk0 : (0 : Int) ≤ (k : Int) := by omega
            have hj0 : (0 : Int) ≤ (j : Int) := by omega
            have C1 := hid c1
            have C2 := hid c2
            generalize F f 1022 = y at *
            generalize F f 1074 = y' at *
            clear c1 c2 c3 c4 c5 hlt
            rcases oo with oo | oo
            all_goals
              go_wp2
              go_ret
              exact ⟨by rw [← top_pos r k j f R3.out P3.out C1.out C2.out]; rfl, rfl⟩

set_option maxRecDepth 100000 in
set_option maxHeartbeats 1600000 in
theorem spec_FloatBits_neg (r : Nat) (h0 : 0 < r) (h1 : r < 9218868437227405312) (w : World) :
    Calls Tryd.prog 30 #[.float .f64 (9223372036854775808 + r)] w fun e w' => e = .returned (.int .u64 ((9223372036854775808 + r : Nat) : Int)) ∧ w' = w := by
  have o1 : FloatKind.f64.format.order (9223372036854775808 + r) (9223372036854775808 + r) = some .eq := order_eq _ _ (by omega) (by omega) ((isN_not _).2 (by omega)) ((isN_not _).2 (by omega)) rfl
  have o2 : FloatKind.f64.format.order (9223372036854775808 + r) 0 = some .lt := order_lt _ _ (by omega) (by omega) ((isN_not _).2 (by omega)) isN_zero (by rw [kx_zero, kx, if_neg (by omega)]; omega)
  have on := neg_run (9223372036854775808 + r) r (neg_bits r (by omega))
  have o3 := ogt r 0 (by omega) (by omega) h0
  have o4 : FloatKind.f64.format.order r 9218868437227405311 = some .lt ∨ FloatKind.f64.format.order r 9218868437227405311 = some .eq := by
    by_cases h : r = 9218868437227405311
    · exact .inr (by rw [h]; exact oeq _ (by omega))
    · exact .inl (olt _ _ (by omega) (by omega) (by omega))
  have H0 := hid h0
  have H1 := hid h1
  clear h0 h1
  rcases o4 with o4 | o4
  all_goals
    go_enter Tryd.func30, Tryd.ntmps30
    go_wp2
    clear o1 o2 o3 o4 on
    go_loopw [4, 5] (fun a e wr => ∃ q k : Nat, a = .float .f64 q ∧ e = .int .i64 k ∧ Hid (r = q + k * 4503599627370496) ∧ Hid (k = 0 ∨ 4607182418800017408 ≤ q) ∧ Hid (k ≤ 1023) ∧ wr = w) (fun a _ _ => fl a)
    case atStart => exact ⟨r, 0, rfl, rfl, hid (by omega), hid (.inl rfl), hid (by omega), rfl⟩
    case round =>
      obtain ⟨q, k, rfl, rfl, P1, P2, P3, rfl⟩ := hrel
      have hq : q < 9218868437227405312 := by have := P1.out; have := H1.out; omega
      by_cases hge : 4611686018427387904 ≤ q
      · obtain ⟨p, hp, ep⟩ : ∃ p, floatBits .quo .f64 q 4611686018427387904 = some p ∧ Hid (q = p + 4503599627370496) := ⟨_, half_r q hge hq, hid (by omega)⟩
        have hd := fun t w => run_float_arith (P := Tryd.prog) w .quo t .f64 q 4611686018427387904 _ hp
        have oo : FloatKind.f64.format.order q 4611686018427387904 = some .gt ∨ FloatKind.f64.format.order q 4611686018427387904 = some .eq := by
          by_cases h : q = 4611686018427387904
          · exact .inr (by rw [h]; exact oeq _ (by omega))
          · exact .inl (ogt _ _ (by omega) (by omega) (by omega))
        have Q1 := hid hge
        have Q2 := hid hq
        have hk : (k : Int) ≤ 1023 := by have := P3.out; omega
        clear hge hq hp
        rcases oo with oo | oo
        all_goals
          go_wp2
          go_roundw
          case rel => exact ⟨p, k + 1, rfl, by go_num, hid (by have := P1.out; have := ep.out; omega), hid (.inr (by have := Q1.out; have := ep.out; omega)), hid (by have := P1.out; have := P3.out; have := Q1.out; have := H1.out; omega), by first | trivial | rfl⟩
          case measure => have := ep.out; simp only [fl]; omega
      · have oo := olt q 4611686018427387904 (by omega) (by omega) (by omega)
        have Q1 := hid hge
        have Q2 := hid hq
        have hk : (k : Int) ≤ 1023 := by have := P3.out; omega
        clear hge hq
        go_wp2
        clear oo
        go_loopw [4, 5] (fun a e wr' => ∃ p j : Nat, a = .float .f64 p ∧ e = .int .i64 ((k : Int) - j) ∧ Hid ((k = 0 ∧ wval p = wval q * 2 ^ j) ∨ (j = 0 ∧ p = q ∧ 4607182418800017408 ≤ q)) ∧ Hid (p < 4611686018427387904) ∧ Hid (j ≤ 1022) ∧ wr' = wr) (fun _ e _ => (intOf e + 1022).toNat)
        case atStart => exact ⟨q, 0, rfl, by go_num, hid (by
          rcases P2.out with h | h
          · exact .inl ⟨h, by rw [Nat.pow_zero, Nat.mul_one]⟩
          · exact .inr ⟨rfl, rfl, h⟩), hid (by have := Q1.out; omega), hid (by omega), rfl⟩
        case round =>
          obtain ⟨p, j, rfl, rfl, R1, R2, R3, rfl⟩ := hrel
          have hj : (j : Int) ≤ 1022 := by have := R3.out; omega
          by_cases hlt : p < 4607182418800017408
          · have R1' : Hid (k = 0 ∧ wval p = wval q * 2 ^ j) := by
              rcases R1.out with h | h
              · exact h
              · exact absurd h.2.2 (by have := h.2.1; omega)
            have ol := olt p 4607182418800017408 (by omega) (by omega) hlt
            have hk0 : (k : Int) = 0 := by have := R1'.out.1; omega
            by_cases h22 : j = 1022
            · obtain ⟨a1, a2, a3⟩ := low_r q p hlt (by have := R1'.out.2; rw [h22] at this; exact this)
              have hm := fun t w => run_float_arith (P := Tryd.prog) w .mul t .f64 p 4841369599423283200 _ a2
              have hc := fun w => run_convert_float_int (P := Tryd.prog) w 22 54 .f64 .u64 _ (q : Int) (by rw [Tryd.underlying22]; rfl) Tryd.underlying54 a3
              have hor := or_neg q (by omega)
              have ht : ¬ (-1022 : Int) < (k : Int) - j := by omega
              have A1 := hid (show r = q by have := P1.out; have := R1'.out.1; subst this; omega)
              generalize F q 1074 = y at *
              clear a1 a2 a3 hlt h22 hk0
              go_wp2
              go_ret
              exact ⟨by rw [A1.out]; rfl, rfl⟩
            · obtain ⟨p', b1, b2, b3⟩ := dbl_r p hlt
              have hm := fun t w => run_float_arith (P := Tryd.prog) w .mul t .f64 p 4611686018427387904 _ b1
              have ht : (-1022 : Int) < (k : Int) - j := by omega
              have B2 := hid b2
              have B3 := hid b3
              have H22 := hid h22
              clear b1 b2 b3 hlt h22 hk0
              go_wp2
              go_roundw
              case rel => exact ⟨p', j + 1, rfl, by go_num, hid (.inl ⟨R1'.out.1, by rw [B2.out, R1'.out.2, Nat.pow_succ, Nat.mul_assoc]⟩), B3, hid (by have := R3.out; have := H22.out; omega), by first | trivial | rfl⟩
              case measure => simp [intOf]; omega
          · obtain ⟨f, c1, c2, c3, c4, c5⟩ := top_r r k j p (by omega) R2.out R3.out (by
              rcases R1.out with h | h
              · refine .inl ⟨h.1, ?_⟩
                have := P1.out
                rw [h.1, Nat.zero_mul, Nat.add_zero] at this
                rw [this]
                exact h.2
              · exact .inr ⟨h.1, by rw [h.2.1]; exact P1.out⟩)
            have oo : FloatKind.f64.format.order p 4607182418800017408 = some .gt ∨ FloatKind.f64.format.order p 4607182418800017408 = some .eq := by
              have := R2.out
              by_cases h : p = 4607182418800017408
              · exact .inr (by rw [h]; exact oeq _ (by omega))
              · exact .inl (ogt _ _ (by omega) (by omega) (by omega))
            have hs := fun t w => run_float_arith (P := Tryd.prog) w .sub t .f64 p 4607182418800017408 _ c3
            have hm := fun t w => run_float_arith (P := Tryd.prog) w .mul t .f64 _ 4841369599423283200 _ c4
            have hc := fun w => run_convert_float_int (P := Tryd.prog) w 22 54 .f64 .u64 _ (f : Int) (by rw [Tryd.underlying22]; rfl) Tryd.underlying54 c5
            have hk0 : (0 : Int) ≤ (k : Int) := by omega
            have hj0 : (0 : Int) ≤ (j : Int) := by omega
            have C1 := hid c1
            have C2 := hid c2
            generalize F f 1022 = y at *
            generalize F f 1074 = y' at *
            clear c1 c2 c3 c4 c5 hlt
            rcases oo with oo | oo
            all_goals
              go_wp2
              go_ret
              exact ⟨by rw [← top_neg r k j f R3.out P3.out C1.out C2.out]; rfl, rfl⟩

/-- Both noughts, both infinities, NaN. -/
theorem spec_FloatBits_rest (x : Nat) (w : World) (hx : x = 0 ∨ x = 9223372036854775808 ∨ x = 9218868437227405312 ∨ x = 18442240474082181120) :
    Calls Tryd.prog 30 #[.float .f64 x] w fun e w' => e = .returned (.int .u64 (x : Int)) ∧ w' = w := by
  have d1 := fun t w => run_float_arith (P := Tryd.prog) w .quo t .f64 4607182418800017408 0 9218868437227405312 (by decide)
  have d2 := fun t w => run_float_arith (P := Tryd.prog) w .quo t .f64 4607182418800017408 9223372036854775808 18442240474082181120 (by decide)
  have o1 : FloatKind.f64.format.order 0 0 = some .eq := by decide
  have o2 : FloatKind.f64.format.order 9223372036854775808 0 = some .eq := by decide
  have o3 : FloatKind.f64.format.order 9218868437227405312 0 = some .gt := by decide
  have o4 : FloatKind.f64.format.order 18442240474082181120 0 = some .lt := by decide
  have o5 : FloatKind.f64.format.order 9223372036854775808 9223372036854775808 = some .eq := by decide
  have o6 : FloatKind.f64.format.order 9218868437227405312 9218868437227405312 = some .eq := by decide
  have o7 : FloatKind.f64.format.order 18442240474082181120 18442240474082181120 = some .eq := by decide
  have o8 : FloatKind.f64.format.order 9218868437227405312 9218868437227405311 = some .gt := by decide
  have n1 := neg_run 9223372036854775808 0 (by decide)
  have n2 := neg_run 18442240474082181120 9218868437227405312 (by decide)
  have b1 : bits .or .u64 0 9218868437227405312 = 9218868437227405312 := or_pos 9218868437227405312 (by omega)
  have b2 : bits .or .u64 9223372036854775808 9218868437227405312 = 18442240474082181120 := or_neg 9218868437227405312 (by omega)
  rcases hx with rfl | rfl | rfl | rfl
  all_goals
    go_enter Tryd.func30, Tryd.ntmps30
    go_wp2
    go_ret
    exact ⟨rfl, rfl⟩

theorem spec_FloatBits_nan (x : Nat) (hx : x < 18446744073709551616) (hn : isN x = true) (w : World) :
    Calls Tryd.prog 30 #[.float .f64 x] w fun e w' => e = .returned (.int .u64 9221120237041090560) ∧ w' = w := by
  have o := order_l x x hx hn
  clear hx hn
  go_enter Tryd.func30, Tryd.ntmps30
  go_wp2
  go_ret
  exact ⟨rfl, rfl⟩

theorem spec_FloatBits (x : Nat) (hx : x < 18446744073709551616) (w : World) :
    Calls Tryd.prog 30 #[.float .f64 x] w fun e w' => e = .returned (.int .u64 (fbits x : Int)) ∧ w' = w := by
  by_cases hn : isN x = true
  · rw [fbits, if_pos hn]
    exact spec_FloatBits_nan x hx hn w
  · have hn' : isN x = false := by simpa using hn
    rw [isN_not] at hn'
    rw [fbits, if_neg hn]
    by_cases h4 : x = 0 ∨ x = 9223372036854775808 ∨ x = 9218868437227405312 ∨ x = 18442240474082181120
    · exact spec_FloatBits_rest x w h4
    · by_cases hp : x < 9223372036854775808
      · exact spec_FloatBits_pos x (by omega) (by omega) w
      · obtain ⟨r, rfl⟩ : ∃ r, x = 9223372036854775808 + r := ⟨x - 9223372036854775808, by omega⟩
        exact spec_FloatBits_neg r (by omega) (by omega) w
end Go.Proofs.YtoppccfgcccijaaDoor
