/- The contract of the specification's FloatOf: the float with the bits, or some NaN where they are a NaN's; memory stays as it was. For every argument. -/
import Derived.Test.YtoppccfgcccijaaDoorFlq
namespace Go.Proofs.YtoppccfgcccijaaDoor
open Go.RowKit Ieee

/-- The fields of 64 bits. -/
structure Fields (b e f : Nat) (s : Bool) : Prop where
  he : e < 2048
  hf : f < 4503599627370496
  hb : b = (if s then 9223372036854775808 else 0) + (e * 4503599627370496 + f)
  a1 : bits .and .u64 ((b : Int) / 4503599627370496) 2047 = (e : Int)
  a2 : bits .and .u64 (b : Int) 4503599627370495 = (f : Int)
  a3 : ((b : Int) / 9223372036854775808 == 1) = s

theorem fields (b : Nat) (h : b < 18446744073709551616) : ∃ e f s, Fields b e f s := by
  refine ⟨b / 4503599627370496 % 2048, b % 4503599627370496, decide (9223372036854775808 ≤ b), by omega, by omega, ?_, ?_, ?_, ?_⟩
  · by_cases hs : 9223372036854775808 ≤ b
    · rw [decide_eq_true hs, if_pos rfl]; omega
    · rw [decide_eq_false hs, if_neg (by simp)]; omega
  · have := u64_and_nat (b / 4503599627370496) 2047 (by omega) (by omega)
    rw [show (2047 : Nat) = 2 ^ 11 - 1 from rfl, Nat.and_two_pow_sub_one_eq_mod] at this
    exact this
  · have := u64_and_nat b 4503599627370495 (by omega) (by omega)
    rw [show (4503599627370495 : Nat) = 2 ^ 52 - 1 from rfl, Nat.and_two_pow_sub_one_eq_mod] at this
    exact this
  · by_cases hs : 9223372036854775808 ≤ b
    · rw [decide_eq_true hs]
      exact beq_iff_eq.2 (by omega)
    · rw [decide_eq_false hs]
      exact beq_eq_false_iff_ne.2 (by omega)

theorem ofint_run (f : Nat) (hf : f < 4503599627370496) (w : World) : (convert 54 22 (.int .u64 (f : Int))).run Tryd.prog w = .ok (.float .f64 (F f 1074)) w := by
  rw [run_convert_int_float w 54 22 .u64 .f64 (f : Int) (by rw [Tryd.underlying54]; rfl) Tryd.underlying22, of_F f (by omega)]

set_option maxHeartbeats 1600000 in
theorem spec_FloatOf_nan (b f : Nat) (s : Bool) (H : Fields b 2047 f s) (h0 : f ≠ 0) (w : World) :
    Calls Tryd.prog 36 #[.int .u64 b] w fun e w' => ∃ y : Nat, e = .returned (.float .f64 y) ∧ isN y = true ∧ y < 18446744073709551616 ∧ Still w w' := by
  have a1 := H.a1
  have a2 := H.a2
  have hof := ofint_run f H.hf
  have hd := fun t w => run_float_arith (P := Tryd.prog) w .quo t .f64 _ 4841369599423283200 _ (cut_F f 1022 (by have := H.hf; omega) (by omega))
  obtain ⟨n, hn, n1, n2⟩ := nan_run .quo 22 0 0 (by simp) (by decide) w
  have hne : ((f : Int) != 0) = true := by simp [h0]
  generalize F f 1074 = y1 at *
  generalize F f 1022 = y2 at *
  clear H h0
  go_enter Tryd.func36, Tryd.ntmps36
  go_wp2
  go_ret
  exact ⟨n, rfl, n1, n2, Still.drew w⟩

set_option maxHeartbeats 1600000 in
theorem spec_FloatOf_inf (b : Nat) (s : Bool) (H : Fields b 2047 0 s) (w : World) :
    Calls Tryd.prog 36 #[.int .u64 b] w fun e w' => e = .returned (.float .f64 b) ∧ w' = w := by
  have a1 : bits .and .u64 ((b : Int) / 4503599627370496) 2047 = 2047 := H.a1
  have a2 : bits .and .u64 (b : Int) 4503599627370495 = 0 := H.a2
  have a3 := H.a3
  have hb := hid H.hb
  have hof : ∀ w, (convert 54 22 (.int .u64 0)).run Tryd.prog w = .ok (.float .f64 (F 0 1074)) w := ofint_run 0 (by omega)
  have hd := fun t w => run_float_arith (P := Tryd.prog) w .quo t .f64 _ 4841369599423283200 _ (cut_F 0 1022 (by omega) (by omega))
  have d1 := fun t w => run_float_arith (P := Tryd.prog) w .quo t .f64 4607182418800017408 0 9218868437227405312 (by decide)
  have n2 := neg_run 9218868437227405312 18442240474082181120 (by decide)
  generalize F 0 1074 = y1 at *
  generalize F 0 1022 = y2 at *
  clear H
  cases s
  · have hb' := hid (show b = 9218868437227405312 by have := hb.out; rw [if_neg (by simp)] at this; omega)
    clear hb
    go_enter Tryd.func36, Tryd.ntmps36
    go_wp2
    go_ret
    exact ⟨by rw [hb'.out]; rfl, rfl⟩
  · have hb' := hid (show b = 18442240474082181120 by have := hb.out; rw [if_pos rfl] at this; omega)
    clear hb
    go_enter Tryd.func36, Tryd.ntmps36
    go_wp2
    go_ret
    exact ⟨by rw [hb'.out]; rfl, rfl⟩

set_option maxRecDepth 100000 in
set_option maxHeartbeats 1600000 in
theorem spec_FloatOf_norm (b e f : Nat) (s : Bool) (H : Fields b e f s) (h0 : 1 ≤ e) (h1 : e ≤ 2046) (w : World) :
    Calls Tryd.prog 36 #[.int .u64 b] w fun e w' => e = .returned (.float .f64 b) ∧ w' = w := by
  have a1 := H.a1
  have a2 := H.a2
  have a3 := H.a3
  have hbp : Hid (s = false → b = e * 4503599627370496 + f) := fun h => by have := H.hb; rw [h, if_neg (by simp), Nat.zero_add] at this; exact this
  have hbn : Hid (s = true → b = 9223372036854775808 + (e * 4503599627370496 + f)) := fun h => by have := H.hb; rw [h, if_pos rfl] at this; exact this
  have hf := H.hf
  have hof := ofint_run f hf
  have hd := fun t w => run_float_arith (P := Tryd.prog) w .quo t .f64 _ 4841369599423283200 _ (cut_F f 1022 (by omega) (by omega))
  have hm := fun t w => run_float_arith (P := Tryd.prog) w .add t .f64 _ 4607182418800017408 _ (more_F f hf)
  have hne : ((e : Int) == 2047) = false := beq_eq_false_iff_ne.2 (by omega)
  have hne0 : ((e : Int) == 0) = false := beq_eq_false_iff_ne.2 (by omega)
  have E0 : (1 : Int) ≤ e := by omega
  have E1 : (e : Int) ≤ 2046 := by omega
  have Hfin : Hid (F (2 ^ 52 + f) (e - 1) = e * 4503599627370496 + f) := by
    have := F_norm (e - 1) f hf (by omega)
    rw [show (e - 1 + 1) * 2 ^ 52 + f = e * 4503599627370496 + f by omega] at this
    exact this
  have Hc : Hid (2 ^ 52 + f < 2 ^ 53) := hid (by omega)
  have He := hid (show e - 1 + 1 = e by omega)
  have HF := hid hf
  have H1 := hid h1
  generalize F f 1074 = y1 at *
  generalize F f 1022 = y2 at *
  generalize 2 ^ 52 + f = c at *
  generalize e - 1 = T at *
  clear H h0 h1 hf
  go_enter Tryd.func36, Tryd.ntmps36
  go_wp2
  clear hof hd hm hne hne0
  go_loopw [6, 7] (fun a k wr => ∃ j : Nat, a = .float .f64 (F c j) ∧ k = .int .i64 ((T : Int) - j) ∧ Hid (1022 ≤ j) ∧ Hid (j ≤ 2045) ∧ wr = w) (fun _ k _ => (intOf k).toNat)
  case atStart => exact ⟨1022, rfl, by have := He.out; go_num, hid (by omega), hid (by omega), rfl⟩
  case round =>
    obtain ⟨j, rfl, rfl, P1, P2, rfl⟩ := hrel
    have hT : (T : Int) ≤ 2045 := by have := He.out; have := H1.out; omega
    have hT0 : (0 : Int) ≤ T := by omega
    have hj0 : (0 : Int) ≤ j := by omega
    have hj1 : (j : Int) ≤ 2045 := by have := P2.out; omega
    by_cases hlt : (0 : Int) < (T : Int) - j
    · have hx := fun t w => run_float_arith (P := Tryd.prog) w .mul t .f64 _ 4611686018427387904 _ (double_F c j Hc.out (by omega))
      go_wp2
      go_roundw
      case rel => exact ⟨j + 1, rfl, by go_num, hid (by have := P1.out; omega), hid (by omega), by first | trivial | rfl⟩
      case measure => simp [intOf]; omega
    · have Q0 := hid (show T ≤ j by omega)
      go_wp2
      go_loopw [6, 7] (fun a k wr' => ∃ i : Nat, a = .float .f64 (F c i) ∧ k = .int .i64 ((T : Int) - i) ∧ Hid (T ≤ i) ∧ Hid (i ≤ 2045) ∧ wr' = wr) (fun _ k _ => (-(intOf k)).toNat)
      case atStart => exact ⟨j, rfl, rfl, Q0, P2, rfl⟩
      case round =>
        obtain ⟨i, rfl, rfl, R1, R2, rfl⟩ := hrel
        have hi0 : (0 : Int) ≤ i := by omega
        have hi1 : (i : Int) ≤ 2045 := by have := R2.out; omega
        by_cases hlt2 : (T : Int) - i < 0
        · obtain ⟨i', hi'⟩ : ∃ i', i = i' + 1 := ⟨i - 1, by omega⟩
          have Hi := hid hi'
          have hx := fun t w => run_float_arith (P := Tryd.prog) w .quo t .f64 (F c i) 4611686018427387904 (F c i') (by rw [hi']; exact half_F c i' Hc.out (by omega))
          clear hi'
          go_wp2
          go_roundw
          case rel => exact ⟨i', rfl, by have := Hi.out; go_num, hid (by have := Hi.out; omega), hid (by have := Hi.out; omega), by first | trivial | rfl⟩
          case measure => have := Hi.out; simp [intOf]; omega
        · have ei := hid (show i = T by have := R1.out; omega)
          have hn := neg_run (F c i) (9223372036854775808 + F c i) (neg_bits' _ (by rw [ei.out, Hfin.out]; have := HF.out; have := He.out; have := H1.out; omega))
          cases s
          · go_wp2
            go_ret
            exact ⟨by rw [show b = F c i by rw [ei.out, Hfin.out, hbp.out (by first | trivial | rfl)]]; rfl, rfl⟩
          · go_wp2
            go_ret
            exact ⟨by rw [show b = 9223372036854775808 + F c i by rw [ei.out, Hfin.out, hbn.out (by first | trivial | rfl)]]; rfl, rfl⟩
set_option maxRecDepth 100000 in
set_option maxHeartbeats 1600000 in
theorem spec_FloatOf_low (b f : Nat) (s : Bool) (H : Fields b 0 f s) (w : World) :
    Calls Tryd.prog 36 #[.int .u64 b] w fun e w' => e = .returned (.float .f64 b) ∧ w' = w := by
  have a1 : bits .and .u64 ((b : Int) / 4503599627370496) 2047 = 0 := H.a1
  have a2 := H.a2
  have a3 := H.a3
  have hbp : Hid (s = false → b = f) := fun h => by have := H.hb; rw [h, if_neg (by simp)] at this; omega
  have hbn : Hid (s = true → b = 9223372036854775808 + f) := fun h => by have := H.hb; rw [h, if_pos rfl] at this; omega
  have hf := H.hf
  have hof := ofint_run f hf
  have hd := fun t w => run_float_arith (P := Tryd.prog) w .quo t .f64 _ 4841369599423283200 _ (cut_F f 1022 (by omega) (by omega))
  have Hfin : Hid (F f 0 = f) := F_sub f hf
  have Hc : Hid (f < 2 ^ 53) := hid (by omega)
  have HF := hid hf
  obtain ⟨T, HT⟩ : ∃ T : Nat, Hid (T = 0) := ⟨0, rfl⟩
  generalize F f 1074 = y1 at *
  clear H hf
  go_enter Tryd.func36, Tryd.ntmps36
  go_wp2
  clear hof hd
  go_loopw [6, 7] (fun a k wr => ∃ j : Nat, a = .float .f64 (F f j) ∧ k = .int .i64 ((T : Int) - j) ∧ Hid (1022 ≤ j) ∧ Hid (j ≤ 2045) ∧ wr = w) (fun _ k _ => (intOf k).toNat)
  case atStart => exact ⟨1022, rfl, by have := HT.out; go_num, hid (by omega), hid (by omega), rfl⟩
  case round =>
    obtain ⟨j, rfl, rfl, P1, P2, rfl⟩ := hrel
    have hT : (T : Int) ≤ 2045 := by have := HT.out; omega
    have hT0 : (0 : Int) ≤ T := by omega
    have hj0 : (0 : Int) ≤ j := by omega
    have hj1 : (j : Int) ≤ 2045 := by have := P2.out; omega
    by_cases hlt : (0 : Int) < (T : Int) - j
    · have hx := fun t w => run_float_arith (P := Tryd.prog) w .mul t .f64 _ 4611686018427387904 _ (double_F f j Hc.out (by omega))
      go_wp2
      go_roundw
      case rel => exact ⟨j + 1, rfl, by go_num, hid (by have := P1.out; omega), hid (by omega), by first | trivial | rfl⟩
      case measure => simp [intOf]; omega
    · have Q0 := hid (show T ≤ j by omega)
      go_wp2
      go_loopw [6, 7] (fun a k wr' => ∃ i : Nat, a = .float .f64 (F f i) ∧ k = .int .i64 ((T : Int) - i) ∧ Hid (T ≤ i) ∧ Hid (i ≤ 2045) ∧ wr' = wr) (fun _ k _ => (-(intOf k)).toNat)
      case atStart => exact ⟨j, rfl, rfl, Q0, P2, rfl⟩
      case round =>
        obtain ⟨i, rfl, rfl, R1, R2, rfl⟩ := hrel
        have hi0 : (0 : Int) ≤ i := by omega
        have hi1 : (i : Int) ≤ 2045 := by have := R2.out; omega
        by_cases hlt2 : (T : Int) - i < 0
        · obtain ⟨i', hi'⟩ : ∃ i', i = i' + 1 := ⟨i - 1, by omega⟩
          have Hi := hid hi'
          have hx := fun t w => run_float_arith (P := Tryd.prog) w .quo t .f64 (F f i) 4611686018427387904 (F f i') (by rw [hi']; exact half_F f i' Hc.out (by omega))
          clear hi'
          go_wp2
          go_roundw
          case rel => exact ⟨i', rfl, by have := Hi.out; go_num, hid (by have := Hi.out; omega), hid (by have := Hi.out; omega), by first | trivial | rfl⟩
          case measure => have := Hi.out; simp [intOf]; omega
        · have ei := hid (show i = T by have := R1.out; omega)
          have hn := neg_run (F f i) (9223372036854775808 + F f i) (neg_bits' _ (by rw [ei.out, HT.out, Hfin.out]; have := HF.out; omega))
          cases s
          · go_wp2
            go_ret
            exact ⟨by rw [show b = F f i by rw [ei.out, HT.out, Hfin.out, hbp.out (by first | trivial | rfl)]]; rfl, rfl⟩
          · go_wp2
            go_ret
            exact ⟨by rw [show b = 9223372036854775808 + F f i by rw [ei.out, HT.out, Hfin.out, hbn.out (by first | trivial | rfl)]]; rfl, rfl⟩

theorem spec_FloatOf (b : Nat) (hb : b < 18446744073709551616) (w : World) :
    Calls Tryd.prog 36 #[.int .u64 b] w fun e w' => ∃ y : Nat, e = .returned (.float .f64 y) ∧ y < 18446744073709551616 ∧ Hid (isN b = false → y = b) ∧ Hid (isN b = isN y) ∧ Still w w' := by
  obtain ⟨e, f, s, H⟩ := fields b hb
  have h1 := H.he
  have h2 := H.hf
  have h3 := H.hb
  have hm : b % 9223372036854775808 = e * 4503599627370496 + f := by
    cases s
    · rw [if_neg (by simp)] at h3; omega
    · rw [if_pos rfl] at h3; omega
  have keep : ∀ w', w' = w → Still w w' := fun w' h => by subst h; exact Still.refl _
  by_cases he : e = 2047
  · subst he
    by_cases hf : f = 0
    · subst hf
      refine (spec_FloatOf_inf b s H w).mono ?_
      rintro x w1 ⟨rfl, e1⟩
      exact ⟨b, rfl, hb, hid (fun _ => rfl), hid rfl, keep w1 e1⟩
    · refine (spec_FloatOf_nan b f s H hf w).mono ?_
      rintro x w1 ⟨y, rfl, n1, n2, st⟩
      have hN : isN b = true := (isN_iff b).2 (by omega)
      exact ⟨y, rfl, n2, hid (fun h => by rw [hN] at h; cases h), hid (by rw [hN, n1]), st⟩
  · by_cases h0 : e = 0
    · subst h0
      refine (spec_FloatOf_low b f s H w).mono ?_
      rintro x w1 ⟨rfl, e1⟩
      exact ⟨b, rfl, hb, hid (fun _ => rfl), hid rfl, keep w1 e1⟩
    · refine (spec_FloatOf_norm b e f s H (by omega) (by omega) w).mono ?_
      rintro x w1 ⟨rfl, e1⟩
      exact ⟨b, rfl, hb, hid (fun _ => rfl), hid rfl, keep w1 e1⟩
end Go.Proofs.YtoppccfgcccijaaDoor
