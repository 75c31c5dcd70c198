/- Texts of this proof in one: Flf Fsa Fll It1 It2 It3 It4 It5 It6 It7 It8 It9 Kdr Ph Ar Ic Id Ct Cli Gh Cr Cf Im1 Im2 Sb St Oc Ix Ir Imr Sr0 Krp Num Val Tp Nr Tb To Put Tby Tpb Tr. -/
import Derived.Test.YtkfhfjghfadofaaGreatMga
import Derived.Laws.Tables
import Derived.Laws.AppendOwnNone
import Derived.Deep.RegionHeld3
import Derived.WalkLawsBesides
import Derived.Laws.BytesArg
import Derived.Laws.Cover1
/- The contract of the specification's FloatOf: the float with the bits, or some NaN where they are a NaN's; memory stays as it was. For every argument. -/

namespace Go.Proofs.YtkfhfjghfadofaaGreat
open Go.RowKit Ieee
structure Fields (b e f : Nat) (s : Bool) : Prop where
 he : e < 2048
 hf : f < 4503599627370496
 hb : b = (if s then 9223372036854775808 else 0) + (e * 4503599627370496 + f)
 a1 : bits .and .u64 ((b : Int) / 4503599627370496) 2047 = (e : Int)
 a2 : bits .and .u64 (b : Int) 4503599627370495 = (f : Int)
 a3 : ((b : Int) / 9223372036854775808 == 1) = s
theorem fields (b : Nat) (h : b < 18446744073709551616) : ∃ e f s, Fields b e f s := by
 refine ⟨b / 4503599627370496 % 2048, b % 4503599627370496, decide (9223372036854775808 ≤ b), by omega, by omega, ?_, ?_, ?_, ?_⟩
 · by_cases hs : 9223372036854775808 ≤ b
   · rw [decide_eq_true hs, if_pos rfl]; omega
   · rw [decide_eq_false hs, if_neg (by simp)]; omega
 · have := u64_and_nat (b / 4503599627370496) 2047 (by omega) (by omega)
   rw [show (2047 : Nat) = 2 ^ 11 - 1 from rfl, Nat.and_two_pow_sub_one_eq_mod] at this
   exact this
 · have := u64_and_nat b 4503599627370495 (by omega) (by omega)
   rw [show (4503599627370495 : Nat) = 2 ^ 52 - 1 from rfl, Nat.and_two_pow_sub_one_eq_mod] at this
   exact this
 · by_cases hs : 9223372036854775808 ≤ b
   · rw [decide_eq_true hs]
     exact beq_iff_eq.2 (by omega)
   · rw [decide_eq_false hs]
     exact beq_eq_false_iff_ne.2 (by omega)
theorem ofint_run (f : Nat) (hf : f < 4503599627370496) (w : World) : (convert 100 27 (.int .u64 (f : Int))).run Tryz.prog w = .ok (.float .f64 (F f 1074)) w := by
 rw [run_convert_int_float w 100 27 .u64 .f64 (f : Int) (by rw [Tryz.underlying100]; rfl) Tryz.underlying27, of_F f (by omega)]
set_option maxHeartbeats 1600000 in
theorem spec_FloatOf_nan (b f : Nat) (s : Bool) (H : Fields b 2047 f s) (h0 : f ≠ 0) (w : World) :
 Calls Tryz.prog 138 #[.int .u64 b] w fun e w' => ∃ y : Nat, e = .returned (.float .f64 y) ∧ isN y = true ∧ y < 18446744073709551616 ∧ Still w w' := by
 have a1 := H.a1
 have a2 := H.a2
 have hof := ofint_run f H.hf
 have hd := fun t w => run_float_arith (P := Tryz.prog) w .quo t .f64 _ 4841369599423283200 _ (cut_F f 1022 (by have := H.hf; omega) (by omega))
 obtain ⟨n, hn, n1, n2⟩ := nan_run .quo 27 0 0 (by simp) (by decide) w
 have hne : ((f : Int) != 0) = true := by simp [h0]
 generalize F f 1074 = y1 at *
 generalize F f 1022 = y2 at *
 clear H h0
 go_enter Tryz.func138, Tryz.ntmps138
 go_wp2
 go_ret
 exact ⟨n, rfl, n1, n2, Still.drew w⟩
set_option maxHeartbeats 1600000 in
theorem spec_FloatOf_inf (b : Nat) (s : Bool) (H : Fields b 2047 0 s) (w : World) :
 Calls Tryz.prog 138 #[.int .u64 b] w fun e w' => e = .returned (.float .f64 b) ∧ w' = w := by
 have a1 : bits .and .u64 ((b : Int) / 4503599627370496) 2047 = 2047 := H.a1
 have a2 : bits .and .u64 (b : Int) 4503599627370495 = 0 := H.a2
 have a3 := H.a3
 have hb := hid H.hb
 have hof : ∀ w, (convert 100 27 (.int .u64 0)).run Tryz.prog w = .ok (.float .f64 (F 0 1074)) w := ofint_run 0 (by omega)
 have hd := fun t w => run_float_arith (P := Tryz.prog) w .quo t .f64 _ 4841369599423283200 _ (cut_F 0 1022 (by omega) (by omega))
 have d1 := fun t w => run_float_arith (P := Tryz.prog) w .quo t .f64 4607182418800017408 0 9218868437227405312 (by decide)
 have n2 := neg_run 9218868437227405312 18442240474082181120 (by decide)
 generalize F 0 1074 = y1 at *
 generalize F 0 1022 = y2 at *
 clear H
 cases s
 · have hb' := hid (show b = 9218868437227405312 by have := hb.out; rw [if_neg (by simp)] at this; omega)
   clear hb
   go_enter Tryz.func138, Tryz.ntmps138
   go_wp2
   go_ret
   exact ⟨by rw [hb'.out]; rfl, rfl⟩
 · have hb' := hid (show b = 18442240474082181120 by have := hb.out; rw [if_pos rfl] at this; omega)
   clear hb
   go_enter Tryz.func138, Tryz.ntmps138
   go_wp2
   go_ret
   exact ⟨by rw [hb'.out]; rfl, rfl⟩
set_option maxRecDepth 100000 in
set_option maxHeartbeats 1600000 in
theorem spec_FloatOf_norm (b e f : Nat) (s : Bool) (H : Fields b e f s) (h0 : 1 ≤ e) (h1 : e ≤ 2046) (w : World) :
 Calls Tryz.prog 138 #[.int .u64 b] w fun e w' => e = .returned (.float .f64 b) ∧ w' = w := by
 have a1 := H.a1
 have a2 := H.a2
 have a3 := H.a3
 have hbp : Hid (s = false → b = e * 4503599627370496 + f) := fun h => by have := H.hb; rw [h, if_neg (by simp), Nat.zero_add] at this; exact this
 have hbn : Hid (s = true → b = 9223372036854775808 + (e * 4503599627370496 + f)) := fun h => by have := H.hb; rw [h, if_pos rfl] at this; exact this
 have hf := H.hf
 have hof := ofint_run f hf
 have hd := fun t w => run_float_arith (P := Tryz.prog) w .quo t .f64 _ 4841369599423283200 _ (cut_F f 1022 (by omega) (by omega))
 have hm := fun t w => run_float_arith (P := Tryz.prog) w .add t .f64 _ 4607182418800017408 _ (more_F f hf)
 have hne : ((e : Int) == 2047) = false := beq_eq_false_iff_ne.2 (by omega)
 have hne0 : ((e : Int) == 0) = false := beq_eq_false_iff_ne.2 (by omega)
 have E0 : (1 : Int) ≤ e := by omega
 have E1 : (e : Int) ≤ 2046 := by omega
 have Hfin : Hid (F (2 ^ 52 + f) (e - 1) = e * 4503599627370496 + f) := by
  have := F_norm (e - 1) f hf (by omega)
  rw [show (e - 1 + 1) * 2 ^ 52 + f = e * 4503599627370496 + f by omega] at this
  exact this
 have Hc : Hid (2 ^ 52 + f < 2 ^ 53) := hid (by omega)
 have He := hid (show e - 1 + 1 = e by omega)
 have HF := hid hf
 have H1 := hid h1
 generalize F f 1074 = y1 at *
 generalize F f 1022 = y2 at *
 generalize 2 ^ 52 + f = c at *
 generalize e - 1 = T at *
 clear H h0 h1 hf
 go_enter Tryz.func138, Tryz.ntmps138
 go_wp2
 clear hof hd hm hne hne0
 go_loopw [6, 7] (fun a k wr => ∃ j : Nat, a = .float .f64 (F c j) ∧ k = .int .i64 ((T : Int) - j) ∧ Hid (1022 ≤ j) ∧ Hid (j ≤ 2045) ∧ wr = w) (fun _ k _ => (intOf k).toNat)
 case atStart => exact ⟨1022, rfl, by have := He.out; go_num, hid (by omega), hid (by omega), rfl⟩
 case round =>
  obtain ⟨j, rfl, rfl, P1, P2, rfl⟩ := hrel
  have hT : (T : Int) ≤ 2045 := by have := He.out; have := H1.out; omega
  have hT0 : (0 : Int) ≤ T := by omega
  have hj0 : (0 : Int) ≤ j := by omega
  have hj1 : (j : Int) ≤ 2045 := by have := P2.out; omega
  by_cases hlt : (0 : Int) < (T : Int) - j
  · have hx := fun t w => run_float_arith (P := Tryz.prog) w .mul t .f64 _ 4611686018427387904 _ (double_F c j Hc.out (by omega))
    go_wp2
    go_roundw
    case rel => exact ⟨j + 1, rfl, by go_num, hid (by have := P1.out; omega), hid (by omega), by first | trivial | rfl⟩
    case measure => simp [intOf]; omega
  · have Q0 := hid (show T ≤ j by omega)
    go_wp2
    go_loopw [6, 7] (fun a k wr' => ∃ i : Nat, a = .float .f64 (F c i) ∧ k = .int .i64 ((T : Int) - i) ∧ Hid (T ≤ i) ∧ Hid (i ≤ 2045) ∧ wr' = wr) (fun _ k _ => (-(intOf k)).toNat)
    case atStart => exact ⟨j, rfl, rfl, Q0, P2, rfl⟩
    case round =>
     obtain ⟨i, rfl, rfl, R1, R2, rfl⟩ := hrel
     have hi0 : (0 : Int) ≤ i := by omega
     have hi1 : (i : Int) ≤ 2045 := by have := R2.out; omega
     by_cases hlt2 : (T : Int) - i < 0
     · obtain ⟨i', hi'⟩ : ∃ i', i = i' + 1 := ⟨i - 1, by omega⟩
       have Hi := hid hi'
       have hx := fun t w => run_float_arith (P := Tryz.prog) w .quo t .f64 (F c i) 4611686018427387904 (F c i') (by rw [hi']; exact half_F c i' Hc.out (by omega))
       clear hi'
       go_wp2
       go_roundw
       case rel => exact ⟨i', rfl, by have := Hi.out; go_num, hid (by have := Hi.out; omega), hid (by have := Hi.out; omega), by first | trivial | rfl⟩
       case measure => have := Hi.out; simp [intOf]; omega
     · have ei := hid (show i = T by have := R1.out; omega)
       have hn := neg_run (F c i) (9223372036854775808 + F c i) (neg_bits' _ (by rw [ei.out, Hfin.out]; have := HF.out; have := He.out; have := H1.out; omega))
       cases s
       · go_wp2
         go_ret
         exact ⟨by rw [show b = F c i by rw [ei.out, Hfin.out, hbp.out (by first | trivial | rfl)]]; rfl, rfl⟩
       · go_wp2
         go_ret
         exact ⟨by rw [show b = 9223372036854775808 + F c i by rw [ei.out, Hfin.out, hbn.out (by first | trivial | rfl)]]; rfl, rfl⟩
set_option maxRecDepth 100000 in
set_option maxHeartbeats 1600000 in
theorem spec_FloatOf_low (b f : Nat) (s : Bool) (H : Fields b 0 f s) (w : World) :
 Calls Tryz.prog 138 #[.int .u64 b] w fun e w' => e = .returned (.float .f64 b) ∧ w' = w := by
 have a1 : bits .and .u64 ((b : Int) / 4503599627370496) 2047 = 0 := H.a1
 have a2 := H.a2
 have a3 := H.a3
 have hbp : Hid (s = false → b = f) := fun h => by have := H.hb; rw [h, if_neg (by simp)] at this; omega
 have hbn : Hid (s = true → b = 9223372036854775808 + f) := fun h => by have := H.hb; rw [h, if_pos rfl] at this; omega
 have hf := H.hf
 have hof := ofint_run f hf
 have hd := fun t w => run_float_arith (P := Tryz.prog) w .quo t .f64 _ 4841369599423283200 _ (cut_F f 1022 (by omega) (by omega))
 have Hfin : Hid (F f 0 = f) := F_sub f hf
 have Hc : Hid (f < 2 ^ 53) := hid (by omega)
 have HF := hid hf
 obtain ⟨T, HT⟩ : ∃ T : Nat, Hid (T = 0) := ⟨0, rfl⟩
 generalize F f 1074 = y1 at *
 clear H hf
 go_enter Tryz.func138, Tryz.ntmps138
 go_wp2
 clear hof hd
 go_loopw [6, 7] (fun a k wr => ∃ j : Nat, a = .float .f64 (F f j) ∧ k = .int .i64 ((T : Int) - j) ∧ Hid (1022 ≤ j) ∧ Hid (j ≤ 2045) ∧ wr = w) (fun _ k _ => (intOf k).toNat)
 case atStart => exact ⟨1022, rfl, by have := HT.out; go_num, hid (by omega), hid (by omega), rfl⟩
 case round =>
  obtain ⟨j, rfl, rfl, P1, P2, rfl⟩ := hrel
  have hT : (T : Int) ≤ 2045 := by have := HT.out; omega
  have hT0 : (0 : Int) ≤ T := by omega
  have hj0 : (0 : Int) ≤ j := by omega
  have hj1 : (j : Int) ≤ 2045 := by have := P2.out; omega
  by_cases hlt : (0 : Int) < (T : Int) - j
  · have hx := fun t w => run_float_arith (P := Tryz.prog) w .mul t .f64 _ 4611686018427387904 _ (double_F f j Hc.out (by omega))
    go_wp2
    go_roundw
    case rel => exact ⟨j + 1, rfl, by go_num, hid (by have := P1.out; omega), hid (by omega), by first | trivial | rfl⟩
    case measure => simp [intOf]; omega
  · have Q0 := hid (show T ≤ j by omega)
    go_wp2
    go_loopw [6, 7] (fun a k wr' => ∃ i : Nat, a = .float .f64 (F f i) ∧ k = .int .i64 ((T : Int) - i) ∧ Hid (T ≤ i) ∧ Hid (i ≤ 2045) ∧ wr' = wr) (fun _ k _ => (-(intOf k)).toNat)
    case atStart => exact ⟨j, rfl, rfl, Q0, P2, rfl⟩
    case round =>
     obtain ⟨i, rfl, rfl, R1, R2, rfl⟩ := hrel
     have hi0 : (0 : Int) ≤ i := by omega
     have hi1 : (i : Int) ≤ 2045 := by have := R2.out; omega
     by_cases hlt2 : (T : Int) - i < 0
     · obtain ⟨i', hi'⟩ : ∃ i', i = i' + 1 := ⟨i - 1, by omega⟩
       have Hi := hid hi'
       have hx := fun t w => run_float_arith (P := Tryz.prog) w .quo t .f64 (F f i) 4611686018427387904 (F f i') (by rw [hi']; exact half_F f i' Hc.out (by omega))
       clear hi'
       go_wp2
       go_roundw
       case rel => exact ⟨i', rfl, by have := Hi.out; go_num, hid (by have := Hi.out; omega), hid (by have := Hi.out; omega), by first | trivial | rfl⟩
       case measure => have := Hi.out; simp [intOf]; omega
     · have ei := hid (show i = T by have := R1.out; omega)
       have hn := neg_run (F f i) (9223372036854775808 + F f i) (neg_bits' _ (by rw [ei.out, HT.out, Hfin.out]; have := HF.out; omega))
       cases s
       · go_wp2
         go_ret
         exact ⟨by rw [show b = F f i by rw [ei.out, HT.out, Hfin.out, hbp.out (by first | trivial | rfl)]]; rfl, rfl⟩
       · go_wp2
         go_ret
         exact ⟨by rw [show b = 9223372036854775808 + F f i by rw [ei.out, HT.out, Hfin.out, hbn.out (by first | trivial | rfl)]]; rfl, rfl⟩
theorem spec_FloatOf (b : Nat) (hb : b < 18446744073709551616) (w : World) :
 Calls Tryz.prog 138 #[.int .u64 b] w fun e w' => ∃ y : Nat, e = .returned (.float .f64 y) ∧ y < 18446744073709551616 ∧ Hid (isN b = false → y = b) ∧ Hid (isN b = isN y) ∧ Still w w' := by
 obtain ⟨e, f, s, H⟩ := fields b hb
 have h1 := H.he
 have h2 := H.hf
 have h3 := H.hb
 have hm : b % 9223372036854775808 = e * 4503599627370496 + f := by
  cases s
  · rw [if_neg (by simp)] at h3; omega
  · rw [if_pos rfl] at h3; omega
 have keep : ∀ w', w' = w → Still w w' := fun w' h => by subst h; exact Still.refl _
 by_cases he : e = 2047
 · subst he
   by_cases hf : f = 0
   · subst hf
     refine (spec_FloatOf_inf b s H w).mono ?_
     rintro x w1 ⟨rfl, e1⟩
     exact ⟨b, rfl, hb, hid (fun _ => rfl), hid rfl, keep w1 e1⟩
   · refine (spec_FloatOf_nan b f s H hf w).mono ?_
     rintro x w1 ⟨y, rfl, n1, n2, st⟩
     have hN : isN b = true := (isN_iff b).2 (by omega)
     exact ⟨y, rfl, n2, hid (fun h => by rw [hN] at h; cases h), hid (by rw [hN, n1]), st⟩
 · by_cases h0 : e = 0
   · subst h0
     refine (spec_FloatOf_low b f s H w).mono ?_
     rintro x w1 ⟨rfl, e1⟩
     exact ⟨b, rfl, hb, hid (fun _ => rfl), hid rfl, keep w1 e1⟩
   · refine (spec_FloatOf_norm b e f s H (by omega) (by omega) w).mono ?_
     rintro x w1 ⟨rfl, e1⟩
     exact ⟨b, rfl, hb, hid (fun _ => rfl), hid rfl, keep w1 e1⟩
end Go.Proofs.YtkfhfjghfadofaaGreat
/- One float, all NaNs being one. No statement of its own; no conditions. -/

namespace Go.Proofs.YtkfhfjghfadofaaGreat
def Same (x y : Nat) : Prop := (isN x = true ∧ isN y = true) ∨ (isN x = false ∧ y = x)
theorem Same.refl (x : Nat) : Same x x := by
 by_cases h : isN x = true
 · exact .inl ⟨h, h⟩
 · exact .inr ⟨by simpa using h, rfl⟩
theorem Same.symm {x y : Nat} (h : Same x y) : Same y x := by
 rcases h with ⟨a, b⟩ | ⟨a, rfl⟩
 · exact .inl ⟨b, a⟩
 · exact .inr ⟨a, rfl⟩
theorem Same.trans {x y z : Nat} (h : Same x y) (k : Same y z) : Same x z := by
 rcases h with ⟨a, b⟩ | ⟨a, rfl⟩
 · rcases k with ⟨c, d⟩ | ⟨c, rfl⟩
   · exact .inl ⟨a, d⟩
   · rw [b] at c; cases c
 · exact k
end Go.Proofs.YtkfhfjghfadofaaGreat
/- The contracts of the specification's FloatRank, FloatUnrank and FloatCompare and of the laws' sameFloat; the laws of chapter 2 on FloatBits, FloatOf, FloatRank, FloatUnrank, FloatCompare. For every argument. -/


namespace Go.Proofs.YtkfhfjghfadofaaGreat
open Go.RowKit Ieee
theorem sameFloat_walk (x y : Nat) (hx : x < 18446744073709551616) (hy : y < 18446744073709551616) (hs : Same x y) (w : World) :
 Calls Tryz.prog 131 #[.float .f64 x, .float .f64 y] w fun e w' => e = .returned (.bool true) ∧ w' = w := by
 rcases hs with ⟨n1, n2⟩ | ⟨n1, rfl⟩
 · have o1 := order_l x x hx n1
   have o2 := order_l y y hy n2
   clear hx hy n1 n2
   go_enter Tryz.func131, Tryz.ntmps131
   go_wp2
   go_ret
   exact ⟨rfl, rfl⟩
 · have o1 := order_eq y y hx hx n1 n1 rfl
   by_cases h0 : y % 9223372036854775808 = 0
   · have h2 : y = 0 ∨ y = 9223372036854775808 := by omega
     clear hx hy n1 h0
     have d1 := fun t w => run_float_arith (P := Tryz.prog) w .quo t .f64 4607182418800017408 0 9218868437227405312 (by decide)
     have d2 := fun t w => run_float_arith (P := Tryz.prog) w .quo t .f64 4607182418800017408 9223372036854775808 18442240474082181120 (by decide)
     have o3 : FloatKind.f64.format.order 9218868437227405312 0 = some .gt := by decide
     have o4 : FloatKind.f64.format.order 18442240474082181120 0 = some .lt := by decide
     have o5 : FloatKind.f64.format.order 9223372036854775808 0 = some .eq := by decide
     rcases h2 with rfl | rfl
     all_goals
      go_enter Tryz.func131, Tryz.ntmps131
      go_wp2
      go_ret
      exact ⟨rfl, rfl⟩
   · have hm := (isN_not y).1 n1
     have o2 : FloatKind.f64.format.order y 0 = some .lt ∨ FloatKind.f64.format.order y 0 = some .gt := by
      by_cases hp : y < 9223372036854775808
      · exact .inr (order_gt y 0 hx (by omega) n1 isN_zero (by rw [kx_zero, kx, if_pos hp]; omega))
      · exact .inl (order_lt y 0 hx (by omega) n1 isN_zero (by rw [kx_zero, kx, if_neg hp]; omega))
     clear hx hy n1 h0 hm
     rcases o2 with o2 | o2
     all_goals
      go_enter Tryz.func131, Tryz.ntmps131
      go_wp2
      go_ret
      exact ⟨rfl, rfl⟩
theorem or_top (x : Nat) (h : x < 9223372036854775808) : bits .or .u64 (x : Int) 9223372036854775808 = ((x + 9223372036854775808 : Nat) : Int) := by
 have := u64_or_nat x 9223372036854775808 (by omega) (by omega)
 rw [Nat.or_comm, nat_join 63 _ _ (by decide) (by omega), Nat.add_comm] at this
 exact this
theorem spec_FloatRank (x : Nat) (hx : x < 18446744073709551616) (w : World) :
 Calls Tryz.prog 125 #[.float .f64 x] w fun e w' => e = .returned (.int .u64 (frank x)) ∧ w' = w := by
 by_cases hn : isN x = true
 · have ef : frank x = 18446744073709551615 := by rw [frank, if_pos hn]
   have eb : fbits x = 9221120237041090560 := by rw [fbits, if_pos hn]
   go_enter Tryz.func125, Tryz.ntmps125
   go_wp2_with fail
   refine (spec_FloatBits x hx w).mono ?_
   rintro e w1 ⟨rfl, rfl⟩
   rw [eb]
   go_wp2_with fail
   go_ret
   exact ⟨by rw [ef]; rfl, rfl⟩
 · have hn' : isN x = false := by simpa using hn
   have hm := (isN_not x).1 hn'
   have eb : fbits x = x := by rw [fbits, if_neg hn]
   have hne : ((x : Int) == 9221120237041090560) = false := beq_eq_false_iff_ne.2 (by omega)
   by_cases h0 : x % 9223372036854775808 = 0
   · have ef : frank x = 9223372036854775808 := by rw [frank, if_neg hn, if_pos h0]
     have o := order_eq x 0 hx (by omega) hn' isN_zero (by rw [kx_zero, kx]; split <;> omega)
     clear hm h0 hn hn'
     go_enter Tryz.func125, Tryz.ntmps125
     go_wp2_with fail
     refine (spec_FloatBits x hx w).mono ?_
     rintro e w1 ⟨rfl, rfl⟩
     rw [eb]
     go_wp2_with fail
     go_ret
     exact ⟨by rw [ef]; rfl, rfl⟩
   · by_cases hs : x < 9223372036854775808
     · have ef := hid (show frank x = x + 9223372036854775808 by rw [frank, if_neg hn, if_neg h0, if_pos hs])
       have o := order_gt x 0 hx (by omega) hn' isN_zero (by rw [kx_zero, kx]; split <;> omega)
       have ht : ((x : Int) / 9223372036854775808 == 1) = false := beq_eq_false_iff_ne.2 (by omega)
       have hor := or_top x hs
       clear hm h0 hn hn' hs
       go_enter Tryz.func125, Tryz.ntmps125
       go_wp2_with fail
       refine (spec_FloatBits x hx w).mono ?_
       rintro e w1 ⟨rfl, rfl⟩
       rw [eb]
       go_wp2_with fail
       go_ret
       exact ⟨by rw [ef.out]; rfl, rfl⟩
     · have ef := hid (show frank x = 18446744073709551615 - x by rw [frank, if_neg hn, if_neg h0, if_neg hs])
       have o := order_lt x 0 hx (by omega) hn' isN_zero (by rw [kx_zero, kx]; split <;> omega)
       have ht : ((x : Int) / 9223372036854775808 == 1) = true := beq_iff_eq.2 (by omega)
       have hnot := not64 x hx
       clear hm h0 hn hn' hs
       go_enter Tryz.func125, Tryz.ntmps125
       go_wp2_with fail
       refine (spec_FloatBits x hx w).mono ?_
       rintro e w1 ⟨rfl, rfl⟩
       rw [eb]
       go_wp2_with fail
       go_ret
       exact ⟨by rw [ef.out]; rfl, rfl⟩
theorem frank_same (x y : Nat) (h1 : isN x = false → y = x) (h2 : isN x = isN y) : frank y = frank x := by
 by_cases hn : isN x = true
 · rw [frank, frank, if_pos hn, if_pos (by rw [← h2]; exact hn)]
 · rw [h1 (by simpa using hn)]
theorem same_of {x y : Nat} (h1 : isN x = false → y = x) (h2 : isN x = isN y) : Same x y := by
 by_cases hn : isN x = true
 · exact .inl ⟨hn, by rw [← h2]; exact hn⟩
 · have hn' : isN x = false := by simpa using hn
   exact .inr ⟨hn', h1 hn'⟩
def Unrank (k : Nat) (y : Nat) (ok : Bool) : Prop :=
 (frank (back k) = k ∧ ok = true ∧ Same (back k) y) ∨ (¬ frank (back k) = k ∧ ok = false ∧ y = 0)
theorem spec_FloatUnrank (k : Nat) (hk : k < 18446744073709551616) (w : World) :
 Calls Tryz.prog 141 #[.int .u64 k] w fun e w' => ∃ y ok, e = .returned (.tuple #[.float .f64 y, .bool ok]) ∧ y < 18446744073709551616 ∧ Hid (Unrank k y ok) ∧ Still w w' := by
 have hbl := back_lt k hk
 by_cases hmax : k = 18446744073709551615
 · subst hmax
   have hbN : isN (back 18446744073709551615) = true := by decide
   have hf : frank (back 18446744073709551615) = 18446744073709551615 := by rw [frank, if_pos hbN]
   go_enter Tryz.func141, Tryz.ntmps141
   go_wp2_with fail
   refine (spec_FloatOf 9221120237041090560 (by omega) _).mono ?_
   rintro e w1 ⟨y, rfl, hy, h1, h2, st⟩
   have hyN : isN y = true := by rw [← h2.out]; decide
   have hr : frank y = 18446744073709551615 := by rw [frank, if_pos hyN]
   go_wp2_with fail
   refine (spec_FloatRank y hy _).mono ?_
   rintro e w2 ⟨rfl, rfl⟩
   rw [hr]
   go_wp2_with fail
   go_ret2
   exact ⟨y, true, rfl, hy, hid (.inl ⟨hf, rfl, .inl ⟨hbN, hyN⟩⟩), st⟩
 · have hkm : ((k : Int) == 18446744073709551615) = false := beq_eq_false_iff_ne.2 (by omega)
   by_cases hge : 9223372036854775808 ≤ k
   · have ht : ((k : Int) / 9223372036854775808 == 1) = true := beq_iff_eq.2 (by omega)
     have hand : bits .and .u64 (k : Int) 9223372036854775807 = (back k : Int) := by
      have := u64_and_nat k 9223372036854775807 hk (by omega)
      rw [show (9223372036854775807 : Nat) = 2 ^ 63 - 1 from rfl, Nat.and_two_pow_sub_one_eq_mod] at this
      rw [back, if_pos hge, show k - 9223372036854775808 = k % 2 ^ 63 by omega]
      exact this
     clear hmax hge
     by_cases hf : frank (back k) = k
     · go_enter Tryz.func141, Tryz.ntmps141
       go_wp2_with fail
       refine (spec_FloatOf (back k) hbl _).mono ?_
       rintro e w1 ⟨y, rfl, hy, h1, h2, st⟩
       have hr := frank_same (back k) y h1.out h2.out
       have hne : ((frank y : Int) != (k : Int)) = false := by rw [hr, hf]; simp
       have hh := hid hr
       clear hr
       go_wp2_with fail
       refine (spec_FloatRank y hy _).mono ?_
       rintro e w2 ⟨rfl, rfl⟩
       go_wp2_with fail
       go_ret2
       exact ⟨y, true, rfl, hy, hid (.inl ⟨hf, rfl, same_of h1.out h2.out⟩), st⟩
     · go_enter Tryz.func141, Tryz.ntmps141
       go_wp2_with fail
       refine (spec_FloatOf (back k) hbl _).mono ?_
       rintro e w1 ⟨y, rfl, hy, h1, h2, st⟩
       have hr := frank_same (back k) y h1.out h2.out
       have hne : ((frank y : Int) != (k : Int)) = true := by rw [hr]; simp; omega
       have hh := hid hr
       clear hr
       go_wp2_with fail
       refine (spec_FloatRank y hy _).mono ?_
       rintro e w2 ⟨rfl, rfl⟩
       go_wp2_with fail
       go_ret2
       exact ⟨0, false, rfl, by omega, hid (.inr ⟨hf, rfl, rfl⟩), st⟩
   · have ht : ((k : Int) / 9223372036854775808 == 1) = false := beq_eq_false_iff_ne.2 (by omega)
     have hnot := not64 k hk
     have eb : 18446744073709551615 - k = back k := by rw [back, if_neg hge]
     rw [eb] at hnot
     clear hmax hge eb
     by_cases hf : frank (back k) = k
     · go_enter Tryz.func141, Tryz.ntmps141
       go_wp2_with fail
       refine (spec_FloatOf (back k) hbl _).mono ?_
       rintro e w1 ⟨y, rfl, hy, h1, h2, st⟩
       have hr := frank_same (back k) y h1.out h2.out
       have hne : ((frank y : Int) != (k : Int)) = false := by rw [hr, hf]; simp
       have hh := hid hr
       clear hr
       go_wp2_with fail
       refine (spec_FloatRank y hy _).mono ?_
       rintro e w2 ⟨rfl, rfl⟩
       go_wp2_with fail
       go_ret2
       exact ⟨y, true, rfl, hy, hid (.inl ⟨hf, rfl, same_of h1.out h2.out⟩), st⟩
     · go_enter Tryz.func141, Tryz.ntmps141
       go_wp2_with fail
       refine (spec_FloatOf (back k) hbl _).mono ?_
       rintro e w1 ⟨y, rfl, hy, h1, h2, st⟩
       have hr := frank_same (back k) y h1.out h2.out
       have hne : ((frank y : Int) != (k : Int)) = true := by rw [hr]; simp; omega
       have hh := hid hr
       clear hr
       go_wp2_with fail
       refine (spec_FloatRank y hy _).mono ?_
       rintro e w2 ⟨rfl, rfl⟩
       go_wp2_with fail
       go_ret2
       exact ⟨0, false, rfl, by omega, hid (.inr ⟨hf, rfl, rfl⟩), st⟩
end Go.Proofs.YtkfhfjghfadofaaGreat
/- Items: what is ItemOk; the contracts of the specification's ItemOk and KeyOk and of the laws' szItem, toItem, eqItem. Conditions: texts of at most 2^21 bytes where memory is made. -/


namespace Go.Proofs.YtkfhfjghfadofaaGreat
open Go.RowKit
def okI (K N : Int) (f n : Nat) : Bool := decide (0 ≤ K ∧ K ≤ 3 ∧ n ≤ 40 ∧ (K = 1 ∨ N = 0) ∧ (K = 2 ∨ f = 0) ∧ (K = 3 ∨ n = 0))
theorem fbits_zero (f : Nat) : fbits f = 0 ↔ f = 0 := by
 unfold fbits
 split
 · rename_i h
   constructor
   · intro h'; omega
   · intro h'; subst h'; exact absurd h (by decide)
 · exact Iff.rfl
theorem fbits_ne (f : Nat) (h : f ≠ 0) : ((fbits f : Int) != 0) = true := by
 have := fun e => h ((fbits_zero f).1 e)
 simp
 omega
set_option maxRecDepth 100000 in
set_option maxHeartbeats 1600000 in
theorem spec_ItemOk (K N : Int) (f : Nat) (ad : Option Addr) (n cap : Nat) (hf : f < 18446744073709551616) (hn : n ≤ 2097152) (w : World) :
 Calls Tryz.prog 74 #[.agg #[.int .i64 K, .int .i64 N, .float .f64 f, .slice ad n cap]] w fun e w' => e = .returned (.bool (okI K N f n)) ∧ Below w.heap.size w w' := by
 have hA : Below w.heap.size w (w.alloc (.cells #[.int .i64 K, .int .i64 N, .float .f64 f, .slice ad n cap] 29)) := (Below.refl _ _).alloc (Nat.le_refl _) _
 have HA := hid hA
 clear hA
 by_cases h1 : K < 0
 · rw [show okI K N f n = false from decide_eq_false (by omega)]
   go_enter Tryz.func74, Tryz.ntmps74
   go_wp2
   go_ret
   exact ⟨rfl, HA.out⟩
 by_cases h2 : 3 < K
 · rw [show okI K N f n = false from decide_eq_false (by omega)]
   go_enter Tryz.func74, Tryz.ntmps74
   go_wp2
   go_ret
   exact ⟨rfl, HA.out⟩
 by_cases h3 : 40 < n
 · rw [show okI K N f n = false from decide_eq_false (by omega)]
   have h3' : (40 : Int) < (n : Int) := by omega
   go_enter Tryz.func74, Tryz.ntmps74
   go_wp2
   go_ret
   exact ⟨rfl, HA.out⟩
 have h3' : ¬ (40 : Int) < (n : Int) := by omega
 by_cases h4 : K ≠ 1 ∧ N ≠ 0
 · rw [show okI K N f n = false from decide_eq_false (by omega)]
   have q1 : (K != 1) = true := by simp [h4.1]
   have q2 : (N != 0) = true := by simp [h4.2]
   go_enter Tryz.func74, Tryz.ntmps74
   go_wp2
   go_ret
   exact ⟨rfl, HA.out⟩
 by_cases h5 : K = 1
 · subst h5
   by_cases h6 : f = 0
   · subst h6
     have hz : fbits 0 = 0 := by decide
     by_cases h7 : n = 0
     · subst h7
       rw [show okI 1 N 0 0 = true from decide_eq_true (by omega)]
       go_enter Tryz.func74, Tryz.ntmps74
       go_wp2_with fail
       refine (spec_FloatBits 0 hf _).mono ?_
       rintro e w1 ⟨rfl, rfl⟩
       rw [hz]
       go_wp2_with fail
       go_ret
       exact ⟨rfl, HA.out⟩
     · rw [show okI 1 N 0 n = false from decide_eq_false (by omega)]
       have q7 : ((n : Int) == 0) = false := beq_eq_false_iff_ne.2 (by omega)
       go_enter Tryz.func74, Tryz.ntmps74
       go_wp2_with fail
       refine (spec_FloatBits 0 hf _).mono ?_
       rintro e w1 ⟨rfl, rfl⟩
       rw [hz]
       go_wp2_with fail
       go_ret
       exact ⟨rfl, HA.out⟩
   · rw [show okI 1 N f n = false from decide_eq_false (by omega)]
     have q6 : ((fbits f : Int) != 0) = true := fbits_ne f h6
     go_enter Tryz.func74, Tryz.ntmps74
     go_wp2_with fail
     refine (spec_FloatBits f hf _).mono ?_
     rintro e w1 ⟨rfl, rfl⟩
     go_wp2_with fail
     go_ret
     exact ⟨rfl, HA.out⟩
 have h8 : N = 0 := by omega
 subst h8
 have q1 : (K != 1) = true := by simp [h5]
 by_cases h9 : K = 2
 · subst h9
   by_cases h7 : n = 0
   · subst h7
     rw [show okI 2 0 f 0 = true from decide_eq_true (by omega)]
     go_enter Tryz.func74, Tryz.ntmps74
     go_wp2
     go_ret
     exact ⟨rfl, HA.out⟩
   · rw [show okI 2 0 f n = false from decide_eq_false (by omega)]
     have q7 : ((n : Int) == 0) = false := beq_eq_false_iff_ne.2 (by omega)
     go_enter Tryz.func74, Tryz.ntmps74
     go_wp2
     go_ret
     exact ⟨rfl, HA.out⟩
 have q9 : (K != 2) = true := by simp [h9]
 by_cases h6 : f = 0
 · subst h6
   have hz : fbits 0 = 0 := by decide
   by_cases h7 : K = 3
   · subst h7
     rw [show okI 3 0 0 n = true from decide_eq_true (by omega)]
     go_enter Tryz.func74, Tryz.ntmps74
     go_wp2_with fail
     refine (spec_FloatBits 0 hf _).mono ?_
     rintro e w1 ⟨rfl, rfl⟩
     rw [hz]
     go_wp2_with fail
     go_ret
     exact ⟨rfl, HA.out⟩
   · have h10 : K = 0 := by omega
     subst h10
     by_cases h7 : n = 0
     · subst h7
       rw [show okI 0 0 0 0 = true from decide_eq_true (by omega)]
       go_enter Tryz.func74, Tryz.ntmps74
       go_wp2_with fail
       refine (spec_FloatBits 0 hf _).mono ?_
       rintro e w1 ⟨rfl, rfl⟩
       rw [hz]
       go_wp2_with fail
       go_ret
       exact ⟨rfl, HA.out⟩
     · rw [show okI 0 0 0 n = false from decide_eq_false (by omega)]
       have q7 : ((n : Int) == 0) = false := beq_eq_false_iff_ne.2 (by omega)
       go_enter Tryz.func74, Tryz.ntmps74
       go_wp2_with fail
       refine (spec_FloatBits 0 hf _).mono ?_
       rintro e w1 ⟨rfl, rfl⟩
       rw [hz]
       go_wp2_with fail
       go_ret
       exact ⟨rfl, HA.out⟩
 · rw [show okI K 0 f n = false from decide_eq_false (by omega)]
   have q6 : ((fbits f : Int) != 0) = true := fbits_ne f h6
   go_enter Tryz.func74, Tryz.ntmps74
   go_wp2_with fail
   refine (spec_FloatBits f hf _).mono ?_
   rintro e w1 ⟨rfl, rfl⟩
   go_wp2_with fail
   go_ret
   exact ⟨rfl, HA.out⟩
def okK (K N : Int) (f n : Nat) : Bool := okI K N f n && decide (K ≠ 0 ∧ f ≠ 9223372036854775808)
end Go.Proofs.YtkfhfjghfadofaaGreat
/- The contracts of the laws' szItem, toItem, eqItem, and of the specification's KeyOk. Conditions: texts of at most 2^21 bytes where memory is made. -/

namespace Go.Proofs.YtkfhfjghfadofaaGreat
open Go.RowKit
structure Box (w : World) (g : Nat) (K N : Int) (f : Nat) (ad : Option Addr) (n cap : Nat) : Prop where
 c0 : w.cell? ⟨g, 0, none⟩ = some (.int .i64 K)
 c1 : w.cell? ⟨g, 1, none⟩ = some (.int .i64 N)
 c2 : w.cell? ⟨g, 2, none⟩ = some (.float .f64 f)
 c3 : w.cell? ⟨g, 3, none⟩ = some (.slice ad n cap)
theorem Box.new (w : World) (K N : Int) (f : Nat) (ad : Option Addr) (n cap : Nat) (t : TypeId) : Box (w.alloc (.cells #[.int .i64 K, .int .i64 N, .float .f64 f, .slice ad n cap] t)) w.heap.size K N f ad n cap := by
 have h := heap_alloc_new w (.cells #[.int .i64 K, .int .i64 N, .float .f64 f, .slice ad n cap] t)
 refine ⟨?_, ?_, ?_, ?_⟩ <;> (rw [cell_of_row _ _ _ _ _ _ h]; rfl)
theorem Box.below {w w' : World} {g : Nat} {K N : Int} {f : Nat} {ad : Option Addr} {n cap : Nat} (b : Box w g K N f ad n cap) {B : Nat} (h : Below B w w') (hB : g < B) : Box w' g K N f ad n cap :=
 ⟨(h.cell (p := ⟨g, 0, none⟩) hB).trans b.c0, (h.cell (p := ⟨g, 1, none⟩) hB).trans b.c1, (h.cell (p := ⟨g, 2, none⟩) hB).trans b.c2, (h.cell (p := ⟨g, 3, none⟩) hB).trans b.c3⟩
theorem szByteS (ad : Option Addr) (n cap : Nat) (left : Int) (hn : n ≤ 9223372036854775807) (h0 : 0 ≤ left) (h1 : left ≤ 1048576) (w : World) :
 Calls Tryz.prog 127 #[.slice ad n cap, .int .i64 left] w fun e w' => e = .returned (.int .i64 (if left < n then -1 else left - n)) ∧ w' = w := by
 have a1 : (0 : Int) ≤ (n : Int) := by omega
 have a2 : (n : Int) ≤ 9223372036854775807 := by omega
 by_cases h : left < n
 · rw [if_pos h]
   have q : left - (n : Int) < 0 := by omega
   go_enter Tryz.func127, Tryz.ntmps127
   go_wp2
   go_ret
   exact ⟨rfl, rfl⟩
 · rw [if_neg h]
   have q : ¬ left - (n : Int) < 0 := by omega
   go_enter Tryz.func127, Tryz.ntmps127
   go_wp2
   go_ret
   exact ⟨rfl, rfl⟩
theorem szItem (K N : Int) (f : Nat) (ad : Option Addr) (n cap : Nat) (left : Int) (hn : n ≤ 9223372036854775807) (h0 : 0 ≤ left) (h1 : left ≤ 1048576) (w : World) :
 Calls Tryz.prog 82 #[.agg #[.int .i64 K, .int .i64 N, .float .f64 f, .slice ad n cap], .int .i64 left] w fun e w' => e = .returned (.int .i64 (if left < n then -1 else left - n)) ∧ Below w.heap.size w w' := by
 have HA := hid (show Below w.heap.size w (w.alloc (.cells #[.int .i64 K, .int .i64 N, .float .f64 f, .slice ad n cap] 65)) from (Below.refl _ _).alloc (Nat.le_refl _) _)
 by_cases h : left < n
 · rw [if_pos h]
   go_enter Tryz.func82, Tryz.ntmps82
   go_wp2_with fail
   refine (szByteS ad n cap left hn h0 h1 _).mono ?_
   rintro e w1 ⟨rfl, rfl⟩
   rw [if_pos h]
   go_wp2_with fail
   go_ret
   exact ⟨rfl, HA.out⟩
 · rw [if_neg h]
   have q : ¬ left - (n : Int) < 0 := by omega
   have hz := szByteS ad n cap left hn h0 h1
   rw [if_neg h] at hz
   have HZ := hid hz
   clear hz
   go_enter Tryz.func82, Tryz.ntmps82
   go_wp2_with fail
   refine (HZ.out _).mono ?_
   rintro e w1 ⟨rfl, rfl⟩
   go_wp2_with fail
   go_ret
   exact ⟨rfl, HA.out⟩
set_option maxRecDepth 100000 in
set_option maxHeartbeats 1600000 in
theorem spec_KeyOk (K N : Int) (f : Nat) (ad : Option Addr) (n cap : Nat) (hf : f < 18446744073709551616) (hn : n ≤ 2097152) (w : World) :
 Calls Tryz.prog 23 #[.agg #[.int .i64 K, .int .i64 N, .float .f64 f, .slice ad n cap]] w fun e w' => e = .returned (.bool (okK K N f n)) ∧ Below w.heap.size w w' := by
 have hI := spec_ItemOk K N f ad n cap hf hn
 by_cases hok : okI K N f n = true
 · rw [hok] at hI
   by_cases hK : K = 0
   · rw [show okK K N f n = false by rw [okK, decide_eq_false (by omega), Bool.and_false]]
     have q : (K != 0) = false := by simp [hK]
     clear hK hok
     have hA : Below w.heap.size w (w.alloc (.cells #[.int .i64 K, .int .i64 N, .float .f64 f, .slice ad n cap] 29)) := (Below.refl _ _).alloc (Nat.le_refl _) _
     have hB := Box.new w K N f ad n cap 29
     go_enter Tryz.func23, Tryz.ntmps23
     go_wp2_with fail
     refine (hI _).mono ?_
     rintro e w1 ⟨rfl, b1⟩
     obtain ⟨c0, c1, c2, c3⟩ := hB.below b1 (by simp)
     have HA := hid (hA.trans (b1.mono hA.size))
     clear hA hB b1
     go_wp2_with fail
     go_ret
     exact ⟨rfl, HA.out⟩
   have q : (K != 0) = true := by simp [hK]
   by_cases h0 : f = 0
   · subst h0
     rw [show okK K N 0 n = true by rw [okK, hok, decide_eq_true (by omega)]; rfl]
     have o : FloatKind.f64.format.order 0 0 = some .eq := by decide
     have hz : fbits 0 = 0 := by decide
     clear hK hok
     have hA : Below w.heap.size w (w.alloc (.cells #[.int .i64 K, .int .i64 N, .float .f64 0, .slice ad n cap] 29)) := (Below.refl _ _).alloc (Nat.le_refl _) _
     have hB := Box.new w K N 0 ad n cap 29
     go_enter Tryz.func23, Tryz.ntmps23
     go_wp2_with fail
     refine (hI _).mono ?_
     rintro e w1 ⟨rfl, b1⟩
     obtain ⟨c0, c1, c2, c3⟩ := hB.below b1 (by simp)
     have HA := hid (hA.trans (b1.mono hA.size))
     clear hA hB b1
     go_wp2_with fail
     refine (spec_FloatBits 0 hf _).mono ?_
     rintro e w2 ⟨rfl, rfl⟩
     rw [hz]
     go_wp2_with fail
     go_ret
     exact ⟨rfl, HA.out⟩
   by_cases h1 : f = 9223372036854775808
   · subst h1
     rw [show okK K N 9223372036854775808 n = false by rw [okK, decide_eq_false (by omega), Bool.and_false]]
     have o : FloatKind.f64.format.order 9223372036854775808 0 = some .eq := by decide
     have hz : fbits 9223372036854775808 = 9223372036854775808 := by decide
     clear hK hok
     have hA : Below w.heap.size w (w.alloc (.cells #[.int .i64 K, .int .i64 N, .float .f64 9223372036854775808, .slice ad n cap] 29)) := (Below.refl _ _).alloc (Nat.le_refl _) _
     have hB := Box.new w K N 9223372036854775808 ad n cap 29
     go_enter Tryz.func23, Tryz.ntmps23
     go_wp2_with fail
     refine (hI _).mono ?_
     rintro e w1 ⟨rfl, b1⟩
     obtain ⟨c0, c1, c2, c3⟩ := hB.below b1 (by simp)
     have HA := hid (hA.trans (b1.mono hA.size))
     clear hA hB b1
     go_wp2_with fail
     refine (spec_FloatBits 9223372036854775808 hf _).mono ?_
     rintro e w2 ⟨rfl, rfl⟩
     rw [hz]
     go_wp2_with fail
     go_ret
     exact ⟨rfl, HA.out⟩
   rw [show okK K N f n = true by rw [okK, hok, decide_eq_true (by omega)]; rfl]
   have o : FloatKind.f64.format.order f 0 = some .lt ∨ FloatKind.f64.format.order f 0 = some .gt ∨ FloatKind.f64.format.order f 0 = none := by
    by_cases hN : isN f = true
    · exact .inr (.inr (order_l f 0 hf hN))
    · have hN' : isN f = false := by simpa using hN
      have hm := (isN_not f).1 hN'
      by_cases hp : f < 9223372036854775808
      · exact .inr (.inl (order_gt f 0 hf (by omega) hN' isN_zero (by rw [kx_zero, kx, if_pos hp]; omega)))
      · exact .inl (order_lt f 0 hf (by omega) hN' isN_zero (by rw [kx_zero, kx, if_neg hp]; omega))
   clear hK hok h0 h1
   rcases o with o | o | o
   all_goals
    have hA : Below w.heap.size w (w.alloc (.cells #[.int .i64 K, .int .i64 N, .float .f64 f, .slice ad n cap] 29)) := (Below.refl _ _).alloc (Nat.le_refl _) _
    have hB := Box.new w K N f ad n cap 29
    go_enter Tryz.func23, Tryz.ntmps23
    go_wp2_with fail
    refine (hI _).mono ?_
    rintro e w1 ⟨rfl, b1⟩
    obtain ⟨c0, c1, c2, c3⟩ := hB.below b1 (by simp)
    have HA := hid (hA.trans (b1.mono hA.size))
    clear hA hB b1
    go_wp2_with fail
    go_ret
    exact ⟨rfl, HA.out⟩
 · have hok' : okI K N f n = false := by simpa using hok
   rw [hok'] at hI
   rw [show okK K N f n = false by rw [okK, hok']; rfl]
   clear hok hok'
   have hA : Below w.heap.size w (w.alloc (.cells #[.int .i64 K, .int .i64 N, .float .f64 f, .slice ad n cap] 29)) := (Below.refl _ _).alloc (Nat.le_refl _) _
   have hB := Box.new w K N f ad n cap 29
   go_enter Tryz.func23, Tryz.ntmps23
   go_wp2_with fail
   refine (hI _).mono ?_
   rintro e w1 ⟨rfl, b1⟩
   obtain ⟨c0, c1, c2, c3⟩ := hB.below b1 (by simp)
   have HA := hid (hA.trans (b1.mono hA.size))
   clear hA hB b1
   go_wp2_with fail
   go_ret
   exact ⟨rfl, HA.out⟩
end Go.Proofs.YtkfhfjghfadofaaGreat
/- The contract of the laws' toItem: the same item with a text of its own. Conditions: texts of at most 2^21 bytes. -/



namespace Go.Proofs.YtkfhfjghfadofaaGreat
open Go.RowKit
theorem size29 : (Tryz.prog.info? 29).map (·.size) = some 4 := by kernel_rfl
set_option maxRecDepth 100000 in
set_option maxHeartbeats 1600000 in
theorem toItem (K N : Int) (f : Nat) {ad : Option Addr} {n : Nat} (cap : Nat) {zs : List Int} {w : World} (h : Reads w ad n zs) (hn : n ≤ 2097152) :
 Calls Tryz.prog 84 #[.agg #[.int .i64 K, .int .i64 N, .float .f64 f, .slice ad n cap]] w fun e w' => ∃ g, e = .returned (.agg #[.int .i64 K, .int .i64 N, .float .f64 f, .slice (some ⟨g, 0, none⟩) n n]) ∧ w'.ownsRow w.heap.size 5 1 (.slice (some ⟨g, 0, none⟩) n n) n (bys zs) ∧ Below w.heap.size w w' := by
 have hst := fun w a m => run_store Tryz.prog w a (.float .f64 f) m rfl
 go_enter Tryz.func84, Tryz.ntmps84
 go_wp2_with fail
 obtain ⟨z, R1, R2, bW⟩ := three w (.cells #[.int .i64 K, .int .i64 N, .float .f64 f, .slice ad n cap] 65) (.cells #[.int .i64 0, .int .i64 0, .float .f64 0, .slice none 0 0] 29) (.cells #[.int .i64 K, .int .i64 N, .float .f64 f, .slice none 0 0] 29)
 have zW := hid z
 clear z
 generalize ((w.alloc (.cells #[.int .i64 K, .int .i64 N, .float .f64 f, .slice ad n cap] 65)).alloc (.cells #[.int .i64 0, .int .i64 0, .float .f64 0, .slice none 0 0] 29)).alloc (.cells #[.int .i64 K, .int .i64 N, .float .f64 f, .slice none 0 0] 29) = W at *
 refine (toByteS_any cap (h.below bW (Nat.le_refl _)) hn).mono ?_
 rintro e W1 ⟨rfl, o1, b1⟩
 have hW := zW.out
 have S1 : W1.heap[w.heap.size + 1]? = _ := (b1.block _ (by omega)).trans R1
 have S2 : W1.heap[w.heap.size + 1 + 1]? = _ := (b1.block _ (by omega)).trans R2
 have B1 := bW.trans (b1.mono bW.size)
 have O1 := hid o1
 have HW := hid hW
 clear o1 hW zW R1 R2 bW b1
 have c3 : W1.cell? ⟨w.heap.size + 1 + 1, 3, none⟩ = some (.slice none 0 0) := by rw [cell_of_row _ _ _ _ _ _ S2]; rfl
 have fz : W1.frozen? ⟨w.heap.size + 1 + 1, 3, none⟩ = false := frozen_of_row _ _ _ _ _ S2
 have T2 := hid (heap_setCell_same W1 (w.heap.size + 1 + 1) 3 _ 29 (.slice (some ⟨W.heap.size, 0, none⟩) n n) S2)
 have T1 := hid ((heap_setCell_other W1 ⟨w.heap.size + 1 + 1, 3, none⟩ (w.heap.size + 1) (.slice (some ⟨W.heap.size, 0, none⟩) n n) (by simp)).trans S1)
 have BC := hid (B1.setCell (p := ⟨w.heap.size + 1 + 1, 3, none⟩) (by simp; omega) (.slice (some ⟨W.heap.size, 0, none⟩) n n))
 clear S1 S2
 go_wp2_with (first
  | (refine wpList_load_row rfl 29 (.tmp 3) rfl (w.heap.size + 1 + 1) rfl 29 _ (0, 0) _ T2.out Tryz.underlying29 rfl size29 ?_)
  | (refine wpList_store_row rfl 29 (.tmp 2) (.tmp 17) rfl (w.heap.size + 1) #[.int .i64 K, .int .i64 N, .float .f64 f, .slice (some ⟨W.heap.size, 0, none⟩) n n] rfl rfl 29 _ T1.out ?s1 ?s2 ?s3 ?_))
 case s1 => exact size29
 case s2 => rfl
 case s3 => simp [Value.oneCell']
 have hW := HW.out
 refine bodyPost_ret (results_cell_row Tryz.results84 _ _ (w.heap.size + 1) 29 #[.int .i64 K, .int .i64 N, .float .f64 f, .slice (some ⟨W.heap.size, 0, none⟩) n n] (0, 0) _ rfl (setRow_heap _ _ _ _ _ _ T1.out) Tryz.underlying29 rfl size29) rfl ⟨W.heap.size, rfl, owns_base (owns_at O1.out fun k hk => ?_) (by omega), below_setRow BC.out (by omega) _⟩
 rw [setRow_other _ _ _ _ (by omega), heap_setCell_other _ _ _ _ (by simp; omega)]
end Go.Proofs.YtkfhfjghfadofaaGreat
/- The contracts of the laws' eqItem, markItem and heldItem. Conditions: texts of at most 2^21 bytes. -/

namespace Go.Proofs.YtkfhfjghfadofaaGreat
open Go.RowKit
set_option maxRecDepth 100000 in
set_option maxHeartbeats 1600000 in
theorem eqItem (K N : Int) (f f' : Nat) {ad ad' : Option Addr} {n : Nat} (cap cap' : Nat) {zs : List Int} {w : World} (hf : f < 18446744073709551616) (hf' : f' < 18446744073709551616) (hs : Same f f') (h : Reads w ad n zs) (h' : Reads w ad' n zs) (hn : n ≤ 2097152) :
 Calls Tryz.prog 86 #[.agg #[.int .i64 K, .int .i64 N, .float .f64 f, .slice ad n cap], .agg #[.int .i64 K, .int .i64 N, .float .f64 f', .slice ad' n cap']] w fun e w' => e = .returned (.bool true) ∧ Below w.heap.size w w' := by
 have hB := two w (.cells #[.int .i64 K, .int .i64 N, .float .f64 f, .slice ad n cap] 29) (.cells #[.int .i64 K, .int .i64 N, .float .f64 f', .slice ad' n cap'] 29)
 have H1 := hid (h.below hB (Nat.le_refl _))
 have H2 := hid (h'.below hB (Nat.le_refl _))
 have HB := hid hB
 clear hB h h'
 go_enter Tryz.func86, Tryz.ntmps86
 go_wp2_with fail
 refine (sameFloat_walk f f' hf hf' hs _).mono ?_
 rintro e w1 ⟨rfl, hw⟩
 rw [hw]
 clear hw
 go_wp2_with fail
 refine (eqByteS_any cap cap' H1.out H2.out hn).mono ?_
 rintro e w2 ⟨rfl, st⟩
 go_wp2_with fail
 go_ret
 exact ⟨rfl, HB.out.trans (st.below _)⟩
end Go.Proofs.YtkfhfjghfadofaaGreat
/- Texts compared: the contract of the specification's l3texts. Conditions: texts of at most 2^21 bytes. -/

namespace Go.Proofs.YtkfhfjghfadofaaGreat
open Go.RowKit
def txt : List Int → List Int → Int
 | [], [] => 0
 | [], _ :: _ => -1
 | _ :: _, [] => 1
 | x :: xs, y :: ys => if x < y then -1 else if y < x then 1 else txt xs ys
theorem drop_cons (zs : List Int) (k : Nat) (h : k < zs.length) : zs.drop k = zs.getD k 0 :: zs.drop (k + 1) := by
 rw [List.drop_eq_getElem_cons h]
 simp [List.getD, h]
end Go.Proofs.YtkfhfjghfadofaaGreat
/- The contracts of the laws' markItem and heldItem. Conditions: texts of at most 2^21 bytes. -/

namespace Go.Proofs.YtkfhfjghfadofaaGreat
open Go.RowKit
theorem markItem (K N : Int) (f : Nat) {base n cap : Nat} {ad : Option Addr} (k : Int) {xs : List Value} {w : World} (hn : n ≤ 2097152) (hk0 : 0 ≤ k) (hk1 : k ≤ 1000000000) (hown : w.ownsRow base 5 1 (.slice ad n cap) n xs) :
 Calls Tryz.prog 88 #[.agg #[.int .i64 K, .int .i64 N, .float .f64 f, .slice ad n cap], .int .i64 k] w fun e w' =>
  e = .returned (.int .i64 (k + n)) ∧ w'.ownsRow base 5 1 (.slice ad n cap) n (bys (marks k n)) ∧ w.grownBy w' (Value.slice ad n cap).ownBlock := by
 have o1 := hown.alloc (.cells #[.int .i64 K, .int .i64 N, .float .f64 f, .slice ad n cap] 29)
 have g1 := World.grownBy_alloc w (.cells #[.int .i64 K, .int .i64 N, .float .f64 f, .slice ad n cap] 29) (Value.slice ad n cap).ownBlock
 have O1 := hid o1
 clear o1
 go_enter Tryz.func88, Tryz.ntmps88
 go_wp2_with fail
 refine (markByteS_any k hn hk0 hk1 O1.out).mono ?_
 rintro e w1 ⟨rfl, o2, g2⟩
 go_wp2_with fail
 go_ret
 exact ⟨rfl, o2, grown_trans g1 g2⟩
end Go.Proofs.YtkfhfjghfadofaaGreat
/- Eight bytes, high first: the contract of the specification's l3high. No conditions. -/

namespace Go.Proofs.YtkfhfjghfadofaaGreat
open Go.RowKit
def hb (x j : Nat) : Int := ((x / 2 ^ (8 * (7 - j)) % 256 : Nat) : Int)
def hi8 (x k : Nat) : List Int := (List.range k).map (hb x)
theorem hi8_succ (x k : Nat) : hi8 x (k + 1) = hi8 x k ++ [hb x k] := by simp [hi8, List.range_succ]
theorem hi8_length (x k : Nat) : (hi8 x k).length = k := by simp [hi8]
theorem hb_bd (x j : Nat) : 0 ≤ hb x j ∧ hb x j ≤ 255 := by unfold hb; omega
theorem shr_eq (x i : Nat) : (x : Int) / 2 ^ (8 * (i : Int)).toNat = ((x / 2 ^ (8 * i) : Nat) : Int) := by
 rw [show (8 * (i : Int)).toNat = 8 * i by omega]
 simp
theorem and_byte (y : Nat) (h : y < 18446744073709551616) : bits .and .u64 (y : Int) 255 = ((y % 256 : Nat) : Int) := by
 have := u64_and_nat y 255 h (by omega)
 rw [nat_mask8] at this
 exact this
set_option maxRecDepth 100000 in
set_option maxHeartbeats 3200000 in
theorem spec_l3high (x : Nat) (hx : x < 18446744073709551616) (w : World) :
 Calls Tryz.prog 161 #[.int .u64 x] w fun e w' => ∃ v, e = .returned v ∧ w'.ownsRow w.heap.size 5 1 v 8 (bys (hi8 x 8)) ∧ Below w.heap.size w w' := by
 obtain ⟨i0, hi, hz0, hz1, hz2⟩ := info_parts Tryz.info5
 go_enter Tryz.func161, Tryz.ntmps161
 go_wp2_with fail
 go_loopw [3, 4] (fun v i wr => ∃ k : Nat, k ≤ 8 ∧ i = .int .i64 (7 - (k : Int)) ∧ wr.ownsRow w.heap.size 5 1 v k (bys (hi8 x k)) ∧ Below w.heap.size w wr) (fun _ i _ => (intOf i + 1).toNat)
 case atStart => exact ⟨0, by omega, rfl, World.ownsRow_nil _ _ _ _, Below.refl _ _⟩
 case round =>
  obtain ⟨k, hk, rfl, hown, hb1⟩ := hrel
  by_cases hlt : k < 8
  · obtain ⟨i, hi7⟩ : ∃ i : Nat, 7 - (k : Int) = (i : Int) := ⟨7 - k, by omega⟩
    have hi0 : (0 : Int) ≤ (i : Int) := by omega
    have hi1 : (i : Int) ≤ 7 := by omega
    have hs := shr_eq x i
    have hlq : x / 2 ^ (8 * i) < 18446744073709551616 := Nat.lt_of_le_of_lt (Nat.div_le_self _ _) hx
    have ha := and_byte (x / 2 ^ (8 * i)) hlq
    have hbx : hb x k = ((x / 2 ^ (8 * i) % 256 : Nat) : Int) := by rw [hb, show 7 - k = i by omega]
    have hy := hb_bd x k
    rw [← hbx] at ha
    have z1 := hb1.size
    have HX := hid hbx
    have EI := hid hi7
    rw [hi7]
    generalize x / 2 ^ (8 * i) = q at *
    obtain ⟨y, HY⟩ : ∃ y, Hid (hb x k = y) := ⟨_, rfl⟩
    have hyy := HY.out
    rw [hyy] at ha hy
    clear hyy
    clear hbx hlq hi7
    go_wp2_with (at_builtin; refine wpList_append_own _ rfl _ _ 22 rfl w.heap.size 5 i0 (.int .u8 0) 1 1 Tryz.underlying22 hi hz0 hz1 hz2 rfl (by decide) _ _ _ rfl (hown.alloc _) ⟨wr.heap.size, 0, none⟩ 1 1 [.int .u8 y] rfl rfl (cell_one_new _ _ _) ?c2 ?c3 ?c4 ?c5 ?_)
    case c2 => intro u hu; simp at hu; subst hu; rfl
    case c3 => unfold maxLen; omega
    case c4 => omega
    case c5 => simp; omega
    intro v' w9 o3 g3 _
    have B9 : Below w.heap.size w w9 := (hb1.alloc z1 _).grown g3 (by simp; omega) (fun r hr => (hown.lt r hr).1)
    have O3 := hid o3
    clear g3 o3 hown hb1
    go_wp2_with fail
    go_roundw
    case rel => exact ⟨k + 1, by omega, by have := EI.out; go_num, by rw [hi8_succ, bys_append, HY.out]; exact O3.out, B9⟩
    case measure => have := EI.out; simp [intOf]
  · have hk8 : k = 8 := by omega
    subst hk8
    go_wp2_with fail
    go_ret
    exact ⟨_, rfl, hown, hb1⟩
end Go.Proofs.YtkfhfjghfadofaaGreat
/- An item as bytes: the contracts of the specification's l3bytes. Conditions: texts of at most 2^21 bytes. -/


namespace Go.Proofs.YtkfhfjghfadofaaGreat
open Go.RowKit
theorem xor_top (N : Int) (h0 : -9223372036854775808 ≤ N) (h1 : N ≤ 9223372036854775807) : bits .xor .u64 (IntKind.u64.wrap N) 9223372036854775808 = (((N + 9223372036854775808).toNat : Nat) : Int) := by
 have e : IntKind.u64.wrap N = N % 18446744073709551616 := by simp [IntKind.wrap, IntKind.bits, IntKind.signed]
 rw [e]
 by_cases hN : 0 ≤ N
 · obtain ⟨m, rfl⟩ := Int.eq_ofNat_of_zero_le hN
   rw [show (m : Int) % 18446744073709551616 = (m : Int) by omega]
   have h := u64_xor_nat m 9223372036854775808 (by omega) (by omega)
   have hx : m ^^^ 9223372036854775808 = 9223372036854775808 + m := neg_bits' m (by omega)
   rw [hx] at h
   rw [show ((m : Int) + 9223372036854775808).toNat = 9223372036854775808 + m by omega]
   exact h
 · obtain ⟨m, hm⟩ := Int.eq_ofNat_of_zero_le (show 0 ≤ N + 9223372036854775808 by omega)
   rw [show N % 18446744073709551616 = ((9223372036854775808 + m : Nat) : Int) by omega, hm]
   have h := u64_xor_nat (9223372036854775808 + m) 9223372036854775808 (by omega) (by omega)
   have hx : (9223372036854775808 + m) ^^^ 9223372036854775808 = m := neg_bits m (by omega)
   rw [hx] at h
   exact h
def bytesI (K N : Int) (B : Nat) (zs : List Int) : List Int := [K] ++ (if K = 1 then hi8 (N + 9223372036854775808).toNat 8 else if K = 2 then hi8 B 8 else zs)
theorem hi8_bd (x k : Nat) : ∀ i, 0 ≤ (hi8 x k).getD i 0 ∧ (hi8 x k).getD i 0 ≤ 255 := by
 intro i
 by_cases h : i < k
 · simp only [hi8, List.getD, List.getElem?_map, List.getElem?_range h, Option.map_some, Option.getD_some]
   exact hb_bd x i
 · simp [hi8, List.getD, h]
set_option maxRecDepth 100000 in
set_option maxHeartbeats 3200000 in
theorem spec_l3bytes_float (N : Int) (f : Nat) (ad : Option Addr) (n cap B : Nat) (hB : B < 18446744073709551616) (w : World) :
 Calls Tryz.prog 124 #[.agg #[.int .i64 2, .int .i64 N, .float .f64 f, .slice ad n cap], .int .u64 B] w fun e w' => ∃ v, e = .returned v ∧ w'.ownsRow w.heap.size 5 1 v 9 (bys ([2] ++ hi8 B 8)) ∧ Below w.heap.size w w' := by
 obtain ⟨i0, hi, hz0, hz1, hz2⟩ := info_parts Tryz.info5
 have z1 := alloc_size w (.cells #[.int .i64 2, .int .i64 N, .float .f64 f, .slice ad n cap] 29)
 have o5 := World.ownsRow_lit (base := w.heap.size) (e := 5) (size := 1) (w.alloc (.cells #[.int .i64 2, .int .i64 N, .float .f64 f, .slice ad n cap] 29)) #[.int .u8 2] 1 (by omega) (by unfold maxLen; omega) rfl
 have hT := two w (.cells #[.int .i64 2, .int .i64 N, .float .f64 f, .slice ad n cap] 29) (.cells #[.int .u8 2] 5)
 rw [z1] at o5
 have O5 := hid o5
 clear o5 z1
 go_enter Tryz.func124, Tryz.ntmps124
 go_wp2_with fail
 generalize (w.alloc (.cells #[.int .i64 2, .int .i64 N, .float .f64 f, .slice ad n cap] 29)).alloc (.cells #[.int .u8 2] 5) = w1 at *
 refine (spec_l3high B hB _).mono ?_
 rintro e w2 ⟨v, rfl, o2, b2⟩
 obtain ⟨ad2, cap2, rfl, r2, d2⟩ := Reads.own o2 (hi8_bd B 8)
 obtain ⟨bL, oL, rfl⟩ := r2.pos (by omega)
 have o6 := owns_below b2 (Nat.le_refl _) O5.out
 have B2 := hT.trans (b2.mono hT.size)
 have R2 := hid r2
 clear o2 d2 r2 b2 O5
 go_wp2_with (at_builtin; refine wpList_append_own _ rfl _ _ 22 rfl w.heap.size 5 i0 (.int .u8 0) 1 1 Tryz.underlying22 hi hz0 hz1 hz2 rfl (by decide) _ _ _ rfl o6 ⟨bL, oL, none⟩ 8 cap2 (bys (hi8 B 8)) rfl ?k2 R2.out.news (bys_one _) ?k4 ?k5 ?k6 ?_)
 case k2 => rw [bys_length, hi8_length]
 case k4 => unfold maxLen; omega
 case k5 => omega
 case k6 => exact B2.size
 intro v7 w7 o7 g7 _
 have B7 : Below w.heap.size w w7 := B2.grown g7 B2.size (fun k hk => (o6.lt k hk).1)
 have O7 := hid o7
 clear o7 g7 o6
 go_wp2_with fail
 go_ret
 exact ⟨_, rfl, by have := O7.out; simpa [bys] using this, B7⟩
set_option maxRecDepth 100000 in
set_option maxHeartbeats 3200000 in
theorem spec_l3bytes_int (N : Int) (hN0 : -9223372036854775808 ≤ N) (hN1 : N ≤ 9223372036854775807) (f : Nat) (ad : Option Addr) (n cap B : Nat) (w : World) :
 Calls Tryz.prog 124 #[.agg #[.int .i64 1, .int .i64 N, .float .f64 f, .slice ad n cap], .int .u64 B] w fun e w' => ∃ v, e = .returned v ∧ w'.ownsRow w.heap.size 5 1 v 9 (bys ([1] ++ hi8 (N + 9223372036854775808).toNat 8)) ∧ Below w.heap.size w w' := by
 obtain ⟨i0, hi, hz0, hz1, hz2⟩ := info_parts Tryz.info5
 have hx := xor_top N hN0 hN1
 have hX : (N + 9223372036854775808).toNat < 18446744073709551616 := by omega
 generalize (N + 9223372036854775808).toNat = X at *
 have z1 := alloc_size w (.cells #[.int .i64 1, .int .i64 N, .float .f64 f, .slice ad n cap] 29)
 have o5 := World.ownsRow_lit (base := w.heap.size) (e := 5) (size := 1) (w.alloc (.cells #[.int .i64 1, .int .i64 N, .float .f64 f, .slice ad n cap] 29)) #[.int .u8 1] 1 (by omega) (by unfold maxLen; omega) rfl
 have hT := two w (.cells #[.int .i64 1, .int .i64 N, .float .f64 f, .slice ad n cap] 29) (.cells #[.int .u8 1] 5)
 rw [z1] at o5
 have O5 := hid o5
 clear o5 z1
 go_enter Tryz.func124, Tryz.ntmps124
 go_wp2_with fail
 generalize (w.alloc (.cells #[.int .i64 1, .int .i64 N, .float .f64 f, .slice ad n cap] 29)).alloc (.cells #[.int .u8 1] 5) = w1 at *
 refine (spec_l3high X hX _).mono ?_
 rintro e w2 ⟨v, rfl, o2, b2⟩
 obtain ⟨ad2, cap2, rfl, r2, d2⟩ := Reads.own o2 (hi8_bd X 8)
 obtain ⟨bL, oL, rfl⟩ := r2.pos (by omega)
 have o6 := owns_below b2 (Nat.le_refl _) O5.out
 have B2 := hT.trans (b2.mono hT.size)
 have R2 := hid r2
 clear o2 d2 r2 b2 O5
 go_wp2_with (at_builtin; refine wpList_append_own _ rfl _ _ 22 rfl w.heap.size 5 i0 (.int .u8 0) 1 1 Tryz.underlying22 hi hz0 hz1 hz2 rfl (by decide) _ _ _ rfl o6 ⟨bL, oL, none⟩ 8 cap2 (bys (hi8 X 8)) rfl ?k2 R2.out.news (bys_one _) ?k4 ?k5 ?k6 ?_)
 case k2 => rw [bys_length, hi8_length]
 case k4 => unfold maxLen; omega
 case k5 => omega
 case k6 => exact B2.size
 intro v7 w7 o7 g7 _
 have B7 : Below w.heap.size w w7 := B2.grown g7 B2.size (fun k hk => (o6.lt k hk).1)
 have O7 := hid o7
 clear o7 g7 o6
 go_wp2_with fail
 go_ret
 exact ⟨_, rfl, by have := O7.out; simpa [bys] using this, B7⟩
set_option maxRecDepth 100000 in
set_option maxHeartbeats 3200000 in
theorem spec_l3bytes_text (N : Int) (f : Nat) {ad : Option Addr} {n : Nat} (cap B : Nat) (hnil : ad = none → cap = 0) {zs : List Int} {w : World} (h : Reads w ad n zs) (hn : n ≤ 2097152) :
 Calls Tryz.prog 124 #[.agg #[.int .i64 3, .int .i64 N, .float .f64 f, .slice ad n cap], .int .u64 B] w fun e w' => ∃ v, e = .returned v ∧ w'.ownsRow w.heap.size 5 1 v (1 + n) (bys ([3] ++ zs)) ∧ Below w.heap.size w w' := by
 obtain ⟨i0, hi, hz0, hz1, hz2⟩ := info_parts Tryz.info5
 have hl := h.len
 have z1 := alloc_size w (.cells #[.int .i64 3, .int .i64 N, .float .f64 f, .slice ad n cap] 29)
 have o5 := World.ownsRow_lit (base := w.heap.size) (e := 5) (size := 1) (w.alloc (.cells #[.int .i64 3, .int .i64 N, .float .f64 f, .slice ad n cap] 29)) #[.int .u8 3] 1 (by omega) (by unfold maxLen; omega) rfl
 have hT := two w (.cells #[.int .i64 3, .int .i64 N, .float .f64 f, .slice ad n cap] 29) (.cells #[.int .u8 3] 5)
 have r2 := h.below hT (Nat.le_refl _)
 rw [z1] at o5
 have zz := hT.size
 have O5 := hid o5
 have R2 := hid r2
 have HT := hid hT
 have ZZ := hid zz
 clear o5 z1 r2 hT zz
 rcases hc : ad with _ | a
 · subst hc
   obtain rfl := hnil rfl
   obtain rfl : n = 0 := by
    rcases h.cells with h0 | ⟨b, off, e, _⟩
    · exact h0
    · cases e
   obtain rfl : zs = [] := List.eq_nil_of_length_eq_zero hl
   clear h
   go_enter Tryz.func124, Tryz.ntmps124
   go_wp2_with (at_builtin; refine wpList_append_own_none rfl _ _ 22 rfl w.heap.size 5 i0 1 Tryz.underlying22 hi _ _ _ rfl O5.out rfl ?_)
   go_ret
   exact ⟨_, rfl, by have := O5.out; simpa [bys] using this, HT.out⟩
 · subst hc
   clear h
   go_enter Tryz.func124, Tryz.ntmps124
   go_wp2_with (at_builtin; refine wpList_append_own _ rfl _ _ 22 rfl w.heap.size 5 i0 (.int .u8 0) 1 1 Tryz.underlying22 hi hz0 hz1 hz2 rfl (by decide) _ _ _ rfl O5.out a n cap (bys zs) rfl ?k2 R2.out.news (bys_one _) ?k4 ?k5 ?k6 ?_)
   case k2 => simp [bys_length, hl]
   case k4 => unfold maxLen; omega
   case k5 => omega
   case k6 => omega
   intro v7 w7 o7 g7 _
   have B7 : Below w.heap.size w w7 := HT.out.grown g7 ZZ.out (fun k hk => (O5.out.lt k hk).1)
   have O7 := hid o7
   clear o7 g7
   go_wp2_with fail
   go_ret
   exact ⟨_, rfl, by have := O7.out; simpa [bys] using this, B7⟩
end Go.Proofs.YtkfhfjghfadofaaGreat
/- The contract of the specification's KeyBytes. Conditions: texts of at most 2^21 bytes. -/


namespace Go.Proofs.YtkfhfjghfadofaaGreat
open Go.RowKit
def keyB (K N : Int) (f n : Nat) (zs : List Int) : List Int := if okK K N f n = true then bytesI K N (frank f) zs else []
set_option maxRecDepth 100000 in
set_option maxHeartbeats 3200000 in
theorem spec_l3bytes (K N : Int) (f B : Nat) {ad : Option Addr} {n : Nat} (cap : Nat) (hnil : ad = none → cap = 0) {zs : List Int} {w : World} (h : Reads w ad n zs) (hn : n ≤ 2097152) (hN0 : -9223372036854775808 ≤ N) (hN1 : N ≤ 9223372036854775807) (hB : B < 18446744073709551616) (hK : K = 1 ∨ K = 2 ∨ K = 3) :
 Calls Tryz.prog 124 #[.agg #[.int .i64 K, .int .i64 N, .float .f64 f, .slice ad n cap], .int .u64 B] w fun e w' => ∃ v, e = .returned v ∧ w'.ownsRow w.heap.size 5 1 v (bytesI K N B zs).length (bys (bytesI K N B zs)) ∧ Below w.heap.size w w' := by
 rcases hK with rfl | rfl | rfl
 · have e : bytesI 1 N B zs = [1] ++ hi8 (N + 9223372036854775808).toNat 8 := by rw [bytesI, if_pos rfl]
   have hl : ([1] ++ hi8 (N + 9223372036854775808).toNat 8 : List Int).length = 9 := by simp [hi8_length]
   rw [e, hl]
   exact spec_l3bytes_int N hN0 hN1 f ad n cap B w
 · have e : bytesI 2 N B zs = [2] ++ hi8 B 8 := by rw [bytesI, if_neg (by decide), if_pos rfl]
   have hl : ([2] ++ hi8 B 8 : List Int).length = 9 := by simp [hi8_length]
   rw [e, hl]
   exact spec_l3bytes_float N f ad n cap B hB w
 · have e : bytesI 3 N B zs = [3] ++ zs := by rw [bytesI, if_neg (by decide), if_neg (by decide)]
   have hl : ([3] ++ zs : List Int).length = 1 + n := by simp [h.len]; omega
   rw [e, hl]
   exact spec_l3bytes_text N f cap B hnil h hn
set_option maxRecDepth 100000 in
set_option maxHeartbeats 3200000 in
theorem spec_KeyBytes (K N : Int) (f : Nat) {ad : Option Addr} {n : Nat} (cap : Nat) (hnil : ad = none → cap = 0) {zs : List Int} {w : World} (h : Reads w ad n zs) (hn : n ≤ 2097152) (hN0 : -9223372036854775808 ≤ N) (hN1 : N ≤ 9223372036854775807) (hf : f < 18446744073709551616) :
 Calls Tryz.prog 78 #[.agg #[.int .i64 K, .int .i64 N, .float .f64 f, .slice ad n cap]] w fun e w' => ∃ v, e = .returned v ∧ w'.ownsRow w.heap.size 5 1 v (keyB K N f n zs).length (bys (keyB K N f n zs)) ∧ Below w.heap.size w w' := by
 have hA : Below w.heap.size w (w.alloc (.cells #[.int .i64 K, .int .i64 N, .float .f64 f, .slice ad n cap] 29)) := (Below.refl _ _).alloc (Nat.le_refl _) _
 have hX := Box.new w K N f ad n cap 29
 have h0 := h.below hA (Nat.le_refl _)
 have z1 := alloc_size w (.cells #[.int .i64 K, .int .i64 N, .float .f64 f, .slice ad n cap] 29)
 have hI := spec_KeyOk K N f ad n cap hf hn
 by_cases hok : okK K N f n = true
 · have e : keyB K N f n zs = bytesI K N (frank f) zs := by rw [keyB, if_pos hok]
   rw [e]
   rw [hok] at hI
   have hK : K = 1 ∨ K = 2 ∨ K = 3 := by
    simp only [okK, okI, Bool.and_eq_true, decide_eq_true_eq] at hok
    omega
   clear e
   go_enter Tryz.func78, Tryz.ntmps78
   go_wp2_with fail
   refine (hI _).mono ?_
   rintro e w1 ⟨rfl, b1⟩
   have B1 := hA.trans (b1.mono hA.size)
   obtain ⟨c0, c1, c2, c3⟩ := hX.below b1 (by omega)
   have h1 := hid (h0.below b1 (Nat.le_refl _))
   have hr := hid (spec_FloatRank f hf)
   have hfl := frank_lt f hf
   have HB := hid (fun (W : World) (hW : Reads W ad n zs) => spec_l3bytes K N f (frank f) cap hnil hW hn hN0 hN1 hfl hK)
   have HB1 := hid B1
   have X1 := hid (hX.below b1 (by omega))
   have ZZ := hid (show w.heap.size < w1.heap.size by have := b1.size; omega)
   clear hA b1 B1 hX h0 z1 hI h hK hok hnil
   go_wp2_with fail
   go_region_held3 (fun W => W.cell? ⟨w.heap.size, 0, none⟩ = some (.int .i64 K) ∧ W.cell? ⟨w.heap.size, 1, none⟩ = some (.int .i64 N) ∧ W.cell? ⟨w.heap.size, 2, none⟩ = some (.float .f64 f) ∧ W.cell? ⟨w.heap.size, 3, none⟩ = some (.slice ad n cap)) (first | exact ⟨k0, k1, k2, k3⟩ | exact ⟨by simpa using c0, by simpa using c1, by simpa using c2, by simpa using c3⟩) (first
    | (go_at_call 125; refine (hr.out _).mono ?_; rintro e w2 ⟨rfl, rfl⟩)
    | (go_at_call 124; refine (HB.out _ (h1.out.below ((Still.drewN w1 _).below _) (Nat.le_refl _))).mono ?_; rintro e w3 ⟨v, rfl, o3, b3⟩; obtain ⟨k0, k1, k2, k3⟩ := (X1.out.below ((Still.drewN w1 _).below w1.heap.size) ZZ.out).below b3 ZZ.out))
   have B3 : Below w.heap.size w w3 := (HB1.out.trans ((Still.drewN w1 _).below _)).trans (b3.mono (by have := ZZ.out; show w.heap.size ≤ w1.heap.size; omega))
   have O3 := hid (owns_base (base' := w.heap.size) o3 (by have := ZZ.out; show w.heap.size ≤ w1.heap.size; omega))
   clear o3 b3
   go_wp2_with fail
   go_ret
   exact ⟨_, rfl, O3.out, B3⟩
 · have e : keyB K N f n zs = [] := by rw [keyB, if_neg hok]
   have hok' : okK K N f n = false := by simpa using hok
   rw [e]
   rw [hok'] at hI
   go_enter Tryz.func78, Tryz.ntmps78
   go_wp2_with fail
   refine (hI _).mono ?_
   rintro e w1 ⟨rfl, b1⟩
   have B1 := hA.trans (b1.mono hA.size)
   clear hA b1 hX h0 z1
   go_wp2_with fail
   go_ret
   exact ⟨_, rfl, World.ownsRow_nil _ _ _ _, B1⟩
end Go.Proofs.YtkfhfjghfadofaaGreat
/- Values' bytes, bytes read low and high, the bounds of keys' and values' bytes: four texts in one. -/

section
namespace Go.Proofs.YtkfhfjghfadofaaGreat
open Go.RowKit
def valB (K N : Int) (f n : Nat) (zs : List Int) : List Int := if okI K N f n = true ∧ K ≠ 0 then bytesI K N (fbits f) zs else []
set_option maxRecDepth 100000 in
set_option maxHeartbeats 3200000 in
theorem spec_ValueBytes (K N : Int) (f : Nat) {ad : Option Addr} {n : Nat} (cap : Nat) (hnil : ad = none → cap = 0) {zs : List Int} {w : World} (h : Reads w ad n zs) (hn : n ≤ 2097152) (hN0 : -9223372036854775808 ≤ N) (hN1 : N ≤ 9223372036854775807) (hf : f < 18446744073709551616) :
 Calls Tryz.prog 79 #[.agg #[.int .i64 K, .int .i64 N, .float .f64 f, .slice ad n cap]] w fun e w' => ∃ v, e = .returned v ∧ w'.ownsRow w.heap.size 5 1 v (valB K N f n zs).length (bys (valB K N f n zs)) ∧ Below w.heap.size w w' := by
 have hA : Below w.heap.size w (w.alloc (.cells #[.int .i64 K, .int .i64 N, .float .f64 f, .slice ad n cap] 29)) := (Below.refl _ _).alloc (Nat.le_refl _) _
 have hX := Box.new w K N f ad n cap 29
 have h0 := h.below hA (Nat.le_refl _)
 have z1 := alloc_size w (.cells #[.int .i64 K, .int .i64 N, .float .f64 f, .slice ad n cap] 29)
 have hI := spec_ItemOk K N f ad n cap hf hn
 by_cases hok : okI K N f n = true ∧ K ≠ 0
 · have e : valB K N f n zs = bytesI K N (fbits f) zs := by rw [valB, if_pos hok]
   rw [e]
   obtain ⟨hok1, hok2⟩ := hok
   rw [hok1] at hI
   have q : (K == 0) = false := beq_eq_false_iff_ne.2 hok2
   have hK : K = 1 ∨ K = 2 ∨ K = 3 := by
    simp only [okI, decide_eq_true_eq] at hok1
    omega
   clear e
   go_enter Tryz.func79, Tryz.ntmps79
   go_wp2_with fail
   refine (hI _).mono ?_
   rintro e w1 ⟨rfl, b1⟩
   have B1 := hA.trans (b1.mono hA.size)
   obtain ⟨c0, c1, c2, c3⟩ := hX.below b1 (by omega)
   have h1 := hid (h0.below b1 (Nat.le_refl _))
   have hr := hid (spec_FloatBits f hf)
   have hfl := fbits_lt f hf
   have HB := hid (fun (W : World) (hW : Reads W ad n zs) => spec_l3bytes K N f (fbits f) cap hnil hW hn hN0 hN1 hfl hK)
   have HB1 := hid B1
   have X1 := hid (hX.below b1 (by omega))
   have ZZ := hid (show w.heap.size < w1.heap.size by have := b1.size; omega)
   clear hA b1 B1 hX h0 z1 hI h hK hok1 hok2 hnil
   go_wp2_with fail
   go_region_held3 (fun W => W.cell? ⟨w.heap.size, 0, none⟩ = some (.int .i64 K) ∧ W.cell? ⟨w.heap.size, 1, none⟩ = some (.int .i64 N) ∧ W.cell? ⟨w.heap.size, 2, none⟩ = some (.float .f64 f) ∧ W.cell? ⟨w.heap.size, 3, none⟩ = some (.slice ad n cap)) (first | exact ⟨k0, k1, k2, k3⟩ | exact ⟨by simpa using c0, by simpa using c1, by simpa using c2, by simpa using c3⟩) (first
    | (go_at_call 62; refine (hr.out _).mono ?_; rintro e w2 ⟨rfl, rfl⟩)
    | (go_at_call 124; refine (HB.out _ (h1.out.below ((Still.drewN w1 _).below _) (Nat.le_refl _))).mono ?_; rintro e w3 ⟨v, rfl, o3, b3⟩; obtain ⟨k0, k1, k2, k3⟩ := (X1.out.below ((Still.drewN w1 _).below w1.heap.size) ZZ.out).below b3 ZZ.out))
   have B3 : Below w.heap.size w w3 := (HB1.out.trans ((Still.drewN w1 _).below _)).trans (b3.mono (by have := ZZ.out; show w.heap.size ≤ w1.heap.size; omega))
   have O3 := hid (owns_base (base' := w.heap.size) o3 (by have := ZZ.out; show w.heap.size ≤ w1.heap.size; omega))
   clear o3 b3
   go_wp2_with fail
   go_ret
   exact ⟨_, rfl, O3.out, B3⟩
 · have e : valB K N f n zs = [] := by rw [valB, if_neg hok]
   rw [e]
   clear e
   by_cases hok1 : okI K N f n = true
   · rw [hok1] at hI
     have q : (K == 0) = true := beq_iff_eq.2 (Classical.byContradiction fun e => hok ⟨hok1, e⟩)
     go_enter Tryz.func79, Tryz.ntmps79
     go_wp2_with fail
     refine (hI _).mono ?_
     rintro e w1 ⟨rfl, b1⟩
     have B1 := hA.trans (b1.mono hA.size)
     obtain ⟨c0, c1, c2, c3⟩ := hX.below b1 (by omega)
     clear hA b1 hX h0 z1
     go_wp2_with fail
     go_ret
     exact ⟨_, rfl, World.ownsRow_nil _ _ _ _, B1⟩
   · have hok' : okI K N f n = false := by simpa using hok1
     rw [hok'] at hI
     go_enter Tryz.func79, Tryz.ntmps79
     go_wp2_with fail
     refine (hI _).mono ?_
     rintro e w1 ⟨rfl, b1⟩
     have B1 := hA.trans (b1.mono hA.size)
     clear hA b1 hX h0 z1
     go_wp2_with fail
     go_ret
     exact ⟨_, rfl, World.ownsRow_nil _ _ _ _, B1⟩
end Go.Proofs.YtkfhfjghfadofaaGreat
end
section
namespace Go.Proofs.YtkfhfjghfadofaaGreat
open Go.RowKit
def low (zs : List Int) : Nat := zs.foldl (fun x b => (x * 256 + b.toNat) % 18446744073709551616) 0
theorem low_lt : ∀ (zs : List Int) (x : Nat), x < 18446744073709551616 → zs.foldl (fun x b => (x * 256 + b.toNat) % 18446744073709551616) x < 18446744073709551616
 | [], _, h => h
 | b :: zs, x, _ => low_lt zs _ (Nat.mod_lt _ (by omega))
theorem low_step (zs : List Int) (k : Nat) (h : k < zs.length) : low (zs.take (k + 1)) = (low (zs.take k) * 256 + (zs.getD k 0).toNat) % 18446744073709551616 := by
 unfold low
 rw [List.take_add_one, List.getElem?_eq_getElem h, Option.toList_some, List.foldl_append]
 simp [List.getD, h]
theorem or_shl (x b : Nat) (hb : b < 256) : bits .or .u64 (IntKind.u64.wrap ((x : Int) * 256)) (b : Int) = (((x * 256 + b) % 18446744073709551616 : Nat) : Int) := by
 have e : IntKind.u64.wrap ((x : Int) * 256) = ((x * 256 % 18446744073709551616 : Nat) : Int) := by simp [IntKind.wrap, IntKind.bits, IntKind.signed]
 rw [e, u64_or_nat _ _ (Nat.mod_lt _ (by omega)) (by omega), nat_join 8 _ _ (by omega) (by omega)]
 congr 1
 omega
set_option maxRecDepth 100000 in
set_option maxHeartbeats 1600000 in
theorem spec_l3low {ad : Option Addr} {n : Nat} (cap : Nat) {zs : List Int} {w : World} (h : Reads w ad n zs) (hn : n ≤ 2097152) :
 Calls Tryz.prog 140 #[.slice ad n cap] w fun e w' => e = .returned (.int .u64 (low zs : Int)) ∧ w' = w := by
 have hl := h.len
 go_enter Tryz.func140, Tryz.ntmps140
 go_wp2
 go_loopw [3, 4] (fun s i wr => ∃ k x : Nat, k ≤ n ∧ s = .int .u64 (x : Int) ∧ i = .int .i64 k ∧ x < 18446744073709551616 ∧ Hid (x = low (zs.take k)) ∧ wr = w) (fun _ i _ => n - (intOf i).toNat)
 case atStart => exact ⟨0, 0, Nat.zero_le _, rfl, rfl, by omega, hid (by rw [List.take_zero]; rfl), rfl⟩
 case round =>
  obtain ⟨k, x, hk, rfl, rfl, hx, HX, rfl⟩ := hrel
  by_cases hlt : k < n
  · rcases h.cells with h0 | ⟨b, off, rfl, hc⟩
    · omega
    have c1 := hc k hlt
    have hb := h.bd k
    have HS := hid (low_step zs k (by omega))
    obtain ⟨y, hy⟩ := Int.eq_ofNat_of_zero_le hb.1
    have HY := hid hy
    rw [hy] at c1 hb
    have ho := or_shl x y (by omega)
    have hlt' : (k : Int) < (n : Int) := by omega
    have hk0 : (0 : Int) ≤ (k : Int) := by omega
    have hxx : (x * 256 + y) % 18446744073709551616 < 18446744073709551616 := Nat.mod_lt _ (by omega)
    obtain ⟨q, hq⟩ : ∃ q, Hid ((x * 256 + y) % 18446744073709551616 = q) := ⟨_, rfl⟩
    have hq' := hq.out
    rw [hq'] at ho hxx
    clear hc hy hq'
    go_wp2
    go_roundw
    case rel => exact ⟨k + 1, q, by omega, rfl, by go_num, hxx, hid (by rw [HS.out, ← HX.out, HY.out, Int.toNat_natCast, hq.out]), by first | trivial | rfl⟩
    case measure => simp [intOf]; omega
  · have hk8 : k = n := by omega
    have HK := hid hk8
    have hge : ¬ (k : Int) < (n : Int) := by omega
    go_wp2
    go_ret
    exact ⟨by rw [HX.out, HK.out, List.take_of_length_le (by omega)]; rfl, rfl⟩
end Go.Proofs.YtkfhfjghfadofaaGreat
end
section
namespace Go.Proofs.YtkfhfjghfadofaaGreat
open Go.RowKit
theorem own_nil {w : World} {base : Nat} {e : TypeId} {s n m cap : Nat} {ad : Option Addr} {xs : List Value} (h : w.ownsRow base e s (.slice ad n cap) m xs) : ad = none → cap = 0 := by
 intro hn
 rcases h.2 with ⟨h1, _⟩ | ⟨g, c, cur, h1, _⟩
 · exact (Value.slice.inj h1).2.2
 · rw [hn] at h1; cases (Value.slice.inj h1).1
theorem bytesI_bd (K N : Int) (B : Nat) (zs : List Int) (h0 : 0 ≤ K) (h1 : K ≤ 255) (hz : ∀ i, 0 ≤ zs.getD i 0 ∧ zs.getD i 0 ≤ 255) (hl : zs.length ≤ 1048576) : (∀ i, 0 ≤ (bytesI K N B zs).getD i 0 ∧ (bytesI K N B zs).getD i 0 ≤ 255) ∧ (bytesI K N B zs).length ≤ 2097152 := by
 have key : ∀ ts : List Int, (∀ i, 0 ≤ ts.getD i 0 ∧ ts.getD i 0 ≤ 255) → ts.length ≤ 1048576 → (∀ i, 0 ≤ ([K] ++ ts).getD i 0 ∧ ([K] ++ ts).getD i 0 ≤ 255) ∧ ([K] ++ ts).length ≤ 2097152 := by
  intro ts h hl
  refine ⟨fun i => ?_, by simp; omega⟩
  match i with
  | 0 => exact ⟨h0, h1⟩
  | i + 1 => exact h i
 unfold bytesI
 apply key
 · intro i
   split
   · exact hi8_bd _ _ i
   · split
     · exact hi8_bd _ _ i
     · exact hz i
 · split
   · rw [hi8_length]; omega
   · split
     · rw [hi8_length]; omega
     · exact hl
theorem nil_bd : (∀ i, 0 ≤ ([] : List Int).getD i 0 ∧ ([] : List Int).getD i 0 ≤ 255) ∧ ([] : List Int).length ≤ 2097152 := ⟨fun i => by simp, by simp⟩
theorem okI_K {K N : Int} {f n : Nat} (h : okI K N f n = true) : 0 ≤ K ∧ K ≤ 3 := by
 have := of_decide_eq_true h
 omega
theorem okK_I {K N : Int} {f n : Nat} (h : okK K N f n = true) : okI K N f n = true ∧ K ≠ 0 ∧ f ≠ 9223372036854775808 := by
 unfold okK at h
 rw [Bool.and_eq_true] at h
 exact ⟨h.1, of_decide_eq_true h.2⟩
theorem keyB_bd {K N : Int} {f n : Nat} {zs RZ : List Int} (hR : keyB K N f n zs = RZ) (hz : ∀ i, 0 ≤ zs.getD i 0 ∧ zs.getD i 0 ≤ 255) (hl : zs.length ≤ 1048576) : (∀ i, 0 ≤ RZ.getD i 0 ∧ RZ.getD i 0 ≤ 255) ∧ RZ.length ≤ 2097152 := by
 subst hR
 unfold keyB
 split
 · rename_i h
   have hk := okI_K (okK_I h).1
   exact bytesI_bd K N _ zs hk.1 (by omega) hz hl
 · exact nil_bd
theorem valB_bd {K N : Int} {f n : Nat} {zs RZ : List Int} (hR : valB K N f n zs = RZ) (hz : ∀ i, 0 ≤ zs.getD i 0 ∧ zs.getD i 0 ≤ 255) (hl : zs.length ≤ 1048576) : (∀ i, 0 ≤ RZ.getD i 0 ∧ RZ.getD i 0 ≤ 255) ∧ RZ.length ≤ 2097152 := by
 subst hR
 unfold valB
 split
 · rename_i h
   have hk := okI_K h.1
   exact bytesI_bd K N _ zs hk.1 (by omega) hz hl
 · exact nil_bd
end Go.Proofs.YtkfhfjghfadofaaGreat
end
section
namespace Go.Proofs.YtkfhfjghfadofaaGreat
open Go.RowKit
theorem eight {zs : List Int} (h : zs.length = 8) : ∃ a b c d e f g i, zs = [a, b, c, d, e, f, g, i] := by
 match zs, h with
 | [a, b, c, d, e, f, g, i], _ => exact ⟨a, b, c, d, e, f, g, i, rfl⟩
theorem low_eight (a b c d e f g i : Nat) (ha : a < 256) (hb : b < 256) (hc : c < 256) (hd : d < 256) (he : e < 256) (hf : f < 256) (hg : g < 256) (hi : i < 256) :
 low [(a : Int), b, c, d, e, f, g, i] = a * 72057594037927936 + b * 281474976710656 + c * 1099511627776 + d * 4294967296 + e * 16777216 + f * 65536 + g * 256 + i := by
 simp only [low, List.foldl_cons, List.foldl_nil, Int.toNat_natCast]
 omega
theorem hi8_low {zs : List Int} (h : zs.length = 8) (hB : ∀ i, 0 ≤ zs.getD i 0 ∧ zs.getD i 0 ≤ 255) : hi8 (low zs) 8 = zs := by
 obtain ⟨a, b, c, d, e, f, g, i, rfl⟩ := eight h
 have b0 := hB 0
 have b1 := hB 1
 have b2 := hB 2
 have b3 := hB 3
 have b4 := hB 4
 have b5 := hB 5
 have b6 := hB 6
 have b7 := hB 7
 simp only [List.getD_cons_zero, List.getD_cons_succ] at b0 b1 b2 b3 b4 b5 b6 b7
 obtain ⟨a, rfl⟩ := Int.eq_ofNat_of_zero_le b0.1
 obtain ⟨b, rfl⟩ := Int.eq_ofNat_of_zero_le b1.1
 obtain ⟨c, rfl⟩ := Int.eq_ofNat_of_zero_le b2.1
 obtain ⟨d, rfl⟩ := Int.eq_ofNat_of_zero_le b3.1
 obtain ⟨e, rfl⟩ := Int.eq_ofNat_of_zero_le b4.1
 obtain ⟨f, rfl⟩ := Int.eq_ofNat_of_zero_le b5.1
 obtain ⟨g, rfl⟩ := Int.eq_ofNat_of_zero_le b6.1
 obtain ⟨i, rfl⟩ := Int.eq_ofNat_of_zero_le b7.1
 rw [low_eight a b c d e f g i (by omega) (by omega) (by omega) (by omega) (by omega) (by omega) (by omega) (by omega)]
 have hr : List.range 8 = [0, 1, 2, 3, 4, 5, 6, 7] := by decide
 rw [hi8, hr]
 simp only [List.map_cons, List.map_nil, hb]
 simp only [show 8 * (7 - 0) = 56 from rfl, show 8 * (7 - 1) = 48 from rfl, show 8 * (7 - 2) = 40 from rfl, show 8 * (7 - 3) = 32 from rfl, show 8 * (7 - 4) = 24 from rfl, show 8 * (7 - 5) = 16 from rfl, show 8 * (7 - 6) = 8 from rfl, show 8 * (7 - 7) = 0 from rfl, List.cons.injEq, and_true]
 refine ⟨?_, ?_, ?_, ?_, ?_, ?_, ?_, ?_⟩ <;> omega
theorem low_hi8 (x : Nat) (hx : x < 18446744073709551616) : low (hi8 x 8) = x := by
 have hr : List.range 8 = [0, 1, 2, 3, 4, 5, 6, 7] := by decide
 rw [hi8, hr]
 simp only [List.map_cons, List.map_nil, hb]
 rw [low_eight _ _ _ _ _ _ _ _ (by omega) (by omega) (by omega) (by omega) (by omega) (by omega) (by omega) (by omega)]
 simp only [show 8 * (7 - 0) = 56 from rfl, show 8 * (7 - 1) = 48 from rfl, show 8 * (7 - 2) = 40 from rfl, show 8 * (7 - 3) = 32 from rfl, show 8 * (7 - 4) = 24 from rfl, show 8 * (7 - 5) = 16 from rfl, show 8 * (7 - 6) = 8 from rfl, show 8 * (7 - 7) = 0 from rfl]
 omega
end Go.Proofs.YtkfhfjghfadofaaGreat
end
/- Eight bytes, high first: the program's putHighFirst. -/


namespace Go.Proofs.YtkfhfjghfadofaaGreat
open Go.RowKit
def hiP (x k : Nat) : List Value := List.replicate (8 - k) (Value.int .u8 0) ++ bys ((hi8 x 8).drop (8 - k))
theorem hiP_step (x k : Nat) (h : k < 8) : (hiP x k).set (7 - k) (.int .u8 (hb x (7 - k))) = hiP x (k + 1) := by
 match k, h with
 | 0, _ => rfl
 | 1, _ => rfl
 | 2, _ => rfl
 | 3, _ => rfl
 | 4, _ => rfl
 | 5, _ => rfl
 | 6, _ => rfl
 | 7, _ => rfl
theorem hiP_cell (x k : Nat) (h : k < 8) : (hiP x k)[7 - k]? = some (.int .u8 0) := by
 match k, h with
 | 0, _ => rfl
 | 1, _ => rfl
 | 2, _ => rfl
 | 3, _ => rfl
 | 4, _ => rfl
 | 5, _ => rfl
 | 6, _ => rfl
 | 7, _ => rfl
theorem hb_sh (x k : Nat) (h : k < 8) : hb x (7 - k) = ((x / 256 ^ k : Nat) : Int) % 256 := by
 unfold hb
 rw [show 7 - (7 - k) = k by omega, Nat.pow_mul]
 show ((x / 256 ^ k % 256 : Nat) : Int) = _
 omega
theorem sh_next (x k : Nat) : x / 256 ^ (k + 1) = x / 256 ^ k / 256 := by
 rw [Nat.pow_succ, Nat.div_div_eq_div_mul]
set_option maxRecDepth 100000 in
set_option maxHeartbeats 1600000 in
theorem impl_putHigh (x : Nat) (hx : x < 18446744073709551616) (w : World) :
 Calls Tryz.prog 201 #[.int .u64 x] w fun e w' => ∃ v, e = .returned v ∧ w'.ownsRow w.heap.size 5 1 v 8 (bys (hi8 x 8)) ∧ Below w.heap.size w w' := by
 obtain ⟨i0, hi, hz0, hz1, hz2⟩ := info_parts Tryz.info5
 go_enter Tryz.func201, Tryz.ntmps201
 go_wp2_with (at_make; refine wpList_make_full _ rfl _ _ 22 rfl w.heap.size 5 i0 (.int .u8 0) 1 Tryz.underlying22 hi hz0 hz1 _ _ _ _ 8 rfl rfl (by omega) (by omega) ?b2 ?b3 (Nat.le_refl _) ?_)
 case b2 => rw [hz2]; omega
 case b3 => unfold maxLen; omega
 intro w0 hown0 hgrow0
 go_wp2
 go_loopw [0, 4, 8] (fun r _ i wr => ∃ k m : Nat, k ≤ 8 ∧ i = .int .i64 k ∧ r = .int .u64 (m : Nat) ∧ Hid (m = x / 256 ^ k) ∧ m < 18446744073709551616 ∧ wr.ownsRow w.heap.size 5 1 (.slice (some ⟨w.heap.size, 0, none⟩) 8 8) 8 (hiP x k) ∧ Below w.heap.size w wr)
  (fun _ _ i _ => 8 - (intOf i).toNat)
 case atStart =>
  refine ⟨0, x, Nat.zero_le _, rfl, rfl, hid (by simp), hx, ?_, (Below.refl _ _).grown hgrow0 (Nat.le_refl _) (fun k h => by cases h)⟩
  rw [toList_madeCells_one] at hown0
  rw [show hiP x 0 = List.replicate 8 (Value.int .u8 0) from rfl]
  exact hown0
 case round =>
  obtain ⟨k, m, hk, rfl, rfl, HM, hm, hown, hnx⟩ := hrel
  by_cases hlt : k < 8
  · have HS := hid (sh_next x k)
    have hcy : wr.cell? ⟨w.heap.size, 7 - k, none⟩ = some (.int .u8 0) := by
     rw [hown.cellAt (7 - k) (by omega), hiP_cell x k hlt]
    have hfr : wr.frozen? ⟨w.heap.size, 7 - k, none⟩ = false := hown.frozenAt (7 - k)
    have R := hown.stored (7 - k) (.int .u8 ((m : Int) % 256))
    rw [show (Value.int .u8 ((m : Int) % 256)) = .int .u8 (hb x (7 - k)) by rw [hb_sh x k hlt, HM.out], hiP_step x k hlt] at R
    rw [show (Value.int .u8 (hb x (7 - k))) = .int .u8 ((m : Int) % 256) by rw [hb_sh x k hlt, HM.out]] at R
    obtain ⟨j, hj⟩ : ∃ j, 7 - k = j := ⟨_, rfl⟩
    have ej : (7 : Int) - (k : Int) = (j : Int) := by omega
    rw [hj] at hcy hfr R
    have hj7 : (j : Int) < 8 := by omega
    have hj0 : (0 : Int) ≤ (j : Int) := by omega
    have R1 := hid R
    have hk0 : (0 : Int) ≤ (k : Int) := by omega
    have hk8 : (k : Int) < 8 := by omega
    clear R hown hj
    go_wp2
    go_roundw
    case rel => exact ⟨k + 1, m / 256, by omega, by go_num, by go_num, hid (by rw [HS.out, ← HM.out]), by omega, R1.out.1, hnx.setCell (Nat.le_refl _) _⟩
    case measure => simp [intOf]; omega
  · obtain rfl : k = 8 := by omega
    have hown' : wr.ownsRow w.heap.size 5 1 (.slice (some ⟨w.heap.size, 0, none⟩) 8 8) 8 (bys (hi8 x 8)) := hown
    have O := hid hown'
    clear hown hown'
    go_wp2
    go_ret
    exact ⟨_, rfl, O.out, hnx⟩
end Go.Proofs.YtkfhfjghfadofaaGreat
/- An item in a block of its own, and its text. -/

namespace Go.Proofs.YtkfhfjghfadofaaGreat
open Go.RowKit
structure Arg (w : World) (g : Nat) (K N : Int) (f : Nat) (ad : Option Addr) (n cap : Nat) (zs : List Int) : Prop where
 box : Box w g K N f ad n cap
 reads : Reads w ad n zs
 lt : g < w.heap.size
theorem Arg.below {w w' : World} {g : Nat} {K N : Int} {f : Nat} {ad : Option Addr} {n cap : Nat} {zs : List Int} (a : Arg w g K N f ad n cap zs) {B : Nat} (h : Below B w w') (hB : w.heap.size ≤ B) : Arg w' g K N f ad n cap zs :=
 ⟨a.box.below h (Nat.lt_of_lt_of_le a.lt hB), a.reads.below h hB, Nat.lt_of_lt_of_le a.lt h.size⟩
theorem Arg.alloc {w : World} {g : Nat} {K N : Int} {f : Nat} {ad : Option Addr} {n cap : Nat} {zs : List Int} (a : Arg w g K N f ad n cap zs) (o : Obj) : Arg (w.alloc o) g K N f ad n cap zs :=
 a.below ((Below.refl w.heap.size w).alloc (Nat.le_refl _) o) (Nat.le_refl _)
theorem Reads.alloc {w : World} {ad : Option Addr} {n : Nat} {zs : List Int} (h : Reads w ad n zs) (o : Obj) : Reads (w.alloc o) ad n zs :=
 h.below ((Below.refl w.heap.size w).alloc (Nat.le_refl _) o) (Nat.le_refl _)
theorem Arg.new {w : World} (K N : Int) (f : Nat) {ad : Option Addr} {n : Nat} (cap : Nat) {zs : List Int} (h : Reads w ad n zs) (t : TypeId) (g : Nat) (hg : g = w.heap.size) : Arg (w.alloc (.cells #[.int .i64 K, .int .i64 N, .float .f64 f, .slice ad n cap] t)) g K N f ad n cap zs := by
 subst hg
 exact ⟨Box.new w K N f ad n cap t, h.alloc _, by rw [alloc_size]; omega⟩
end Go.Proofs.YtkfhfjghfadofaaGreat
/- The contract of the specification's l3copy. Conditions: texts of at most 2^21 bytes. -/

namespace Go.Proofs.YtkfhfjghfadofaaGreat
open Go.RowKit
theorem three_first (w : World) (a b c : Obj) : (((w.alloc a).alloc b).alloc c).heap[w.heap.size]? = some a := by
 have h1 := alloc_size w a
 have h2 := alloc_size (w.alloc a) b
 rw [alloc_old _ _ _ (by omega), alloc_old _ _ _ (by omega)]
 exact heap_alloc_new w a
end Go.Proofs.YtkfhfjghfadofaaGreat
/- The contract of the specification's ItemClean. Conditions: texts of at most 2^21 bytes. -/

namespace Go.Proofs.YtkfhfjghfadofaaGreat
open Go.RowKit
end Go.Proofs.YtkfhfjghfadofaaGreat
/- What an item holds, behind an interface: contentOf, and the methods of the kinds. -/



namespace Go.Proofs.YtkfhfjghfadofaaGreat
open Go.RowKit
set_option maxRecDepth 100000 in
theorem contentOf_int (N : Int) (f : Nat) (ad : Option Addr) (n cap : Nat) (w : World) :
 Calls Tryz.prog 172 #[.agg #[.int .i64 1, .int .i64 N, .float .f64 f, .slice ad n cap]] w fun e w' => e = .returned (.iface 189 (.int .i64 N)) ∧ Below w.heap.size w w' := by
 have HA := hid (Below.alloc1 w (.cells #[.int .i64 1, .int .i64 N, .float .f64 f, .slice ad n cap] 29))
 go_enter Tryz.func172, Tryz.ntmps172
 go_wp2
 go_ret
 exact ⟨rfl, HA.out⟩
set_option maxRecDepth 100000 in
theorem contentOf_float (N : Int) (f : Nat) (ad : Option Addr) (n cap : Nat) (w : World) :
 Calls Tryz.prog 172 #[.agg #[.int .i64 2, .int .i64 N, .float .f64 f, .slice ad n cap]] w fun e w' => e = .returned (.iface 190 (.float .f64 f)) ∧ Below w.heap.size w w' := by
 have HA := hid (Below.alloc1 w (.cells #[.int .i64 2, .int .i64 N, .float .f64 f, .slice ad n cap] 29))
 go_enter Tryz.func172, Tryz.ntmps172
 go_wp2
 go_ret
 exact ⟨rfl, HA.out⟩
set_option maxRecDepth 100000 in
theorem contentOf_text (N : Int) (f : Nat) (ad : Option Addr) (n cap : Nat) (w : World) :
 Calls Tryz.prog 172 #[.agg #[.int .i64 3, .int .i64 N, .float .f64 f, .slice ad n cap]] w fun e w' => e = .returned (.iface 191 (.slice ad n cap)) ∧ Below w.heap.size w w' := by
 have HA := hid (Below.alloc1 w (.cells #[.int .i64 3, .int .i64 N, .float .f64 f, .slice ad n cap] 29))
 go_enter Tryz.func172, Tryz.ntmps172
 go_wp2
 go_ret
 exact ⟨rfl, HA.out⟩
theorem key_text (ad : Option Addr) (n cap : Nat) (w : World) :
 Calls Tryz.prog 206 #[.slice ad n cap] w fun e w' => e = .returned (.slice ad n cap) ∧ w' = w := by
 go_enter Tryz.func206, Tryz.ntmps206
 go_wp2
 go_ret
 exact ⟨rfl, rfl⟩
theorem val_text (ad : Option Addr) (n cap : Nat) (w : World) :
 Calls Tryz.prog 207 #[.slice ad n cap] w fun e w' => e = .returned (.slice ad n cap) ∧ w' = w := by
 go_enter Tryz.func207, Tryz.ntmps207
 go_wp2_with fail
 refine (key_text ad n cap _).mono ?_
 rintro e w1 ⟨rfl, rfl⟩
 go_wp2_with fail
 go_ret
 exact ⟨rfl, rfl⟩
theorem lift_wrap (N : Int) (h0 : -9223372036854775808 ≤ N) (h1 : N ≤ 9223372036854775807) : IntKind.u64.wrap (IntKind.u64.wrap N + 9223372036854775808) = (((N + 9223372036854775808).toNat : Nat) : Int) := by
 simp [IntKind.wrap, IntKind.bits, IntKind.signed]
 omega
set_option maxRecDepth 100000 in
theorem key_int (N : Int) (h0 : -9223372036854775808 ≤ N) (h1 : N ≤ 9223372036854775807) (w : World) :
 Calls Tryz.prog 199 #[.int .i64 N] w fun e w' => ∃ v, e = .returned v ∧ w'.ownsRow w.heap.size 5 1 v 8 (bys (hi8 (N + 9223372036854775808).toNat 8)) ∧ Below w.heap.size w w' := by
 have hw := lift_wrap N h0 h1
 have hX : (N + 9223372036854775808).toNat < 18446744073709551616 := by omega
 generalize (N + 9223372036854775808).toNat = x at *
 clear h0 h1
 go_enter Tryz.func199, Tryz.ntmps199
 go_wp2_with fail
 refine (impl_putHigh x hX _).mono ?_
 rintro e w1 ⟨v, rfl, o, b⟩
 have O := hid o
 have B := hid b
 clear o b
 go_wp2_with fail
 go_ret
 exact ⟨_, rfl, O.out, B.out⟩
set_option maxRecDepth 100000 in
theorem val_int (N : Int) (h0 : -9223372036854775808 ≤ N) (h1 : N ≤ 9223372036854775807) (w : World) :
 Calls Tryz.prog 200 #[.int .i64 N] w fun e w' => ∃ v, e = .returned v ∧ w'.ownsRow w.heap.size 5 1 v 8 (bys (hi8 (N + 9223372036854775808).toNat 8)) ∧ Below w.heap.size w w' := by
 go_enter Tryz.func200, Tryz.ntmps200
 go_wp2_with fail
 refine (key_int N h0 h1 _).mono ?_
 rintro e w1 ⟨v, rfl, o, b⟩
 have O := hid o
 have B := hid b
 clear o b
 go_wp2_with fail
 go_ret
 exact ⟨_, rfl, O.out, B.out⟩
set_option maxRecDepth 100000 in
theorem key_float (f : Nat) (hf : f < 18446744073709551616) (w : World) :
 Calls Tryz.prog 203 #[.float .f64 f] w fun e w' => ∃ v, e = .returned v ∧ w'.ownsRow w.heap.size 5 1 v 8 (bys (hi8 (frank f) 8)) ∧ Below w.heap.size w w' := by
 go_enter Tryz.func203, Tryz.ntmps203
 go_wp2_with fail
 refine (impl_FloatRank f hf _).mono ?_
 rintro e w0 ⟨rfl, rfl⟩
 go_wp2_with fail
 refine (impl_putHigh (frank f) (frank_lt f hf) _).mono ?_
 rintro e w1 ⟨v, rfl, o, b⟩
 have O := hid o
 have B := hid b
 clear o b
 go_wp2_with fail
 go_ret
 exact ⟨_, rfl, O.out, B.out⟩
set_option maxRecDepth 100000 in
theorem val_float (f : Nat) (hf : f < 18446744073709551616) (w : World) :
 Calls Tryz.prog 204 #[.float .f64 f] w fun e w' => ∃ v, e = .returned v ∧ w'.ownsRow w.heap.size 5 1 v 8 (bys (hi8 (fbits f) 8)) ∧ Below w.heap.size w w' := by
 go_enter Tryz.func204, Tryz.ntmps204
 go_wp2_with fail
 refine (impl_FloatBits f hf _).mono ?_
 rintro e w0 ⟨rfl, rfl⟩
 go_wp2_with fail
 refine (impl_putHigh (fbits f) (fbits_lt f hf) _).mono ?_
 rintro e w1 ⟨v, rfl, o, b⟩
 have O := hid o
 have B := hid b
 clear o b
 go_wp2_with fail
 go_ret
 exact ⟨_, rfl, O.out, B.out⟩
end Go.Proofs.YtkfhfjghfadofaaGreat
/- The library's Clone, and itemOf: a content turned back into an item. -/



namespace Go.Proofs.YtkfhfjghfadofaaGreat
open Go.RowKit
theorem eql_none (c : Nat) (w : World) : (binOp .eql 22 (.slice none 0 c) (.slice none 0 0)).run Tryz.prog w = .ok (.bool true) w := by kernel_rfl
theorem eql_some (a : Addr) (n c : Nat) (w : World) : (binOp .eql 22 (.slice (some a) n c) (.slice none 0 0)).run Tryz.prog w = .ok (.bool false) w := by kernel_rfl
theorem as_int_int (v : Value) (w : World) : (Instr.typeAssert (.iface 189 v) 178 189 true).run Tryz.prog w = .ok (.tuple #[v, .bool true]) w := by kernel_rfl
theorem as_float_int (v : Value) (w : World) : (Instr.typeAssert (.iface 190 v) 178 189 true).run Tryz.prog w = .ok (.tuple #[.int .i64 0, .bool false]) w := by kernel_rfl
theorem as_text_int (v : Value) (w : World) : (Instr.typeAssert (.iface 191 v) 178 189 true).run Tryz.prog w = .ok (.tuple #[.int .i64 0, .bool false]) w := by kernel_rfl
theorem as_float_float (v : Value) (w : World) : (Instr.typeAssert (.iface 190 v) 178 190 true).run Tryz.prog w = .ok (.tuple #[v, .bool true]) w := by kernel_rfl
theorem as_text_float (v : Value) (w : World) : (Instr.typeAssert (.iface 191 v) 178 190 true).run Tryz.prog w = .ok (.tuple #[.float .f64 0, .bool false]) w := by kernel_rfl
theorem as_text_text (v : Value) (w : World) : (Instr.typeAssert (.iface 191 v) 178 191 true).run Tryz.prog w = .ok (.tuple #[v, .bool true]) w := by kernel_rfl
set_option maxRecDepth 100000 in
set_option maxHeartbeats 1600000 in
theorem bytes_clone {ad : Option Addr} {n : Nat} (cap : Nat) {zs : List Int} {w : World} (h : Reads w ad n zs) (hn : n ≤ 2097152) :
 Calls Tryz.prog 181 #[.slice ad n cap] w fun e w' => ∃ v, e = .returned v ∧ w'.ownsRow w.heap.size 5 1 v n (bys zs) ∧ Below w.heap.size w w' := by
 obtain ⟨i0, hi, hz0, hz1, hz2⟩ := info_parts Tryz.info5
 have hl := h.len
 have o5 := World.ownsRow_lit (base := w.heap.size) (e := 5) (size := 1) w #[] 0 (Nat.le_refl _) (Nat.zero_le _) rfl
 have r2 := h.alloc (.cells #[] 5)
 have O5 := hid o5
 have HR := hid r2
 clear o5 r2
 rcases hc : ad with _ | a
 · subst hc
   obtain rfl : n = 0 := by
    rcases h.cells with h0 | ⟨b, off, e, _⟩
    · exact h0
    · cases e
   obtain rfl : zs = [] := List.eq_nil_of_length_eq_zero hl
   clear h HR O5
   have q := eql_none
   go_enter Tryz.func181, Tryz.ntmps181
   go_wp2_with fail
   go_ret
   exact ⟨_, rfl, World.ownsRow_nil _ _ _ _, Below.refl _ _⟩
 · subst hc
   clear h
   have q := eql_some
   go_enter Tryz.func181, Tryz.ntmps181
   go_wp2_with (at_builtin; refine wpList_append_own _ rfl _ _ 22 rfl w.heap.size 5 i0 (.int .u8 0) 1 1 Tryz.underlying22 hi hz0 hz1 hz2 rfl (by decide) _ _ _ rfl O5.out a n cap (bys zs) rfl ?k2 HR.out.news (bys_one _) ?k4 ?k5 ?k6 ?_)
   case k2 => simp [bys_length, hl]
   case k4 => unfold maxLen; omega
   case k5 => omega
   intro v7 w7 o7 g7 _
   have o8 : w7.ownsRow w.heap.size 5 1 v7 n (bys zs) := by simpa using o7
   have B7 : Below w.heap.size w w7 := (Below.alloc1 w _).grown g7 (by simp) (fun k hk => (O5.out.lt k hk).1)
   have H8 := hid o8
   clear o7 o8 g7 O5 HR
   go_wp2_with fail
   go_ret
   exact ⟨_, rfl, H8.out, B7⟩
set_option maxRecDepth 100000 in
theorem itemOf_int (N : Int) (w : World) :
 Calls Tryz.prog 176 #[.iface 189 (.int .i64 N)] w fun e w' => e = .returned (.agg #[.int .i64 1, .int .i64 N, .float .f64 0, .slice none 0 0]) ∧ Below w.heap.size w w' := by
 have hst := fun w a m => run_store Tryz.prog w a (.float .f64 0) m rfl
 have R := heap_alloc_new w (.cells #[.int .i64 1, .int .i64 N, .float .f64 0, .slice none 0 0] 29)
 have HB := hid (Below.alloc1 w (.cells #[.int .i64 1, .int .i64 N, .float .f64 0, .slice none 0 0] 29))
 have HR := hid R
 clear R
 have q0 := as_int_int
 go_enter Tryz.func176, Tryz.ntmps176
 go_wp2_with fail
 exact bodyPost_ret (results_cell_row Tryz.results176 _ _ w.heap.size 29 _ (0, 0) _ rfl HR.out Tryz.underlying29 rfl size29) rfl ⟨rfl, HB.out⟩
set_option maxRecDepth 100000 in
theorem itemOf_float (f : Nat) (w : World) :
 Calls Tryz.prog 176 #[.iface 190 (.float .f64 f)] w fun e w' => e = .returned (.agg #[.int .i64 2, .int .i64 0, .float .f64 f, .slice none 0 0]) ∧ Below w.heap.size w w' := by
 have hst := fun w a m => run_store Tryz.prog w a (.float .f64 f) m rfl
 have R := heap_alloc_new w (.cells #[.int .i64 2, .int .i64 0, .float .f64 f, .slice none 0 0] 29)
 have HB := hid (Below.alloc1 w (.cells #[.int .i64 2, .int .i64 0, .float .f64 f, .slice none 0 0] 29))
 have HR := hid R
 clear R
 have q0 := as_float_int
 have q1 := as_float_float
 go_enter Tryz.func176, Tryz.ntmps176
 go_wp2_with fail
 exact bodyPost_ret (results_cell_row Tryz.results176 _ _ w.heap.size 29 _ (0, 0) _ rfl HR.out Tryz.underlying29 rfl size29) rfl ⟨rfl, HB.out⟩
set_option maxRecDepth 100000 in
set_option maxHeartbeats 1600000 in
theorem itemOf_text {ad : Option Addr} {n : Nat} (cap : Nat) {zs : List Int} {w : World} (h : Reads w ad n zs) (hn : n ≤ 2097152) :
 Calls Tryz.prog 176 #[.iface 191 (.slice ad n cap)] w fun e w' => ∃ v, e = .returned (.agg #[.int .i64 3, .int .i64 0, .float .f64 0, v]) ∧ w'.ownsRow w.heap.size 5 1 v n (bys zs) ∧ Below w.heap.size w w' := by
 have hst := fun w a m => run_store Tryz.prog w a (.float .f64 0) m rfl
 have hbd := h.bd
 have R := heap_alloc_new w (.cells #[.int .i64 0, .int .i64 0, .float .f64 0, .slice none 0 0] 29)
 have HB := hid (Below.alloc1 w (.cells #[.int .i64 0, .int .i64 0, .float .f64 0, .slice none 0 0] 29))
 have h1 := h.alloc (.cells #[.int .i64 0, .int .i64 0, .float .f64 0, .slice none 0 0] 29)
 have HZ := hid (alloc_size w (.cells #[.int .i64 0, .int .i64 0, .float .f64 0, .slice none 0 0] 29))
 have HR := hid R
 clear R h
 have q0 := as_text_int
 have q1 := as_text_float
 have q2 := as_text_text
 go_enter Tryz.func176, Tryz.ntmps176
 go_wp2_with fail
 refine (bytes_clone cap h1 hn).mono ?_
 rintro e w1 ⟨v, rfl, o, b⟩
 obtain ⟨ad1, cap1, rfl, r1, _⟩ := Reads.own o hbd
 have z := HZ.out
 have S1 := (b.block w.heap.size (by omega)).trans HR.out
 have B1 := HB.out.trans (b.mono HB.out.size)
 have T1 := hid S1
 rw [z] at o
 have O := hid o
 clear S1 b z HZ HB HR o r1 h1
 go_wp2_with (first
  | (refine wpList_store_row rfl 29 (.tmp 2) (.tmp 22) rfl w.heap.size #[.int .i64 3, .int .i64 0, .float .f64 0, .slice ad1 n cap1] rfl rfl 29 _ T1.out ?s1 ?s2 ?s3 ?_))
 case s1 => exact size29
 case s2 => rfl
 case s3 => simp [Value.oneCell']
 refine bodyPost_ret (results_cell_row Tryz.results176 _ _ w.heap.size 29 _ (0, 0) _ rfl (setRow_heap _ _ _ _ _ _ T1.out) Tryz.underlying29 rfl size29) rfl ⟨_, rfl, owns_base (owns_at O.out fun k hk => ?_) (by omega), below_setRow B1 (by omega) _⟩
 rw [setRow_other _ _ _ _ (by omega)]
end Go.Proofs.YtkfhfjghfadofaaGreat
/- getHighFirst and floatWithBits of the program; what is read of bytes. -/


namespace Go.Proofs.YtkfhfjghfadofaaGreat
open Go.RowKit
set_option maxRecDepth 100000 in
set_option maxHeartbeats 1600000 in
theorem impl_getHigh {ad : Option Addr} {n : Nat} (cap : Nat) {zs : List Int} {w : World} (h : Reads w ad n zs) (hn : n = 8) :
 Calls Tryz.prog 180 #[.slice ad n cap] w fun e w' => e = .returned (.tuple #[.int .u64 (low zs : Int), .bool true]) ∧ w' = w := by
 have hl := h.len
 subst hn
 go_enter Tryz.func180, Tryz.ntmps180
 go_wp2
 go_loopw [4, 12] (fun s i wr => ∃ k x : Nat, k ≤ 8 ∧ s = .int .u64 (x : Int) ∧ i = .int .i64 k ∧ x < 18446744073709551616 ∧ Hid (x = low (zs.take k)) ∧ wr = w) (fun _ i _ => 8 - (intOf i).toNat)
 case atStart => exact ⟨0, 0, Nat.zero_le _, rfl, rfl, by omega, hid (by rw [List.take_zero]; rfl), rfl⟩
 case round =>
  obtain ⟨k, x, hk, rfl, rfl, hx, HX, rfl⟩ := hrel
  by_cases hlt : k < 8
  · rcases h.cells with h0 | ⟨b, off, rfl, hc⟩
    · omega
    have c1 := hc k hlt
    have hb := h.bd k
    have HS := hid (low_step zs k (by omega))
    obtain ⟨y, hy⟩ := Int.eq_ofNat_of_zero_le hb.1
    have HY := hid hy
    rw [hy] at c1 hb
    have ho := or_shl x y (by omega)
    have hlt' : (k : Int) < 8 := by omega
    have hk0 : (0 : Int) ≤ (k : Int) := by omega
    have hxx : (x * 256 + y) % 18446744073709551616 < 18446744073709551616 := Nat.mod_lt _ (by omega)
    obtain ⟨q, hq⟩ : ∃ q, Hid ((x * 256 + y) % 18446744073709551616 = q) := ⟨_, rfl⟩
    have hq' := hq.out
    rw [hq'] at ho hxx
    clear hc hy hq'
    go_wp2
    go_roundw
    case rel => exact ⟨k + 1, q, by omega, rfl, by go_num, hxx, hid (by rw [HS.out, ← HX.out, HY.out, Int.toNat_natCast, hq.out]), by first | trivial | rfl⟩
    case measure => simp [intOf]; omega
  · have hk8 : k = 8 := by omega
    subst hk8
    have HE := hid (show x = low zs by rw [HX.out, List.take_of_length_le (by omega)])
    go_wp2
    go_ret2
    exact ⟨by rw [HE.out]; rfl, rfl⟩
set_option maxRecDepth 100000 in
theorem impl_getHigh_no (ad : Option Addr) (n cap : Nat) (hn : n ≠ 8) (w : World) :
 Calls Tryz.prog 180 #[.slice ad n cap] w fun e w' => e = .returned (.tuple #[.int .u64 0, .bool false]) ∧ w' = w := by
 have q : ((n : Int) != 8) = true := by simp only [bne_iff_ne]; omega
 go_enter Tryz.func180, Tryz.ntmps180
 go_wp2
 go_ret2
 exact ⟨rfl, rfl⟩
theorem fbits_u64 (b : Nat) : (((fbits b : Nat) : Int) == (b : Int)) = decide (fbits b = b) := by
 by_cases h : fbits b = b
 · rw [h]; simp
 · rw [decide_eq_false h]; simp only [beq_eq_false_iff_ne]; omega
def unfK (k : Nat) : Option Nat := if frank (back k) = k then some (back k) else none
def unfV (b : Nat) : Option Nat := if fbits b = b then some b else none
def Dec (fn : Nat) (d : Nat → Option Nat) : Prop := ∀ (x : Nat) (w : World), x < 18446744073709551616 → Calls Tryz.prog fn #[.int .u64 x] w fun e w' => ∃ (y : Nat) (ok : Bool), e = .returned (.tuple #[.float .f64 y, .bool ok]) ∧ y < 18446744073709551616 ∧ Hid (d x = if ok = true then some y else none) ∧ w' = w
theorem dec_rank : Dec 169 unfK := by
 intro x w hx
 refine (impl_FloatUnrank x hx w).mono ?_
 rintro e w' ⟨rfl, rfl⟩
 by_cases h : frank (back x) = x
 · rw [if_pos h]
   exact ⟨_, _, rfl, back_lt x hx, hid (by rw [unfK, if_pos h]; rfl), rfl⟩
 · rw [if_neg h]
   exact ⟨_, _, rfl, by omega, hid (by rw [unfK, if_neg h]; rfl), rfl⟩
set_option maxRecDepth 100000 in
theorem dec_bits : Dec 170 unfV := by
 intro x w hx
 have hd : Hid (unfV x = if decide (fbits x = x) = true then some x else none) := hid (by
  unfold unfV
  by_cases h : fbits x = x
  · rw [if_pos h, decide_eq_true h]; rfl
  · rw [if_neg h, decide_eq_false h]; rfl)
 have hb := fbits_u64 x
 generalize decide (fbits x = x) = ok at *
 go_enter Tryz.func170, Tryz.ntmps170
 go_wp2_with fail
 refine (impl_FloatOf x _).mono ?_
 rintro e w1 ⟨rfl, rfl⟩
 go_wp2_with fail
 refine (impl_FloatBits x hx _).mono ?_
 rintro e w2 ⟨rfl, rfl⟩
 generalize fbits x = fb at *
 go_wp2_with fail
 go_ret2
 exact ⟨_, _, rfl, hx, hd, rfl⟩
end Go.Proofs.YtkfhfjghfadofaaGreat
/- contentRead of the program. -/

namespace Go.Proofs.YtkfhfjghfadofaaGreat
open Go.RowKit
theorem unlift (x : Nat) (hx : x < 18446744073709551616) : IntKind.i64.wrap (IntKind.u64.wrap ((x : Int) - 9223372036854775808)) = (x : Int) - 9223372036854775808 := by
 simp [IntKind.wrap, IntKind.bits, IntKind.signed]
 omega
set_option maxRecDepth 100000 in
set_option maxHeartbeats 1600000 in
theorem read_text (fn : Nat) (ad : Option Addr) (n cap : Nat) (w : World) :
 Calls Tryz.prog 175 #[.int .i64 3, .slice ad n cap, .func (.func fn) #[] #[]] w fun e w' => e = .returned (.tuple #[.iface 191 (.slice ad n cap), .bool (decide (n ≤ 40))]) ∧ w' = w := by
 by_cases h : n ≤ 40
 · rw [decide_eq_true h]
   have h' : (n : Int) ≤ 40 := by omega
   go_enter Tryz.func175, Tryz.ntmps175
   go_wp2
   go_ret2
   exact ⟨rfl, rfl⟩
 · rw [decide_eq_false h]
   have h' : ¬ (n : Int) ≤ 40 := by omega
   go_enter Tryz.func175, Tryz.ntmps175
   go_wp2
   go_ret2
   exact ⟨by first | rfl | (show Ending.returned (.tuple #[_, .bool (decide ((n : Int) ≤ 40))]) = _; rw [decide_eq_false (show ¬ (n : Int) ≤ 40 by omega)]), rfl⟩
set_option maxRecDepth 100000 in
set_option maxHeartbeats 1600000 in
theorem read_int (fn : Nat) {ad : Option Addr} {n : Nat} (cap : Nat) {zs : List Int} {w : World} (h : Reads w ad n zs) (hn : n = 8) :
 Calls Tryz.prog 175 #[.int .i64 1, .slice ad n cap, .func (.func fn) #[] #[]] w fun e w' => e = .returned (.tuple #[.iface 189 (.int .i64 ((low zs : Int) - 9223372036854775808)), .bool true]) ∧ w' = w := by
 have hx : low zs < 18446744073709551616 := low_lt zs 0 (by omega)
 have hu := unlift (low zs) hx
 have hg := impl_getHigh cap h hn
 generalize low zs = x at *
 clear h hn
 go_enter Tryz.func175, Tryz.ntmps175
 go_wp2_with fail
 refine hg.mono ?_
 rintro e w1 ⟨rfl, rfl⟩
 go_wp2_with fail
 go_ret2
 exact ⟨rfl, rfl⟩
end Go.Proofs.YtkfhfjghfadofaaGreat
/- contentRead of the program, at floats and at what is none. -/

namespace Go.Proofs.YtkfhfjghfadofaaGreat
open Go.RowKit
set_option maxRecDepth 100000 in
set_option maxHeartbeats 1600000 in
theorem read_float_K {ad : Option Addr} {n : Nat} (cap : Nat) {zs : List Int} {w : World} (h : Reads w ad n zs) (hn : n = 8) :
 Calls Tryz.prog 175 #[.int .i64 2, .slice ad n cap, .func (.func 169) #[] #[]] w fun e w' => ∃ (y : Nat) (ok : Bool), e = .returned (.tuple #[.iface 190 (.float .f64 y), .bool ok]) ∧ y < 18446744073709551616 ∧ Hid (unfK (low zs) = if ok = true then some y else none) ∧ w' = w := by
 have hx : low zs < 18446744073709551616 := low_lt zs 0 (by omega)
 have hg := impl_getHigh cap h hn
 have hf := hid (dec_rank (low zs))
 generalize low zs = x at *
 clear h hn
 go_enter Tryz.func175, Tryz.ntmps175
 go_wp2_with fail
 refine hg.mono ?_
 rintro e w1 ⟨rfl, h1⟩
 subst w1
 clear hg
 go_wp2_with fail
 refine (hf.out _ hx).mono ?_
 rintro e w2 ⟨y, ok, rfl, hy, HD, h2⟩
 subst w2
 cases ok
 · go_wp2_with fail
   go_ret2
   exact ⟨_, _, rfl, hy, HD, rfl⟩
 · go_wp2_with fail
   go_ret2
   exact ⟨_, _, rfl, hy, HD, rfl⟩
set_option maxRecDepth 100000 in
set_option maxHeartbeats 1600000 in
theorem read_short_K (K : Int) (h3 : K ≠ 3) (ad : Option Addr) (n cap : Nat) (hn : n ≠ 8) (w : World) :
 Calls Tryz.prog 175 #[.int .i64 K, .slice ad n cap, .func (.func 169) #[] #[]] w fun e w' => ∃ v, e = .returned (.tuple #[v, .bool false]) ∧ w' = w := by
 have hg := impl_getHigh_no ad n cap hn
 have hf := hid (dec_rank 0)
 have q3 : (K == 3) = false := by simp [h3]
 clear hn h3
 by_cases h1 : K = 1
 · subst h1
   go_enter Tryz.func175, Tryz.ntmps175
   go_wp2_with fail
   refine (hg _).mono ?_
   rintro e w1 ⟨rfl, h1⟩
   subst w1
   clear hg
   go_wp2_with fail
   go_ret2
   exact ⟨_, rfl, rfl⟩
 have q1 : (K == 1) = false := by simp [h1]
 by_cases h2 : K = 2
 · subst h2
   go_enter Tryz.func175, Tryz.ntmps175
   go_wp2_with fail
   refine (hg _).mono ?_
   rintro e w1 ⟨rfl, h1⟩
   subst w1
   clear hg
   go_wp2_with fail
   refine (hf.out _ (by omega)).mono ?_
   rintro e w2 ⟨y, ok, rfl, hy, HD, h2⟩
   subst w2
   go_wp2_with fail
   go_ret2
   exact ⟨_, rfl, rfl⟩
 have q2 : (K == 2) = false := by simp [h2]
 clear h1 h2
 go_enter Tryz.func175, Tryz.ntmps175
 go_wp2_with fail
 refine (hg _).mono ?_
 rintro e w1 ⟨rfl, h1⟩
 subst w1
 clear hg
 go_wp2_with fail
 go_ret2
 exact ⟨_, rfl, rfl⟩
set_option maxRecDepth 100000 in
set_option maxHeartbeats 1600000 in
theorem read_other_K (K : Int) (h1 : K ≠ 1) (h2 : K ≠ 2) (h3 : K ≠ 3) {ad : Option Addr} {n : Nat} (cap : Nat) {zs : List Int} {w : World} (h : Reads w ad n zs) (hn : n = 8) :
 Calls Tryz.prog 175 #[.int .i64 K, .slice ad n cap, .func (.func 169) #[] #[]] w fun e w' => ∃ v, e = .returned (.tuple #[v, .bool false]) ∧ w' = w := by
 have hg := impl_getHigh cap h hn
 generalize low zs = x at *
 have q3 : (K == 3) = false := by simp [h3]
 have q1 : (K == 1) = false := by simp [h1]
 have q2 : (K == 2) = false := by simp [h2]
 clear h1 h2 h3 h hn
 go_enter Tryz.func175, Tryz.ntmps175
 go_wp2_with fail
 refine hg.mono ?_
 rintro e w1 ⟨rfl, h1⟩
 subst w1
 clear hg
 go_wp2_with fail
 go_ret2
 exact ⟨_, rfl, rfl⟩
set_option maxRecDepth 100000 in
set_option maxHeartbeats 1600000 in
theorem read_float_V {ad : Option Addr} {n : Nat} (cap : Nat) {zs : List Int} {w : World} (h : Reads w ad n zs) (hn : n = 8) :
 Calls Tryz.prog 175 #[.int .i64 2, .slice ad n cap, .func (.func 170) #[] #[]] w fun e w' => ∃ (y : Nat) (ok : Bool), e = .returned (.tuple #[.iface 190 (.float .f64 y), .bool ok]) ∧ y < 18446744073709551616 ∧ Hid (unfV (low zs) = if ok = true then some y else none) ∧ w' = w := by
 have hx : low zs < 18446744073709551616 := low_lt zs 0 (by omega)
 have hg := impl_getHigh cap h hn
 have hf := hid (dec_bits (low zs))
 generalize low zs = x at *
 clear h hn
 go_enter Tryz.func175, Tryz.ntmps175
 go_wp2_with fail
 refine hg.mono ?_
 rintro e w1 ⟨rfl, h1⟩
 subst w1
 clear hg
 go_wp2_with fail
 refine (hf.out _ hx).mono ?_
 rintro e w2 ⟨y, ok, rfl, hy, HD, h2⟩
 subst w2
 cases ok
 · go_wp2_with fail
   go_ret2
   exact ⟨_, _, rfl, hy, HD, rfl⟩
 · go_wp2_with fail
   go_ret2
   exact ⟨_, _, rfl, hy, HD, rfl⟩
set_option maxRecDepth 100000 in
set_option maxHeartbeats 1600000 in
theorem read_short_V (K : Int) (h3 : K ≠ 3) (ad : Option Addr) (n cap : Nat) (hn : n ≠ 8) (w : World) :
 Calls Tryz.prog 175 #[.int .i64 K, .slice ad n cap, .func (.func 170) #[] #[]] w fun e w' => ∃ v, e = .returned (.tuple #[v, .bool false]) ∧ w' = w := by
 have hg := impl_getHigh_no ad n cap hn
 have hf := hid (dec_bits 0)
 have q3 : (K == 3) = false := by simp [h3]
 clear hn h3
 by_cases h1 : K = 1
 · subst h1
   go_enter Tryz.func175, Tryz.ntmps175
   go_wp2_with fail
   refine (hg _).mono ?_
   rintro e w1 ⟨rfl, h1⟩
   subst w1
   clear hg
   go_wp2_with fail
   go_ret2
   exact ⟨_, rfl, rfl⟩
 have q1 : (K == 1) = false := by simp [h1]
 by_cases h2 : K = 2
 · subst h2
   go_enter Tryz.func175, Tryz.ntmps175
   go_wp2_with fail
   refine (hg _).mono ?_
   rintro e w1 ⟨rfl, h1⟩
   subst w1
   clear hg
   go_wp2_with fail
   refine (hf.out _ (by omega)).mono ?_
   rintro e w2 ⟨y, ok, rfl, hy, HD, h2⟩
   subst w2
   go_wp2_with fail
   go_ret2
   exact ⟨_, rfl, rfl⟩
 have q2 : (K == 2) = false := by simp [h2]
 clear h1 h2
 go_enter Tryz.func175, Tryz.ntmps175
 go_wp2_with fail
 refine (hg _).mono ?_
 rintro e w1 ⟨rfl, h1⟩
 subst w1
 clear hg
 go_wp2_with fail
 go_ret2
 exact ⟨_, rfl, rfl⟩
set_option maxRecDepth 100000 in
set_option maxHeartbeats 1600000 in
theorem read_other_V (K : Int) (h1 : K ≠ 1) (h2 : K ≠ 2) (h3 : K ≠ 3) {ad : Option Addr} {n : Nat} (cap : Nat) {zs : List Int} {w : World} (h : Reads w ad n zs) (hn : n = 8) :
 Calls Tryz.prog 175 #[.int .i64 K, .slice ad n cap, .func (.func 170) #[] #[]] w fun e w' => ∃ v, e = .returned (.tuple #[v, .bool false]) ∧ w' = w := by
 have hg := impl_getHigh cap h hn
 generalize low zs = x at *
 have q3 : (K == 3) = false := by simp [h3]
 have q1 : (K == 1) = false := by simp [h1]
 have q2 : (K == 2) = false := by simp [h2]
 clear h1 h2 h3 h hn
 go_enter Tryz.func175, Tryz.ntmps175
 go_wp2_with fail
 refine hg.mono ?_
 rintro e w1 ⟨rfl, h1⟩
 subst w1
 clear hg
 go_wp2_with fail
 go_ret2
 exact ⟨_, rfl, rfl⟩
end Go.Proofs.YtkfhfjghfadofaaGreat
/- The program's ItemOk. -/

namespace Go.Proofs.YtkfhfjghfadofaaGreat
open Go.RowKit
set_option maxRecDepth 100000 in
set_option maxHeartbeats 1600000 in
theorem impl_ItemOk (K N : Int) (f : Nat) (ad : Option Addr) (n cap : Nat) (hf : f < 18446744073709551616) (hn : n ≤ 2097152) (w : World) :
 Calls Tryz.prog 103 #[.agg #[.int .i64 K, .int .i64 N, .float .f64 f, .slice ad n cap]] w fun e w' => e = .returned (.bool (okI K N f n)) ∧ Below w.heap.size w w' := by
 have hA : Below w.heap.size w (w.alloc (.cells #[.int .i64 K, .int .i64 N, .float .f64 f, .slice ad n cap] 29)) := (Below.refl _ _).alloc (Nat.le_refl _) _
 have HA := hid hA
 clear hA
 by_cases h1 : K < 0
 · rw [show okI K N f n = false from decide_eq_false (by omega)]
   go_enter Tryz.func103, Tryz.ntmps103
   go_wp2
   go_ret
   exact ⟨rfl, HA.out⟩
 by_cases h2 : 3 < K
 · rw [show okI K N f n = false from decide_eq_false (by omega)]
   go_enter Tryz.func103, Tryz.ntmps103
   go_wp2
   go_ret
   exact ⟨rfl, HA.out⟩
 by_cases h3 : 40 < n
 · rw [show okI K N f n = false from decide_eq_false (by omega)]
   have h3' : (40 : Int) < (n : Int) := by omega
   go_enter Tryz.func103, Tryz.ntmps103
   go_wp2
   go_ret
   exact ⟨rfl, HA.out⟩
 have h3' : ¬ (40 : Int) < (n : Int) := by omega
 by_cases h4 : K ≠ 1 ∧ N ≠ 0
 · rw [show okI K N f n = false from decide_eq_false (by omega)]
   have q1 : (K == 1) = false := by simp [h4.1]
   have q2 : (N == 0) = false := by simp [h4.2]
   go_enter Tryz.func103, Tryz.ntmps103
   go_wp2
   go_ret
   exact ⟨rfl, HA.out⟩
 by_cases h5 : K = 1
 · subst h5
   by_cases h6 : f = 0
   · subst h6
     have hz : fbits 0 = 0 := by decide
     by_cases h7 : n = 0
     · subst h7
       rw [show okI 1 N 0 0 = true from decide_eq_true (by omega)]
       go_enter Tryz.func103, Tryz.ntmps103
       go_wp2_with fail
       refine (impl_FloatBits 0 hf _).mono ?_
       rintro e w1 ⟨rfl, rfl⟩
       rw [hz]
       go_wp2_with fail
       go_ret
       exact ⟨rfl, HA.out⟩
     · rw [show okI 1 N 0 n = false from decide_eq_false (by omega)]
       have q7 : ((n : Int) == 0) = false := beq_eq_false_iff_ne.2 (by omega)
       go_enter Tryz.func103, Tryz.ntmps103
       go_wp2_with fail
       refine (impl_FloatBits 0 hf _).mono ?_
       rintro e w1 ⟨rfl, rfl⟩
       rw [hz]
       go_wp2_with fail
       go_ret
       exact ⟨rfl, HA.out⟩
   · rw [show okI 1 N f n = false from decide_eq_false (by omega)]
     have q6 : ((fbits f : Int) == 0) = false := by have := fbits_ne f h6; simpa using this
     go_enter Tryz.func103, Tryz.ntmps103
     go_wp2_with fail
     refine (impl_FloatBits f hf _).mono ?_
     rintro e w1 ⟨rfl, rfl⟩
     go_wp2_with fail
     go_ret
     exact ⟨rfl, HA.out⟩
 have h8 : N = 0 := by omega
 subst h8
 have q1 : (K == 1) = false := by simp [h5]
 by_cases h9 : K = 2
 · subst h9
   by_cases h7 : n = 0
   · subst h7
     rw [show okI 2 0 f 0 = true from decide_eq_true (by omega)]
     go_enter Tryz.func103, Tryz.ntmps103
     go_wp2
     go_ret
     exact ⟨rfl, HA.out⟩
   · rw [show okI 2 0 f n = false from decide_eq_false (by omega)]
     have q7 : ((n : Int) == 0) = false := beq_eq_false_iff_ne.2 (by omega)
     go_enter Tryz.func103, Tryz.ntmps103
     go_wp2
     go_ret
     exact ⟨rfl, HA.out⟩
 have q9 : (K == 2) = false := by simp [h9]
 by_cases h6 : f = 0
 · subst h6
   have hz : fbits 0 = 0 := by decide
   by_cases h7 : K = 3
   · subst h7
     rw [show okI 3 0 0 n = true from decide_eq_true (by omega)]
     go_enter Tryz.func103, Tryz.ntmps103
     go_wp2_with fail
     refine (impl_FloatBits 0 hf _).mono ?_
     rintro e w1 ⟨rfl, rfl⟩
     rw [hz]
     go_wp2_with fail
     go_ret
     exact ⟨rfl, HA.out⟩
   · have h10 : K = 0 := by omega
     subst h10
     by_cases h7 : n = 0
     · subst h7
       rw [show okI 0 0 0 0 = true from decide_eq_true (by omega)]
       go_enter Tryz.func103, Tryz.ntmps103
       go_wp2_with fail
       refine (impl_FloatBits 0 hf _).mono ?_
       rintro e w1 ⟨rfl, rfl⟩
       rw [hz]
       go_wp2_with fail
       go_ret
       exact ⟨rfl, HA.out⟩
     · rw [show okI 0 0 0 n = false from decide_eq_false (by omega)]
       have q7 : ((n : Int) == 0) = false := beq_eq_false_iff_ne.2 (by omega)
       go_enter Tryz.func103, Tryz.ntmps103
       go_wp2_with fail
       refine (impl_FloatBits 0 hf _).mono ?_
       rintro e w1 ⟨rfl, rfl⟩
       rw [hz]
       go_wp2_with fail
       go_ret
       exact ⟨rfl, HA.out⟩
 · rw [show okI K 0 f n = false from decide_eq_false (by omega)]
   have q6 : ((fbits f : Int) == 0) = false := by have := fbits_ne f h6; simpa using this
   go_enter Tryz.func103, Tryz.ntmps103
   go_wp2_with fail
   refine (impl_FloatBits f hf _).mono ?_
   rintro e w1 ⟨rfl, rfl⟩
   go_wp2_with fail
   go_ret
   exact ⟨rfl, HA.out⟩
end Go.Proofs.YtkfhfjghfadofaaGreat
/- The program's KeyOk. -/

namespace Go.Proofs.YtkfhfjghfadofaaGreat
open Go.RowKit
theorem fbits_top (f : Nat) : fbits f = 9223372036854775808 ↔ f = 9223372036854775808 := by
 by_cases h : isN f = true
 · rw [fbits, if_pos h]
   constructor
   · intro h'; omega
   · intro h'; subst h'; exact absurd h (by decide)
 · rw [fbits, if_neg h]
set_option maxRecDepth 100000 in
set_option maxHeartbeats 1600000 in
theorem impl_KeyOk (K N : Int) (f : Nat) (ad : Option Addr) (n cap : Nat) (hf : f < 18446744073709551616) (hn : n ≤ 2097152) (w : World) :
 Calls Tryz.prog 68 #[.agg #[.int .i64 K, .int .i64 N, .float .f64 f, .slice ad n cap]] w fun e w' => e = .returned (.bool (okK K N f n)) ∧ Below w.heap.size w w' := by
 have hI := impl_ItemOk K N f ad n cap hf hn
 have hA : Below w.heap.size w (w.alloc (.cells #[.int .i64 K, .int .i64 N, .float .f64 f, .slice ad n cap] 29)) := (Below.refl _ _).alloc (Nat.le_refl _) _
 have hB := Box.new w K N f ad n cap 29
 by_cases hok : okI K N f n = true
 · rw [hok] at hI
   by_cases hK : K = 0
   · rw [show okK K N f n = false by rw [okK, decide_eq_false (by omega), Bool.and_false]]
     have q : (K != 0) = false := by simp [hK]
     clear hK hok
     go_enter Tryz.func68, Tryz.ntmps68
     go_wp2_with fail
     refine (hI _).mono ?_
     rintro e w1 ⟨rfl, b1⟩
     have B := hid (hA.trans (b1.mono hA.size))
     obtain ⟨c0, c1, c2, c3⟩ := hB.below b1 (by simp)
     clear hA b1 hB hI
     go_wp2_with fail
     go_ret
     exact ⟨rfl, B.out⟩
   · have q : (K != 0) = true := by simp [hK]
     by_cases hF : f = 9223372036854775808
     · rw [show okK K N f n = false by rw [okK, decide_eq_false (fun h => h.2 hF), Bool.and_false]]
       have q2 : ((fbits f : Int) != 9223372036854775808) = false := by rw [(fbits_top f).2 hF]; rfl
       clear hK hok hF
       go_enter Tryz.func68, Tryz.ntmps68
       go_wp2_with fail
       refine (hI _).mono ?_
       rintro e w1 ⟨rfl, b1⟩
       have B := hid (hA.trans (b1.mono hA.size))
       obtain ⟨c0, c1, c2, c3⟩ := hB.below b1 (by simp)
       clear hA b1 hB hI
       go_wp2_with fail
       refine (impl_FloatBits f hf _).mono ?_
       rintro e w2 ⟨rfl, rfl⟩
       go_wp2_with fail
       go_ret
       exact ⟨rfl, B.out⟩
     · rw [show okK K N f n = true by rw [okK, hok, decide_eq_true ⟨hK, hF⟩]; rfl]
       have q2 : ((fbits f : Int) != 9223372036854775808) = true := by
        have : ¬ fbits f = 9223372036854775808 := fun e => hF ((fbits_top f).1 e)
        simp only [bne_iff_ne]; omega
       clear hK hok hF
       go_enter Tryz.func68, Tryz.ntmps68
       go_wp2_with fail
       refine (hI _).mono ?_
       rintro e w1 ⟨rfl, b1⟩
       have B := hid (hA.trans (b1.mono hA.size))
       obtain ⟨c0, c1, c2, c3⟩ := hB.below b1 (by simp)
       clear hA b1 hB hI
       go_wp2_with fail
       refine (impl_FloatBits f hf _).mono ?_
       rintro e w2 ⟨rfl, rfl⟩
       go_wp2_with fail
       go_ret
       exact ⟨rfl, B.out⟩
 · have hok' : okI K N f n = false := by simpa using hok
   rw [show okK K N f n = false by rw [okK, hok', Bool.false_and]]
   rw [hok'] at hI
   clear hok hok'
   go_enter Tryz.func68, Tryz.ntmps68
   go_wp2_with fail
   refine (hI _).mono ?_
   rintro e w1 ⟨rfl, b1⟩
   have B := hid (hA.trans (b1.mono hA.size))
   clear hA b1 hB hI
   go_wp2_with fail
   go_ret
   exact ⟨rfl, B.out⟩
end Go.Proofs.YtkfhfjghfadofaaGreat
/- Bytes as strings: what the conversion gives. No conditions. -/



namespace Go.Proofs.YtkfhfjghfadofaaGreat
open Go.RowKit
def str (zs : List Int) : ByteArray := ⟨(zs.map fun n => UInt8.ofNat n.toNat).toArray⟩
theorem Reads.str {w : World} {ad : Option Addr} {n : Nat} {zs : List Int} (h : Reads w ad n zs) (cap : Nat) (src : TypeId) (hs : Tryz.prog.underlying src = some (.slice 5)) (he : Tryz.prog.underlying 5 = some (.int .u8)) (hd : Tryz.prog.underlying 9 = some .string) :
 (convert src 9 (.slice ad n cap)).run Tryz.prog w = .ok (.string (str zs)) w := by
 have hl := h.len
 rcases h.cells with h0 | ⟨b, off, rfl, hc⟩
 · subst h0
   have hz : zs = [] := List.length_eq_zero_iff.1 hl
   subst hz
   cases ad with
   | none => exact run_convert_bytes_nil w src 5 hs he 0 cap 9 hd
   | some a =>
    rw [run_convert_bytes_string w src 9 5 _ 0 cap hs he hd, run_bytesToString w a 0 cap [] (by simp [loadCells, loadCellsFrom])]
    rfl
 · exact run_convert_bytes_arg w src 5 hs he b off n cap zs hl hc 9 hd
end Go.Proofs.YtkfhfjghfadofaaGreat
/- Bytes as strings: what the conversion gives, and how two such strings are held against each other. -/




namespace Go.Proofs.YtkfhfjghfadofaaGreat
open Go.RowKit
def us (zs : List Int) : List UInt8 := zs.map fun n => UInt8.ofNat n.toNat
def inB (zs : List Int) : Prop := ∀ i, 0 ≤ zs.getD i 0 ∧ zs.getD i 0 ≤ 255
theorem str_list (zs : List Int) : (str zs).toList = us zs := by
 rw [ByteArray.toList_eq]
 rfl
theorem inB.head {x : Int} {xs : List Int} (h : inB (x :: xs)) : 0 ≤ x ∧ x ≤ 255 := h 0
theorem inB.tail {x : Int} {xs : List Int} (h : inB (x :: xs)) : inB xs := fun i => h (i + 1)
theorem u8_lt (x y : Int) (hx : 0 ≤ x ∧ x ≤ 255) (hy : 0 ≤ y ∧ y ≤ 255) : (UInt8.ofNat x.toNat < UInt8.ofNat y.toNat) ↔ x < y := by
 rw [UInt8.lt_iff_toNat_lt, UInt8.toNat_ofNat', UInt8.toNat_ofNat']
 omega
theorem u8_eq (x y : Int) (hx : 0 ≤ x ∧ x ≤ 255) (hy : 0 ≤ y ∧ y ≤ 255) : (UInt8.ofNat x.toNat = UInt8.ofNat y.toNat) ↔ x = y := by
 rw [← UInt8.toNat_inj, UInt8.toNat_ofNat', UInt8.toNat_ofNat']
 omega
theorem less_txt : ∀ (zs ys : List Int), inB zs → inB ys → Op.bytesLess (us zs) (us ys) = decide (txt zs ys = -1)
 | [], [], _, _ => rfl
 | [], _ :: _, _, _ => rfl
 | _ :: _, [], _, _ => rfl
 | x :: xs, y :: ys, hx, hy => by
  have ih := less_txt xs ys hx.tail hy.tail
  show (decide (UInt8.ofNat x.toNat < UInt8.ofNat y.toNat) || (UInt8.ofNat x.toNat == UInt8.ofNat y.toNat && Op.bytesLess (us xs) (us ys))) = _
  rw [ih]
  have e1 := u8_lt x y hx.head hy.head
  have e2 := u8_eq x y hx.head hy.head
  show _ = decide ((if x < y then -1 else if y < x then 1 else txt xs ys) = -1)
  by_cases h1 : x < y
  · rw [if_pos h1, decide_eq_true (e1.2 h1)]; rfl
  · rw [if_neg h1, decide_eq_false (fun h => h1 (e1.1 h))]
    by_cases h2 : y < x
    · rw [if_pos h2, beq_eq_false_iff_ne.2 (fun h => by have := e2.1 h; omega)]; rfl
    · rw [if_neg h2, beq_iff_eq.2 (e2.2 (by omega))]; simp
theorem eq_txt : ∀ (zs ys : List Int), inB zs → inB ys → (us zs == us ys) = decide (txt zs ys = 0)
 | [], [], _, _ => rfl
 | [], _ :: _, _, _ => rfl
 | _ :: _, [], _, _ => rfl
 | x :: xs, y :: ys, hx, hy => by
  have ih := eq_txt xs ys hx.tail hy.tail
  show (UInt8.ofNat x.toNat == UInt8.ofNat y.toNat && (us xs == us ys)) = _
  rw [ih]
  have e2 := u8_eq x y hx.head hy.head
  show _ = decide ((if x < y then -1 else if y < x then 1 else txt xs ys) = 0)
  by_cases h1 : x < y
  · rw [if_pos h1, beq_eq_false_iff_ne.2 (fun h => by have := e2.1 h; omega)]; rfl
  · rw [if_neg h1]
    by_cases h2 : y < x
    · rw [if_pos h2, beq_eq_false_iff_ne.2 (fun h => by have := e2.1 h; omega)]; rfl
    · rw [if_neg h2, beq_iff_eq.2 (e2.2 (by omega))]; simp
theorem txt_zero : ∀ (zs ys : List Int), txt zs ys = 0 ↔ zs = ys
 | [], [] => by simp [txt]
 | [], _ :: _ => by simp [txt]
 | _ :: _, [] => by simp [txt]
 | x :: xs, y :: ys => by
  have ih := txt_zero xs ys
  rw [txt]
  by_cases h1 : x < y
  · rw [if_pos h1]
    constructor
    · intro h; omega
    · intro h; have := (List.cons.inj h).1; omega
  · rw [if_neg h1]
    by_cases h2 : y < x
    · rw [if_pos h2]
      constructor
      · intro h; omega
      · intro h; have := (List.cons.inj h).1; omega
    · rw [if_neg h2, ih]
      have : x = y := by omega
      subst this
      simp
end Go.Proofs.YtkfhfjghfadofaaGreat
/- The program's compareOrdered, at numbers and at texts, and the library's Or. -/

namespace Go.Proofs.YtkfhfjghfadofaaGreat
open Go.RowKit
end Go.Proofs.YtkfhfjghfadofaaGreat
/- The program's ItemCompare. -/



namespace Go.Proofs.YtkfhfjghfadofaaGreat
open Go.RowKit
theorem cell_oldx {w : World} (o : Obj) {p : Addr} {v : Value} (h : w.cell? p = some v) : (w.alloc o).cell? p = some v := by
 have hl := World.block_lt_of_cell? w _ h
 have hb : Below w.heap.size w (w.alloc o) := (Below.refl _ _).alloc (Nat.le_refl _) _
 rw [hb.cell hl]; exact h
end Go.Proofs.YtkfhfjghfadofaaGreat
/- itemRead of the program: what is read of bytes. -/




namespace Go.Proofs.YtkfhfjghfadofaaGreat
open Go.RowKit
def readR (d : Nat → Option Nat) : List Int → Int × Int × Nat × List Int × Bool
 | [] => (0, 0, 0, [], false)
 | k :: ts =>
  if k = 3 then (if ts.length ≤ 40 then (3, 0, 0, ts, true) else (0, 0, 0, [], false))
  else if ts.length = 8 then
   if k = 1 then (1, (low ts : Int) - 9223372036854775808, 0, [], true)
   else if k = 2 then (match d (low ts) with | some y => (2, 0, y, [], true) | none => (0, 0, 0, [], false))
   else (0, 0, 0, [], false)
  else (0, 0, 0, [], false)
def tl (b off cap : Nat) : Option Addr := if cap = 1 then some ⟨b, off, none⟩ else some ⟨b, off + 1, none⟩
theorem Reads.rest {w : World} {b off n cap : Nat} {k : Int} {ts : List Int} (h : Reads w (some ⟨b, off, none⟩) n (k :: ts)) (hc : n ≤ cap) : Reads w (tl b off cap) (n - 1) ts := by
 have hl := h.len
 simp at hl
 refine ⟨by omega, ?_, fun i => h.bd (i + 1)⟩
 rcases h.cells with h0 | ⟨b', off', e, hcc⟩
 · omega
 · cases e
   by_cases h1 : cap = 1
   · exact .inl (by omega)
   · refine .inr ⟨_, _, by rw [tl, if_neg h1], fun i hi => ?_⟩
     have := hcc (i + 1) (by omega)
     rw [show off + (i + 1) = off + 1 + i by omega] at this
     exact this
theorem results_cell_tmp {P : Program} {fn : Func} {p q : Tmp} {ty : TypeId} (h : fn.results = #[.cell p ty, .tmp q]) (tmps : Array Value) (w : World) (g : Nat) (t : TypeId) (cs : Array Value) (fr : Nat × Nat) (d : TypeDesc)
 (hp : tmps.getD p undef = .pointer (some ⟨g, 0, none⟩)) (hg : w.heap[g]? = some (.cells cs t fr))
 (hu : P.underlying ty = some d) (hd : (match d with | .struct _ | .array _ _ => true | _ => false) = true) (hi : (P.info? ty).map (·.size) = some cs.size) :
 (results fn tmps).run P w = .ok (.tuple #[.agg cs, tmps.getD q undef]) w := by
 have hp' : tmps[p]?.getD undef = .pointer (some ⟨g, 0, none⟩) := by simpa using hp
 simp [results, h, hp', asAddr, run_loadVar_row w g t ty cs fr d hg hu hd hi]
set_option maxRecDepth 100000 in
set_option maxHeartbeats 1600000 in
theorem itemRead_no1 (fn b off : Nat) (k : Int) {w : World} (c0 : w.cell? ⟨b, off, none⟩ = some (.int .u8 k)) (hk : 0 ≤ k ∧ k ≤ 255) 
 (C : ∀ W : World, Below w.heap.size w W → Calls Tryz.prog 175 #[.int .i64 k, .slice (some ⟨b, off, none⟩) 0 0, .func (.func fn) #[] #[]] W fun e w' => ∃ v, e = .returned (.tuple #[v, .bool false]) ∧ w' = W) :
 Calls Tryz.prog 168 #[.slice (some ⟨b, off, none⟩) 1 1, .func (.func fn) #[] #[]] w fun e w' => e = .returned (.tuple #[.agg #[.int .i64 0, .int .i64 0, .float .f64 0, .slice none 0 0], .bool false]) ∧ Below w.heap.size w w' := by
 have hst := fun w a m => run_store Tryz.prog w a (.float .f64 0) m rfl
 have hw : IntKind.i64.wrap k = k := by rw [IntKind.wrap_i64]; omega
 have HC := hid C
 have d0 := cell_oldx (w := w) (.cells #[.int .i64 0, .int .i64 0, .float .f64 0, .slice none 0 0] 29) c0
 have R := heap_alloc_new w (.cells #[.int .i64 0, .int .i64 0, .float .f64 0, .slice none 0 0] 29)
 have HB := hid (Below.alloc1 w (.cells #[.int .i64 0, .int .i64 0, .float .f64 0, .slice none 0 0] 29))
 have HZ := hid (alloc_size w (.cells #[.int .i64 0, .int .i64 0, .float .f64 0, .slice none 0 0] 29))
 have HR := hid R
 clear R C c0 hk
 go_enter Tryz.func168, Tryz.ntmps168
 go_wp2_with fail
 go_region_held3 (fun W => W.cell? ⟨b, off, none⟩ = some (.int .u8 k))
  (first | exact d0 | (simpa using d0))
  (first
   | (go_at_call 175; refine (HC.out _ (HB.out.trans ((Still.drew _).below _))).mono ?_; rintro e w1 ⟨v, rfl, h1⟩; subst w1))
 go_wp2_with fail
 exact bodyPost_ret (results_cell_tmp Tryz.results168 _ _ w.heap.size 29 _ (0, 0) _ rfl HR.out Tryz.underlying29 rfl size29) rfl ⟨rfl, HB.out.trans ((Still.drew _).below _)⟩
set_option maxRecDepth 100000 in
set_option maxHeartbeats 1600000 in
theorem itemRead_yes1 (fn b off : Nat) (k : Int) (t : TypeId) (u : Value) (RK RN : Int) (f : Nat) (RZ : List Int) {w : World} (c0 : w.cell? ⟨b, off, none⟩ = some (.int .u8 k)) (hk : 0 ≤ k ∧ k ≤ 255) (hbd : ∀ i, 0 ≤ RZ.getD i 0 ∧ RZ.getD i 0 ≤ 255) 
 (C : ∀ W : World, Below w.heap.size w W → Calls Tryz.prog 175 #[.int .i64 k, .slice (some ⟨b, off, none⟩) 0 0, .func (.func fn) #[] #[]] W fun e w' => e = .returned (.tuple #[.iface t u, .bool true]) ∧ w' = W)
 (I : ∀ W : World, Below w.heap.size w W → Calls Tryz.prog 176 #[.iface t u] W fun e w' => ∃ s, e = .returned (.agg #[.int .i64 RK, .int .i64 RN, .float .f64 f, s]) ∧ w'.ownsRow W.heap.size 5 1 s RZ.length (bys RZ) ∧ Below W.heap.size W w') :
 Calls Tryz.prog 168 #[.slice (some ⟨b, off, none⟩) 1 1, .func (.func fn) #[] #[]] w fun e w' => ∃ s, e = .returned (.tuple #[.agg #[.int .i64 RK, .int .i64 RN, .float .f64 f, s], .bool true]) ∧ w'.ownsRow w.heap.size 5 1 s RZ.length (bys RZ) ∧ Below w.heap.size w w' := by
 have hw : IntKind.i64.wrap k = k := by rw [IntKind.wrap_i64]; omega
 have HC := hid C
 have HI := hid I
 have d0 := cell_oldx (w := w) (.cells #[.int .i64 0, .int .i64 0, .float .f64 0, .slice none 0 0] 29) c0
 have R := heap_alloc_new w (.cells #[.int .i64 0, .int .i64 0, .float .f64 0, .slice none 0 0] 29)
 have HB := hid (Below.alloc1 w (.cells #[.int .i64 0, .int .i64 0, .float .f64 0, .slice none 0 0] 29))
 have HZ := hid (alloc_size w (.cells #[.int .i64 0, .int .i64 0, .float .f64 0, .slice none 0 0] 29))
 have HR := hid R
 clear R C I c0 hk
 go_enter Tryz.func168, Tryz.ntmps168
 go_wp2_with fail
 go_region_held3 (fun W => W.cell? ⟨b, off, none⟩ = some (.int .u8 k))
  (first | exact d0 | (simpa using d0))
  (first
   | (go_at_call 175; refine (HC.out _ (HB.out.trans ((Still.drew _).below _))).mono ?_; rintro e w1 ⟨rfl, h1⟩; subst w1))
 go_wp2_with fail
 refine (HI.out _ (HB.out.trans ((Still.drew _).below _))).mono ?_
 rintro e w1 ⟨s, rfl, o, b1⟩
 obtain ⟨ad1, cap1, rfl, r1, _⟩ := Reads.own o hbd
 have z := HZ.out
 have S1 : w1.heap[w.heap.size]? = _ := (b1.block w.heap.size (by show w.heap.size < (w.alloc _).heap.size; omega)).trans HR.out
 have B1 : Below w.heap.size w w1 := (HB.out.trans ((Still.drew _).below _)).trans (b1.mono (by show w.heap.size ≤ (w.alloc _).heap.size; omega))
 have T1 := hid S1
 have O := hid (show w1.ownsRow (w.heap.size + 1) 5 1 (.slice ad1 RZ.length cap1) RZ.length (bys RZ) by rw [← z]; exact o)
 clear S1 b1 z HZ HB HR o r1 d0
 go_wp2_with (first
  | (refine wpList_store_row rfl 29 (.tmp 4) (.tmp 27) rfl w.heap.size #[.int .i64 RK, .int .i64 RN, .float .f64 f, .slice ad1 RZ.length cap1] rfl rfl 29 _ T1.out ?s1 ?s2 ?s3 ?_))
 case s1 => exact size29
 case s2 => rfl
 case s3 => simp [Value.oneCell']
 refine bodyPost_ret (results_cell_tmp Tryz.results168 _ _ w.heap.size 29 _ (0, 0) _ rfl (setRow_heap _ _ _ _ _ _ T1.out) Tryz.underlying29 rfl size29) rfl ⟨_, rfl, owns_base (owns_at O.out fun k hk => ?_) (by omega), below_setRow B1 (by omega) _⟩
 rw [setRow_other _ _ _ _ (by omega)]
set_option maxRecDepth 100000 in
set_option maxHeartbeats 1600000 in
theorem itemRead_no (fn b off n cap : Nat) (hcap : n ≤ cap) (hc2 : 2 ≤ cap) (k : Int) {w : World} (c0 : w.cell? ⟨b, off, none⟩ = some (.int .u8 k)) (hk : 0 ≤ k ∧ k ≤ 255) (h1 : 1 ≤ n) (hm : n ≤ 1048576) 
 (C : ∀ W : World, Below w.heap.size w W → Calls Tryz.prog 175 #[.int .i64 k, .slice (some ⟨b, off + 1, none⟩) (n - 1) (cap - 1), .func (.func fn) #[] #[]] W fun e w' => ∃ v, e = .returned (.tuple #[v, .bool false]) ∧ w' = W) :
 Calls Tryz.prog 168 #[.slice (some ⟨b, off, none⟩) n cap, .func (.func fn) #[] #[]] w fun e w' => e = .returned (.tuple #[.agg #[.int .i64 0, .int .i64 0, .float .f64 0, .slice none 0 0], .bool false]) ∧ Below w.heap.size w w' := by
 have i1 : (1 : Int) ≤ (n : Int) := by omega
 have i3 : ((n : Int) == 0) = false := beq_eq_false_iff_ne.2 (by omega)
 have i4 : (0 : Int) < (n : Int) := by omega
 have i6 : ¬ (n : Int) < 1 := by omega
 have i8 : 0 < n := by omega
 have i10 : ¬ n = 0 := by omega
 have i12 : ¬ cap = 1 := by omega
 have j1 : (n : Int) ≤ (cap : Int) := by omega
 have j3 : ¬ cap = 0 := by omega
 have hst := fun w a m => run_store Tryz.prog w a (.float .f64 0) m rfl
 have hw : IntKind.i64.wrap k = k := by rw [IntKind.wrap_i64]; omega
 have HC := hid C
 have d0 := cell_oldx (w := w) (.cells #[.int .i64 0, .int .i64 0, .float .f64 0, .slice none 0 0] 29) c0
 have R := heap_alloc_new w (.cells #[.int .i64 0, .int .i64 0, .float .f64 0, .slice none 0 0] 29)
 have HB := hid (Below.alloc1 w (.cells #[.int .i64 0, .int .i64 0, .float .f64 0, .slice none 0 0] 29))
 have HZ := hid (alloc_size w (.cells #[.int .i64 0, .int .i64 0, .float .f64 0, .slice none 0 0] 29))
 have HR := hid R
 clear R C c0 hk h1
 go_enter Tryz.func168, Tryz.ntmps168
 go_wp2_with fail
 go_region_held3 (fun W => W.cell? ⟨b, off, none⟩ = some (.int .u8 k))
  (first | exact d0 | (simpa using d0))
  (first
   | (go_at_call 175; refine (HC.out _ (HB.out.trans ((Still.drew _).below _))).mono ?_; rintro e w1 ⟨v, rfl, h1⟩; subst w1))
 go_wp2_with fail
 exact bodyPost_ret (results_cell_tmp Tryz.results168 _ _ w.heap.size 29 _ (0, 0) _ rfl HR.out Tryz.underlying29 rfl size29) rfl ⟨rfl, HB.out.trans ((Still.drew _).below _)⟩
set_option maxRecDepth 100000 in
set_option maxHeartbeats 1600000 in
theorem itemRead_yes (fn b off n cap : Nat) (hcap : n ≤ cap) (hc2 : 2 ≤ cap) (k : Int) (t : TypeId) (u : Value) (RK RN : Int) (f : Nat) (RZ : List Int) {w : World} (c0 : w.cell? ⟨b, off, none⟩ = some (.int .u8 k)) (hk : 0 ≤ k ∧ k ≤ 255) (h1 : 1 ≤ n) (hm : n ≤ 1048576) (hbd : ∀ i, 0 ≤ RZ.getD i 0 ∧ RZ.getD i 0 ≤ 255) 
 (C : ∀ W : World, Below w.heap.size w W → Calls Tryz.prog 175 #[.int .i64 k, .slice (some ⟨b, off + 1, none⟩) (n - 1) (cap - 1), .func (.func fn) #[] #[]] W fun e w' => e = .returned (.tuple #[.iface t u, .bool true]) ∧ w' = W)
 (I : ∀ W : World, Below w.heap.size w W → Calls Tryz.prog 176 #[.iface t u] W fun e w' => ∃ s, e = .returned (.agg #[.int .i64 RK, .int .i64 RN, .float .f64 f, s]) ∧ w'.ownsRow W.heap.size 5 1 s RZ.length (bys RZ) ∧ Below W.heap.size W w') :
 Calls Tryz.prog 168 #[.slice (some ⟨b, off, none⟩) n cap, .func (.func fn) #[] #[]] w fun e w' => ∃ s, e = .returned (.tuple #[.agg #[.int .i64 RK, .int .i64 RN, .float .f64 f, s], .bool true]) ∧ w'.ownsRow w.heap.size 5 1 s RZ.length (bys RZ) ∧ Below w.heap.size w w' := by
 have i1 : (1 : Int) ≤ (n : Int) := by omega
 have i3 : ((n : Int) == 0) = false := beq_eq_false_iff_ne.2 (by omega)
 have i4 : (0 : Int) < (n : Int) := by omega
 have i6 : ¬ (n : Int) < 1 := by omega
 have i8 : 0 < n := by omega
 have i10 : ¬ n = 0 := by omega
 have i12 : ¬ cap = 1 := by omega
 have j1 : (n : Int) ≤ (cap : Int) := by omega
 have j3 : ¬ cap = 0 := by omega
 have hw : IntKind.i64.wrap k = k := by rw [IntKind.wrap_i64]; omega
 have HC := hid C
 have HI := hid I
 have d0 := cell_oldx (w := w) (.cells #[.int .i64 0, .int .i64 0, .float .f64 0, .slice none 0 0] 29) c0
 have R := heap_alloc_new w (.cells #[.int .i64 0, .int .i64 0, .float .f64 0, .slice none 0 0] 29)
 have HB := hid (Below.alloc1 w (.cells #[.int .i64 0, .int .i64 0, .float .f64 0, .slice none 0 0] 29))
 have HZ := hid (alloc_size w (.cells #[.int .i64 0, .int .i64 0, .float .f64 0, .slice none 0 0] 29))
 have HR := hid R
 clear R C I c0 hk h1
 go_enter Tryz.func168, Tryz.ntmps168
 go_wp2_with fail
 go_region_held3 (fun W => W.cell? ⟨b, off, none⟩ = some (.int .u8 k))
  (first | exact d0 | (simpa using d0))
  (first
   | (go_at_call 175; refine (HC.out _ (HB.out.trans ((Still.drew _).below _))).mono ?_; rintro e w1 ⟨rfl, h1⟩; subst w1))
 go_wp2_with fail
 refine (HI.out _ (HB.out.trans ((Still.drew _).below _))).mono ?_
 rintro e w1 ⟨s, rfl, o, b1⟩
 obtain ⟨ad1, cap1, rfl, r1, _⟩ := Reads.own o hbd
 have z := HZ.out
 have S1 : w1.heap[w.heap.size]? = _ := (b1.block w.heap.size (by show w.heap.size < (w.alloc _).heap.size; omega)).trans HR.out
 have B1 : Below w.heap.size w w1 := (HB.out.trans ((Still.drew _).below _)).trans (b1.mono (by show w.heap.size ≤ (w.alloc _).heap.size; omega))
 have T1 := hid S1
 have O := hid (show w1.ownsRow (w.heap.size + 1) 5 1 (.slice ad1 RZ.length cap1) RZ.length (bys RZ) by rw [← z]; exact o)
 clear S1 b1 z HZ HB HR o r1 d0
 go_wp2_with (first
  | (refine wpList_store_row rfl 29 (.tmp 4) (.tmp 27) rfl w.heap.size #[.int .i64 RK, .int .i64 RN, .float .f64 f, .slice ad1 RZ.length cap1] rfl rfl 29 _ T1.out ?s1 ?s2 ?s3 ?_))
 case s1 => exact size29
 case s2 => rfl
 case s3 => simp [Value.oneCell']
 refine bodyPost_ret (results_cell_tmp Tryz.results168 _ _ w.heap.size 29 _ (0, 0) _ rfl (setRow_heap _ _ _ _ _ _ T1.out) Tryz.underlying29 rfl size29) rfl ⟨_, rfl, owns_base (owns_at O.out fun k hk => ?_) (by omega), below_setRow B1 (by omega) _⟩
 rw [setRow_other _ _ _ _ (by omega)]
set_option maxRecDepth 100000 in
theorem itemRead_nil (fn : Nat) (ad : Option Addr) (cap : Nat) (w : World) :
 Calls Tryz.prog 168 #[.slice ad 0 cap, .func (.func fn) #[] #[]] w fun e w' => e = .returned (.tuple #[.agg #[.int .i64 0, .int .i64 0, .float .f64 0, .slice none 0 0], .bool false]) ∧ Below w.heap.size w w' := by
 have hst := fun w a m => run_store Tryz.prog w a (.float .f64 0) m rfl
 have R := heap_alloc_new w (.cells #[.int .i64 0, .int .i64 0, .float .f64 0, .slice none 0 0] 29)
 have HB := hid (Below.alloc1 w (.cells #[.int .i64 0, .int .i64 0, .float .f64 0, .slice none 0 0] 29))
 have HR := hid R
 clear R
 go_enter Tryz.func168, Tryz.ntmps168
 go_wp2_with fail
 exact bodyPost_ret (results_cell_tmp Tryz.results168 _ _ w.heap.size 29 _ (0, 0) _ rfl HR.out Tryz.underlying29 rfl size29) rfl ⟨rfl, HB.out⟩
end Go.Proofs.YtkfhfjghfadofaaGreat
/- KeyRead and ValueRead of the program. -/

namespace Go.Proofs.YtkfhfjghfadofaaGreat
open Go.RowKit
theorem readR_bd {d : Nat → Option Nat} {zs : List Int} {RK RN : Int} {RF : Nat} {RZ : List Int} {ok : Bool} (hR : readR d zs = (RK, RN, RF, RZ, ok)) (hz : ∀ i, 0 ≤ zs.getD i 0 ∧ zs.getD i 0 ≤ 255) (hl : zs.length ≤ 1048576) : (∀ i, 0 ≤ RZ.getD i 0 ∧ RZ.getD i 0 ≤ 255) ∧ RZ.length ≤ 1048576 := by
 have key : RZ = [] ∨ ∃ k, zs = k :: RZ := by
  cases zs with
  | nil =>
   simp only [readR, Prod.mk.injEq] at hR
   exact .inl hR.2.2.2.1.symm
  | cons k ts =>
   simp only [readR] at hR
   split at hR
   · split at hR
     · simp only [Prod.mk.injEq] at hR
       exact .inr ⟨k, by rw [hR.2.2.2.1]⟩
     · simp only [Prod.mk.injEq] at hR
       exact .inl hR.2.2.2.1.symm
   · split at hR
     · split at hR
       · simp only [Prod.mk.injEq] at hR
         exact .inl hR.2.2.2.1.symm
       · split at hR
         · split at hR
           · simp only [Prod.mk.injEq] at hR
             exact .inl hR.2.2.2.1.symm
           · simp only [Prod.mk.injEq] at hR
             exact .inl hR.2.2.2.1.symm
         · simp only [Prod.mk.injEq] at hR
           exact .inl hR.2.2.2.1.symm
     · simp only [Prod.mk.injEq] at hR
       exact .inl hR.2.2.2.1.symm
 rcases key with rfl | ⟨k, rfl⟩
 · exact ⟨fun i => by simp, by simp⟩
 · exact ⟨fun i => hz (i + 1), by simp at hl; omega⟩
theorem itemRead_K {ad : Option Addr} {n : Nat} (cap : Nat) (hcap : n ≤ cap) {zs : List Int} {w : World} (h : Reads w ad n zs) (hn : n ≤ 1048576) {RK RN : Int} {RF : Nat} {RZ : List Int} {ok : Bool} (hR : readR unfK zs = (RK, RN, RF, RZ, ok)) :
 Calls Tryz.prog 168 #[.slice ad n cap, .func (.func 169) #[] #[]] w fun e w' => ∃ (f' : Nat) (v : Value), e = .returned (.tuple #[.agg #[.int .i64 RK, .int .i64 RN, .float .f64 f', v], .bool ok]) ∧ f' < 18446744073709551616 ∧ Hid (Same RF f') ∧ w'.ownsRow w.heap.size 5 1 v RZ.length (bys RZ) ∧ Below w.heap.size w w' := by
 have hl := h.len
 have hbdz := h.bd
 have no : ∀ e w', (e = Ending.returned (.tuple #[.agg #[.int .i64 0, .int .i64 0, .float .f64 0, .slice none 0 0], .bool false]) ∧ Below w.heap.size w w') → (0, 0, 0, [], false) = (RK, RN, RF, RZ, ok) → ∃ (f' : Nat) (v : Value), e = .returned (.tuple #[.agg #[.int .i64 RK, .int .i64 RN, .float .f64 f', v], .bool ok]) ∧ f' < 18446744073709551616 ∧ Hid (Same RF f') ∧ w'.ownsRow w.heap.size 5 1 v RZ.length (bys RZ) ∧ Below w.heap.size w w' := by
  rintro e w' ⟨rfl, b⟩ hR
  simp only [Prod.mk.injEq] at hR
  obtain ⟨rfl, rfl, rfl, rfl, rfl⟩ := hR
  exact ⟨_, _, rfl, by omega, hid (Same.refl _), World.ownsRow_nil _ _ _ _, b⟩
 cases zs with
 | nil =>
  obtain rfl : n = 0 := by simpa using hl.symm
  exact (itemRead_nil 169 ad cap w).mono fun e w' hh => no e w' hh hR
 | cons k ts =>
  have hl' : ts.length + 1 = n := by simpa using hl
  obtain ⟨b, off, rfl⟩ := h.pos (by omega)
  have hk : 0 ≤ k ∧ k ≤ 255 := hbdz 0
  have c0 : w.cell? ⟨b, off, none⟩ = some (.int .u8 k) := by
   rcases h.cells with h0 | ⟨b', off', e, hcc⟩
   · omega
   · cases e; exact hcc 0 (by omega)
  have rd := h.rest hcap
  have hbt : ∀ i, 0 ≤ ts.getD i 0 ∧ ts.getD i 0 ≤ 255 := fun i => hbdz (i + 1)
  simp only [readR] at hR
  by_cases h1 : cap = 1
  · subst h1
    obtain rfl : n = 1 := by omega
    obtain rfl : ts = [] := List.eq_nil_of_length_eq_zero (by omega)
    rw [show tl b off 1 = some ⟨b, off, none⟩ from rfl] at rd
    by_cases k3 : k = 3
    · subst k3
      rw [if_pos rfl, if_pos (by simp)] at hR
      simp only [Prod.mk.injEq] at hR
      obtain ⟨rfl, rfl, rfl, rfl, rfl⟩ := hR
      refine (itemRead_yes1 169 b off 3 191 (.slice (some ⟨b, off, none⟩) 0 0) 3 0 0 [] c0 hk (fun i => by simp) (fun W hW => ?_) (fun W hW => ?_)).mono ?_
      · exact read_text 169 (some ⟨b, off, none⟩) 0 0 W
      · exact itemOf_text 0 (rd.below hW (Nat.le_refl _)) (by omega)
      · rintro e w' ⟨s, rfl, o, bb⟩
        exact ⟨_, _, rfl, by omega, hid (Same.refl _), o, bb⟩
    · rw [if_neg k3, if_neg (by simp)] at hR
      refine (itemRead_no1 169 b off k c0 hk (fun W hW => ?_)).mono fun e w' hh => no e w' hh hR
      exact read_short_K k k3 _ 0 0 (by omega) W
  · have ht : tl b off cap = some ⟨b, off + 1, none⟩ := by rw [tl, if_neg h1]
    rw [ht] at rd
    by_cases k3 : k = 3
    · subst k3
      rw [if_pos rfl] at hR
      by_cases h40 : ts.length ≤ 40
      · rw [if_pos h40] at hR
        simp only [Prod.mk.injEq] at hR
        obtain ⟨rfl, rfl, rfl, rfl, rfl⟩ := hR
        refine (itemRead_yes 169 b off n cap hcap (by omega) 3 191 (.slice (some ⟨b, off + 1, none⟩) (n - 1) (cap - 1)) 3 0 0 ts c0 hk (by omega) hn hbt (fun W hW => ?_) (fun W hW => ?_)).mono ?_
        · have := read_text 169 (some ⟨b, off + 1, none⟩) (n - 1) (cap - 1) W
          rw [decide_eq_true (by omega)] at this
          exact this
        · have := itemOf_text (cap - 1) (rd.below hW (Nat.le_refl _)) (by omega)
          rw [show n - 1 = ts.length by omega] at this ⊢
          exact this
        · rintro e w' ⟨s, rfl, o, bb⟩
          exact ⟨_, _, rfl, by omega, hid (Same.refl _), o, bb⟩
      · rw [if_neg h40] at hR
        refine (itemRead_no 169 b off n cap hcap (by omega) 3 c0 hk (by omega) hn (fun W hW => ?_)).mono fun e w' hh => no e w' hh hR
        have := read_text 169 (some ⟨b, off + 1, none⟩) (n - 1) (cap - 1) W
        rw [decide_eq_false (by omega)] at this
        exact this.mono fun e w' ⟨h1, h2⟩ => ⟨_, h1, h2⟩
    · rw [if_neg k3] at hR
      by_cases h8 : ts.length = 8
      · rw [if_pos h8] at hR
        have hn8 : n - 1 = 8 := by omega
        by_cases k1 : k = 1
        · subst k1
          rw [if_pos rfl] at hR
          simp only [Prod.mk.injEq] at hR
          obtain ⟨rfl, rfl, rfl, rfl, rfl⟩ := hR
          refine (itemRead_yes 169 b off n cap hcap (by omega) 1 189 (.int .i64 ((low ts : Int) - 9223372036854775808)) 1 ((low ts : Int) - 9223372036854775808) 0 [] c0 hk (by omega) hn (fun i => by simp) (fun W hW => ?_) (fun W hW => ?_)).mono ?_
          · exact read_int 169 (cap - 1) (rd.below hW (Nat.le_refl _)) hn8
          · refine (itemOf_int _ W).mono ?_
            rintro e w' ⟨rfl, bb⟩
            exact ⟨_, rfl, World.ownsRow_nil _ _ _ _, bb⟩
          · rintro e w' ⟨s, rfl, o, bb⟩
            exact ⟨_, _, rfl, by omega, hid (Same.refl _), o, bb⟩
        · rw [if_neg k1] at hR
          by_cases k2 : k = 2
          · subst k2
            rw [if_pos rfl] at hR
            have hx : low ts < 18446744073709551616 := low_lt ts 0 (by omega)
            cases hd : unfK (low ts) with
            | none =>
             rw [hd] at hR
             refine (itemRead_no 169 b off n cap hcap (by omega) 2 c0 hk (by omega) hn (fun W hW => ?_)).mono fun e w' hh => no e w' hh hR
             refine (read_float_K (cap - 1) (rd.below hW (Nat.le_refl _)) hn8).mono ?_
             rintro e w' ⟨y, ok', rfl, hy, HD, h2⟩
             have := HD.out
             rw [hd] at this
             cases ok' with
             | false => exact ⟨_, rfl, h2⟩
             | true => cases this
            | some y0 =>
             rw [hd] at hR
             simp only [Prod.mk.injEq] at hR
             obtain ⟨rfl, rfl, rfl, rfl, rfl⟩ := hR
             have hy0 : y0 < 18446744073709551616 := by
              unfold unfK at hd
              split at hd
              · cases hd; first | exact back_lt _ hx | exact hx
              · cases hd
             refine (itemRead_yes 169 b off n cap hcap (by omega) 2 190 (.float .f64 y0) 2 0 y0 [] c0 hk (by omega) hn (fun i => by simp) (fun W hW => ?_) (fun W hW => ?_)).mono ?_
             · refine (read_float_K (cap - 1) (rd.below hW (Nat.le_refl _)) hn8).mono ?_
               rintro e w' ⟨y, ok', rfl, hy, HD, h2⟩
               have := HD.out
               rw [hd] at this
               cases ok' with
               | false => cases this
               | true => cases this; exact ⟨rfl, h2⟩
             · refine (itemOf_float _ W).mono ?_
               rintro e w' ⟨rfl, bb⟩
               exact ⟨_, rfl, World.ownsRow_nil _ _ _ _, bb⟩
             · rintro e w' ⟨s, rfl, o, bb⟩
               exact ⟨_, _, rfl, hy0, hid (Same.refl _), o, bb⟩
          · rw [if_neg k2] at hR
            refine (itemRead_no 169 b off n cap hcap (by omega) k c0 hk (by omega) hn (fun W hW => ?_)).mono fun e w' hh => no e w' hh hR
            exact read_other_K k k1 k2 k3 (cap - 1) (rd.below hW (Nat.le_refl _)) hn8
      · rw [if_neg h8] at hR
        refine (itemRead_no 169 b off n cap hcap (by omega) k c0 hk (by omega) hn (fun W hW => ?_)).mono fun e w' hh => no e w' hh hR
        exact read_short_K k k3 _ (n - 1) (cap - 1) (by omega) W
set_option maxRecDepth 100000 in
set_option maxHeartbeats 1600000 in
theorem impl_KeyRead {ad : Option Addr} {n : Nat} (cap : Nat) (hcap : n ≤ cap) {zs : List Int} {w : World} (h : Reads w ad n zs) (hn : n ≤ 1048576) {RK RN : Int} {RF : Nat} {RZ : List Int} {ok : Bool} (hR : readR unfK zs = (RK, RN, RF, RZ, ok)) :
 Calls Tryz.prog 144 #[.slice ad n cap] w fun e w' => ∃ (f' : Nat) (v : Value), e = .returned (.tuple #[.agg #[.int .i64 RK, .int .i64 RN, .float .f64 f', v], .bool ok]) ∧ f' < 18446744073709551616 ∧ Hid (Same RF f') ∧ w'.ownsRow w.heap.size 5 1 v RZ.length (bys RZ) ∧ Below w.heap.size w w' := by
 have hbd := (readR_bd hR h.bd (by rw [h.len]; exact hn)).1
 have HR := hid hR
 have R := heap_alloc_new w (.cells #[.int .i64 0, .int .i64 0, .float .f64 0, .slice none 0 0] 29)
 have HB := hid (Below.alloc1 w (.cells #[.int .i64 0, .int .i64 0, .float .f64 0, .slice none 0 0] 29))
 have HZ := hid (alloc_size w (.cells #[.int .i64 0, .int .i64 0, .float .f64 0, .slice none 0 0] 29))
 have HH := hid (h.alloc (.cells #[.int .i64 0, .int .i64 0, .float .f64 0, .slice none 0 0] 29))
 have H0 := hid R
 clear R hR h
 go_enter Tryz.func144, Tryz.ntmps144
 go_wp2_with fail
 refine (itemRead_K cap hcap HH.out hn HR.out).mono ?_
 rintro e w1 ⟨f', v, rfl, hf', SM, o, b1⟩
 obtain ⟨ad1, cap1, rfl, r1, _⟩ := Reads.own o hbd
 have z := HZ.out
 have S1 := (b1.block w.heap.size (by omega)).trans H0.out
 have B1 := HB.out.trans (b1.mono HB.out.size)
 have T1 := hid S1
 rw [z] at o
 have O := hid o
 clear S1 b1 z HZ HB H0 o r1 HH HR
 go_wp2_with (first
  | (refine wpList_store_row rfl 29 (.tmp 2) (.tmp 6) rfl w.heap.size #[.int .i64 RK, .int .i64 RN, .float .f64 f', .slice ad1 RZ.length cap1] rfl rfl 29 _ T1.out ?s1 ?s2 ?s3 ?_))
 case s1 => exact size29
 case s2 => rfl
 case s3 => simp [Value.oneCell']
 refine bodyPost_ret (results_cell_tmp Tryz.results144 _ _ w.heap.size 29 _ (0, 0) _ rfl (setRow_heap _ _ _ _ _ _ T1.out) Tryz.underlying29 rfl size29) rfl ⟨_, _, rfl, hf', SM, owns_base (owns_at O.out fun k hk => ?_) (by omega), below_setRow B1 (by omega) _⟩
 rw [setRow_other _ _ _ _ (by omega)]
theorem itemRead_V {ad : Option Addr} {n : Nat} (cap : Nat) (hcap : n ≤ cap) {zs : List Int} {w : World} (h : Reads w ad n zs) (hn : n ≤ 1048576) {RK RN : Int} {RF : Nat} {RZ : List Int} {ok : Bool} (hR : readR unfV zs = (RK, RN, RF, RZ, ok)) :
 Calls Tryz.prog 168 #[.slice ad n cap, .func (.func 170) #[] #[]] w fun e w' => ∃ (f' : Nat) (v : Value), e = .returned (.tuple #[.agg #[.int .i64 RK, .int .i64 RN, .float .f64 f', v], .bool ok]) ∧ f' < 18446744073709551616 ∧ Hid (Same RF f') ∧ w'.ownsRow w.heap.size 5 1 v RZ.length (bys RZ) ∧ Below w.heap.size w w' := by
 have hl := h.len
 have hbdz := h.bd
 have no : ∀ e w', (e = Ending.returned (.tuple #[.agg #[.int .i64 0, .int .i64 0, .float .f64 0, .slice none 0 0], .bool false]) ∧ Below w.heap.size w w') → (0, 0, 0, [], false) = (RK, RN, RF, RZ, ok) → ∃ (f' : Nat) (v : Value), e = .returned (.tuple #[.agg #[.int .i64 RK, .int .i64 RN, .float .f64 f', v], .bool ok]) ∧ f' < 18446744073709551616 ∧ Hid (Same RF f') ∧ w'.ownsRow w.heap.size 5 1 v RZ.length (bys RZ) ∧ Below w.heap.size w w' := by
  rintro e w' ⟨rfl, b⟩ hR
  simp only [Prod.mk.injEq] at hR
  obtain ⟨rfl, rfl, rfl, rfl, rfl⟩ := hR
  exact ⟨_, _, rfl, by omega, hid (Same.refl _), World.ownsRow_nil _ _ _ _, b⟩
 cases zs with
 | nil =>
  obtain rfl : n = 0 := by simpa using hl.symm
  exact (itemRead_nil 170 ad cap w).mono fun e w' hh => no e w' hh hR
 | cons k ts =>
  have hl' : ts.length + 1 = n := by simpa using hl
  obtain ⟨b, off, rfl⟩ := h.pos (by omega)
  have hk : 0 ≤ k ∧ k ≤ 255 := hbdz 0
  have c0 : w.cell? ⟨b, off, none⟩ = some (.int .u8 k) := by
   rcases h.cells with h0 | ⟨b', off', e, hcc⟩
   · omega
   · cases e; exact hcc 0 (by omega)
  have rd := h.rest hcap
  have hbt : ∀ i, 0 ≤ ts.getD i 0 ∧ ts.getD i 0 ≤ 255 := fun i => hbdz (i + 1)
  simp only [readR] at hR
  by_cases h1 : cap = 1
  · subst h1
    obtain rfl : n = 1 := by omega
    obtain rfl : ts = [] := List.eq_nil_of_length_eq_zero (by omega)
    rw [show tl b off 1 = some ⟨b, off, none⟩ from rfl] at rd
    by_cases k3 : k = 3
    · subst k3
      rw [if_pos rfl, if_pos (by simp)] at hR
      simp only [Prod.mk.injEq] at hR
      obtain ⟨rfl, rfl, rfl, rfl, rfl⟩ := hR
      refine (itemRead_yes1 170 b off 3 191 (.slice (some ⟨b, off, none⟩) 0 0) 3 0 0 [] c0 hk (fun i => by simp) (fun W hW => ?_) (fun W hW => ?_)).mono ?_
      · exact read_text 170 (some ⟨b, off, none⟩) 0 0 W
      · exact itemOf_text 0 (rd.below hW (Nat.le_refl _)) (by omega)
      · rintro e w' ⟨s, rfl, o, bb⟩
        exact ⟨_, _, rfl, by omega, hid (Same.refl _), o, bb⟩
    · rw [if_neg k3, if_neg (by simp)] at hR
      refine (itemRead_no1 170 b off k c0 hk (fun W hW => ?_)).mono fun e w' hh => no e w' hh hR
      exact read_short_V k k3 _ 0 0 (by omega) W
  · have ht : tl b off cap = some ⟨b, off + 1, none⟩ := by rw [tl, if_neg h1]
    rw [ht] at rd
    by_cases k3 : k = 3
    · subst k3
      rw [if_pos rfl] at hR
      by_cases h40 : ts.length ≤ 40
      · rw [if_pos h40] at hR
        simp only [Prod.mk.injEq] at hR
        obtain ⟨rfl, rfl, rfl, rfl, rfl⟩ := hR
        refine (itemRead_yes 170 b off n cap hcap (by omega) 3 191 (.slice (some ⟨b, off + 1, none⟩) (n - 1) (cap - 1)) 3 0 0 ts c0 hk (by omega) hn hbt (fun W hW => ?_) (fun W hW => ?_)).mono ?_
        · have := read_text 170 (some ⟨b, off + 1, none⟩) (n - 1) (cap - 1) W
          rw [decide_eq_true (by omega)] at this
          exact this
        · have := itemOf_text (cap - 1) (rd.below hW (Nat.le_refl _)) (by omega)
          rw [show n - 1 = ts.length by omega] at this ⊢
          exact this
        · rintro e w' ⟨s, rfl, o, bb⟩
          exact ⟨_, _, rfl, by omega, hid (Same.refl _), o, bb⟩
      · rw [if_neg h40] at hR
        refine (itemRead_no 170 b off n cap hcap (by omega) 3 c0 hk (by omega) hn (fun W hW => ?_)).mono fun e w' hh => no e w' hh hR
        have := read_text 170 (some ⟨b, off + 1, none⟩) (n - 1) (cap - 1) W
        rw [decide_eq_false (by omega)] at this
        exact this.mono fun e w' ⟨h1, h2⟩ => ⟨_, h1, h2⟩
    · rw [if_neg k3] at hR
      by_cases h8 : ts.length = 8
      · rw [if_pos h8] at hR
        have hn8 : n - 1 = 8 := by omega
        by_cases k1 : k = 1
        · subst k1
          rw [if_pos rfl] at hR
          simp only [Prod.mk.injEq] at hR
          obtain ⟨rfl, rfl, rfl, rfl, rfl⟩ := hR
          refine (itemRead_yes 170 b off n cap hcap (by omega) 1 189 (.int .i64 ((low ts : Int) - 9223372036854775808)) 1 ((low ts : Int) - 9223372036854775808) 0 [] c0 hk (by omega) hn (fun i => by simp) (fun W hW => ?_) (fun W hW => ?_)).mono ?_
          · exact read_int 170 (cap - 1) (rd.below hW (Nat.le_refl _)) hn8
          · refine (itemOf_int _ W).mono ?_
            rintro e w' ⟨rfl, bb⟩
            exact ⟨_, rfl, World.ownsRow_nil _ _ _ _, bb⟩
          · rintro e w' ⟨s, rfl, o, bb⟩
            exact ⟨_, _, rfl, by omega, hid (Same.refl _), o, bb⟩
        · rw [if_neg k1] at hR
          by_cases k2 : k = 2
          · subst k2
            rw [if_pos rfl] at hR
            have hx : low ts < 18446744073709551616 := low_lt ts 0 (by omega)
            cases hd : unfV (low ts) with
            | none =>
             rw [hd] at hR
             refine (itemRead_no 170 b off n cap hcap (by omega) 2 c0 hk (by omega) hn (fun W hW => ?_)).mono fun e w' hh => no e w' hh hR
             refine (read_float_V (cap - 1) (rd.below hW (Nat.le_refl _)) hn8).mono ?_
             rintro e w' ⟨y, ok', rfl, hy, HD, h2⟩
             have := HD.out
             rw [hd] at this
             cases ok' with
             | false => exact ⟨_, rfl, h2⟩
             | true => cases this
            | some y0 =>
             rw [hd] at hR
             simp only [Prod.mk.injEq] at hR
             obtain ⟨rfl, rfl, rfl, rfl, rfl⟩ := hR
             have hy0 : y0 < 18446744073709551616 := by
              unfold unfV at hd
              split at hd
              · cases hd; first | exact back_lt _ hx | exact hx
              · cases hd
             refine (itemRead_yes 170 b off n cap hcap (by omega) 2 190 (.float .f64 y0) 2 0 y0 [] c0 hk (by omega) hn (fun i => by simp) (fun W hW => ?_) (fun W hW => ?_)).mono ?_
             · refine (read_float_V (cap - 1) (rd.below hW (Nat.le_refl _)) hn8).mono ?_
               rintro e w' ⟨y, ok', rfl, hy, HD, h2⟩
               have := HD.out
               rw [hd] at this
               cases ok' with
               | false => cases this
               | true => cases this; exact ⟨rfl, h2⟩
             · refine (itemOf_float _ W).mono ?_
               rintro e w' ⟨rfl, bb⟩
               exact ⟨_, rfl, World.ownsRow_nil _ _ _ _, bb⟩
             · rintro e w' ⟨s, rfl, o, bb⟩
               exact ⟨_, _, rfl, hy0, hid (Same.refl _), o, bb⟩
          · rw [if_neg k2] at hR
            refine (itemRead_no 170 b off n cap hcap (by omega) k c0 hk (by omega) hn (fun W hW => ?_)).mono fun e w' hh => no e w' hh hR
            exact read_other_V k k1 k2 k3 (cap - 1) (rd.below hW (Nat.le_refl _)) hn8
      · rw [if_neg h8] at hR
        refine (itemRead_no 170 b off n cap hcap (by omega) k c0 hk (by omega) hn (fun W hW => ?_)).mono fun e w' hh => no e w' hh hR
        exact read_short_V k k3 _ (n - 1) (cap - 1) (by omega) W
set_option maxRecDepth 100000 in
set_option maxHeartbeats 1600000 in
theorem impl_ValueRead {ad : Option Addr} {n : Nat} (cap : Nat) (hcap : n ≤ cap) {zs : List Int} {w : World} (h : Reads w ad n zs) (hn : n ≤ 1048576) {RK RN : Int} {RF : Nat} {RZ : List Int} {ok : Bool} (hR : readR unfV zs = (RK, RN, RF, RZ, ok)) :
 Calls Tryz.prog 145 #[.slice ad n cap] w fun e w' => ∃ (f' : Nat) (v : Value), e = .returned (.tuple #[.agg #[.int .i64 RK, .int .i64 RN, .float .f64 f', v], .bool ok]) ∧ f' < 18446744073709551616 ∧ Hid (Same RF f') ∧ w'.ownsRow w.heap.size 5 1 v RZ.length (bys RZ) ∧ Below w.heap.size w w' := by
 have hbd := (readR_bd hR h.bd (by rw [h.len]; exact hn)).1
 have HR := hid hR
 have R := heap_alloc_new w (.cells #[.int .i64 0, .int .i64 0, .float .f64 0, .slice none 0 0] 29)
 have HB := hid (Below.alloc1 w (.cells #[.int .i64 0, .int .i64 0, .float .f64 0, .slice none 0 0] 29))
 have HZ := hid (alloc_size w (.cells #[.int .i64 0, .int .i64 0, .float .f64 0, .slice none 0 0] 29))
 have HH := hid (h.alloc (.cells #[.int .i64 0, .int .i64 0, .float .f64 0, .slice none 0 0] 29))
 have H0 := hid R
 clear R hR h
 go_enter Tryz.func145, Tryz.ntmps145
 go_wp2_with fail
 refine (itemRead_V cap hcap HH.out hn HR.out).mono ?_
 rintro e w1 ⟨f', v, rfl, hf', SM, o, b1⟩
 obtain ⟨ad1, cap1, rfl, r1, _⟩ := Reads.own o hbd
 have z := HZ.out
 have S1 := (b1.block w.heap.size (by omega)).trans H0.out
 have B1 := HB.out.trans (b1.mono HB.out.size)
 have T1 := hid S1
 rw [z] at o
 have O := hid o
 clear S1 b1 z HZ HB H0 o r1 HH HR
 go_wp2_with (first
  | (refine wpList_store_row rfl 29 (.tmp 2) (.tmp 6) rfl w.heap.size #[.int .i64 RK, .int .i64 RN, .float .f64 f', .slice ad1 RZ.length cap1] rfl rfl 29 _ T1.out ?s1 ?s2 ?s3 ?_))
 case s1 => exact size29
 case s2 => rfl
 case s3 => simp [Value.oneCell']
 refine bodyPost_ret (results_cell_tmp Tryz.results145 _ _ w.heap.size 29 _ (0, 0) _ rfl (setRow_heap _ _ _ _ _ _ T1.out) Tryz.underlying29 rfl size29) rfl ⟨_, _, rfl, hf', SM, owns_base (owns_at O.out fun k hk => ?_) (by omega), below_setRow B1 (by omega) _⟩
 rw [setRow_other _ _ _ _ (by omega)]
end Go.Proofs.YtkfhfjghfadofaaGreat
/- Helps for what is read. -/



namespace Go.Proofs.YtkfhfjghfadofaaGreat
open Go.RowKit
theorem two_rows (w : World) (a b : Obj) : ((w.alloc a).alloc b).heap[w.heap.size]? = some a ∧ ((w.alloc a).alloc b).heap[w.heap.size + 1]? = some b ∧ ((w.alloc a).alloc b).heap.size = w.heap.size + 2 := by
 have z1 := alloc_size w a
 have z2 := alloc_size (w.alloc a) b
 refine ⟨?_, ?_, by omega⟩
 · rw [heap_alloc_old _ _ (by omega)]; exact heap_alloc_new w a
 · have := heap_alloc_new (w.alloc a) b
   rwa [z1] at this
theorem row_cells {w : World} {g : Nat} {K N : Int} {f : Nat} {s : Value} {t : TypeId} (h : w.heap[g]? = some (.cells #[.int .i64 K, .int .i64 N, .float .f64 f, s] t)) :
 w.cell? ⟨g, 0, none⟩ = some (.int .i64 K) ∧ w.cell? ⟨g, 1, none⟩ = some (.int .i64 N) ∧ w.cell? ⟨g, 2, none⟩ = some (.float .f64 f) ∧ w.cell? ⟨g, 3, none⟩ = some s := by
 refine ⟨?_, ?_, ?_, ?_⟩ <;> (rw [cell_of_row _ _ _ _ _ _ h]; rfl)
theorem xor_low (x : Nat) (hx : x < 18446744073709551616) : IntKind.i64.wrap (bits .xor .u64 (x : Int) 9223372036854775808) = (x : Int) - 9223372036854775808 := by
 by_cases h : x < 9223372036854775808
 · have h' := u64_xor_nat x 9223372036854775808 (by omega) (by omega)
   have hx' : x ^^^ 9223372036854775808 = 9223372036854775808 + x := neg_bits' x (by omega)
   rw [hx'] at h'
   rw [show ((9223372036854775808 : Int)) = ((9223372036854775808 : Nat) : Int) from rfl, h', IntKind.wrap_i64]
   omega
 · obtain ⟨y, rfl⟩ : ∃ y, x = 9223372036854775808 + y := ⟨x - 9223372036854775808, by omega⟩
   have h' := u64_xor_nat (9223372036854775808 + y) 9223372036854775808 (by omega) (by omega)
   have hx' : (9223372036854775808 + y) ^^^ 9223372036854775808 = y := by
    have : y ^^^ 9223372036854775808 = 9223372036854775808 + y := neg_bits' y (by omega)
    rw [← this, Nat.xor_assoc, Nat.xor_self, Nat.xor_zero]
   rw [hx'] at h'
   rw [show ((9223372036854775808 : Int)) = ((9223372036854775808 : Nat) : Int) from rfl, h', IntKind.wrap_i64]
   omega
theorem setCell_size (w : World) (p : Addr) (v : Value) : (w.setCell p v).heap.size = w.heap.size := by simp
theorem str_eq {a b : List Int} (ha : inB a) (hb : inB b) : ((str a).toList == (str b).toList) = decide (a = b) := by
 rw [str_list, str_list, eq_txt a b ha hb]
 by_cases h : a = b
 · rw [decide_eq_true h, decide_eq_true ((txt_zero a b).2 h)]
 · rw [decide_eq_false h, decide_eq_false (fun e => h ((txt_zero a b).1 e))]
end Go.Proofs.YtkfhfjghfadofaaGreat
/- Keys' and values' bytes and what is read of them, plain. No conditions. -/



namespace Go.Proofs.YtkfhfjghfadofaaGreat
open Go.RowKit
theorem frank_sm {x y : Nat} (h : Same x y) : frank y = frank x := by
 rcases h with ⟨h1, h2⟩ | ⟨_, rfl⟩
 · rw [frank, frank, if_pos h1, if_pos h2]
 · rfl
theorem fbits_sm {x y : Nat} (h : Same x y) : fbits y = fbits x := by
 rcases h with ⟨h1, h2⟩ | ⟨_, rfl⟩
 · rw [fbits, fbits, if_pos h1, if_pos h2]
 · rfl
theorem hi8_len (x : Nat) : (hi8 x 8).length = 8 := hi8_length x 8
theorem keyB_int (N : Int) : keyB 1 N 0 0 [] = 1 :: hi8 (N + 9223372036854775808).toNat 8 := by
 rw [keyB, if_pos (by rw [okK, show okI 1 N 0 0 = true from decide_eq_true (by omega), decide_eq_true (by omega)]; rfl), bytesI, if_pos rfl]; rfl
theorem valB_int (N : Int) : valB 1 N 0 0 [] = 1 :: hi8 (N + 9223372036854775808).toNat 8 := by
 rw [valB, if_pos ⟨decide_eq_true (by omega), by omega⟩, bytesI, if_pos rfl]; rfl
theorem keyB_float (y : Nat) (h : y ≠ 9223372036854775808) : keyB 2 0 y 0 [] = 2 :: hi8 (frank y) 8 := by
 rw [keyB, if_pos (by rw [okK, show okI 2 0 y 0 = true from decide_eq_true (by omega), decide_eq_true ⟨by omega, h⟩]; rfl), bytesI, if_neg (by decide), if_pos rfl]; rfl
theorem valB_float (y : Nat) : valB 2 0 y 0 [] = 2 :: hi8 (fbits y) 8 := by
 rw [valB, if_pos ⟨decide_eq_true (by omega), by omega⟩, bytesI, if_neg (by decide), if_pos rfl]; rfl
theorem keyB_text (m : Nat) (ts : List Int) (h : m ≤ 40) : keyB 3 0 0 m ts = 3 :: ts := by
 rw [keyB, if_pos (by rw [okK, show okI 3 0 0 m = true from decide_eq_true (by omega), decide_eq_true (by omega)]; rfl), bytesI, if_neg (by decide), if_neg (by decide)]; rfl
theorem valB_text (m : Nat) (ts : List Int) (h : m ≤ 40) : valB 3 0 0 m ts = 3 :: ts := by
 rw [valB, if_pos ⟨decide_eq_true (by omega), by omega⟩, bytesI, if_neg (by decide), if_neg (by decide)]; rfl
theorem keyB_other (k : Int) (k1 : k ≠ 1) (k2 : k ≠ 2) (k3 : k ≠ 3) : keyB k 0 0 0 [] = [] := by
 rw [keyB, if_neg]
 intro h
 have hh := okK_I h
 have := of_decide_eq_true hh.1
 omega
theorem valB_other (k : Int) (k1 : k ≠ 1) (k2 : k ≠ 2) (k3 : k ≠ 3) : valB k 0 0 0 [] = [] := by
 rw [valB, if_neg]
 intro h
 have := of_decide_eq_true h.1
 omega
theorem cons_len {k : Int} {xs ts : List Int} (h : k :: xs = k :: ts) : xs = ts := (List.cons.inj h).2
theorem hi8_ne {x : Nat} {ts : List Int} (h : ts.length ≠ 8) : hi8 x 8 ≠ ts := by
 intro e; rw [← e, hi8_len] at h; exact h rfl
theorem unrank_ne {x y : Nat} {ok : Bool} (hx : x < 18446744073709551616) (h : Unrank x y ok) : y ≠ 9223372036854775808 := by
 rcases h with ⟨h1, _, h2⟩ | ⟨_, _, rfl⟩
 · intro hy
   subst hy
   have h3 := frank_sm h2
   rw [h1] at h3
   have h4 : frank 9223372036854775808 = 9223372036854775808 := by decide
   rw [h4] at h3
   subst h3
   rcases h2 with ⟨_, h5⟩ | ⟨_, h5⟩
   · exact absurd h5 (by decide)
   · exact absurd h5 (by decide)
 · omega
theorem unrank_rank {x y : Nat} {ok : Bool} (h : Unrank x y ok) : (frank y = x ↔ ok = true) ∧ unfK x = if ok = true then some (back x) else none := by
 rcases h with ⟨h1, rfl, h2⟩ | ⟨h1, rfl, rfl⟩
 · exact ⟨⟨fun _ => rfl, fun _ => by rw [frank_sm h2]; exact h1⟩, by rw [unfK, if_pos h1]; rfl⟩
 · refine ⟨⟨fun e => ?_, fun e => by cases e⟩, by rw [unfK, if_neg h1]; rfl⟩
   exfalso
   have h4 : frank 0 = 9223372036854775808 := by decide
   rw [h4] at e
   subst e
   exact h1 (by decide)
end Go.Proofs.YtkfhfjghfadofaaGreat
/- Plain arithmetic on numbers as bytes, low first. No conditions. -/

namespace Go.Proofs.YtkfhfjghfadofaaGreat
open Go.RowKit
set_option maxRecDepth 100000
def sh (n i : Nat) : Nat := n / 256 ^ i
theorem sh_zero (n : Nat) : sh n 0 = n := by simp [sh]
theorem sh_succ (n i : Nat) : sh n (i + 1) = sh n i / 256 := by simp [sh, Nat.pow_succ, Nat.div_div_eq_div_mul]
theorem sh_le (n i : Nat) : sh n i ≤ n := Nat.div_le_self _ _
def dig (n size : Nat) : List Int := (List.range size).map fun i => ((sh n i : Nat) : Int) % 256
theorem dig_length (n size : Nat) : (dig n size).length = size := by simp [dig]
theorem dig_succ (n i : Nat) : dig n (i + 1) = dig n i ++ [((sh n i : Nat) : Int) % 256] := by simp [dig, List.range_succ]
theorem dig_at (n size i : Nat) (h : i < size) : (dig n size).getD i 0 = ((sh n i : Nat) : Int) % 256 := by simp [dig, h]
theorem dig_bd (n size i : Nat) : 0 ≤ (dig n size).getD i 0 ∧ (dig n size).getD i 0 ≤ 255 := by
 by_cases h : i < size
 · rw [dig_at n size i h]; omega
 · simp [dig, h]
def putL (n size : Int) : List Int := if 1 ≤ size ∧ size ≤ 8 ∧ 0 ≤ n ∧ sh n.toNat size.toNat = 0 then dig n.toNat size.toNat else []
theorem putL_bd (n size : Int) (i : Nat) : 0 ≤ (putL n size).getD i 0 ∧ (putL n size).getD i 0 ≤ 255 := by
 unfold putL; split
 · exact dig_bd _ _ _
 · simp
theorem putL_no (n size : Int) (h : ¬ (1 ≤ size ∧ size ≤ 8 ∧ 0 ≤ n)) : putL n size = [] := by
 unfold putL; rw [if_neg (by omega)]
theorem putL_big (n size : Nat) (h : 0 < sh n size) : putL n size = [] := by
 unfold putL; rw [if_neg (by simp; omega)]
theorem putL_yes (n size : Nat) (h1 : 1 ≤ size) (h8 : size ≤ 8) (h : sh n size = 0) : putL n size = dig n size := by
 unfold putL; rw [if_pos (by simp; omega)]; simp
end Go.Proofs.YtkfhfjghfadofaaGreat
/- Plain arithmetic: the number that bytes are, low first, and what GetNum answers. No conditions. -/

namespace Go.Proofs.YtkfhfjghfadofaaGreat
open Go.RowKit
set_option maxRecDepth 100000
def val (f : Nat → Int) : Nat → Nat → Int
 | _, 0 => 0
 | k, c + 1 => val f (k + 1) c * 256 + f k
theorem val_step (f : Nat → Int) (k size : Nat) (h : k < size) : val f k (size - k) = val f (k + 1) (size - (k + 1)) * 256 + f k := by
 obtain ⟨c, hc⟩ : ∃ c, size - k = c + 1 := ⟨size - k - 1, by omega⟩
 rw [hc, show size - (k + 1) = c by omega]; rfl
theorem val_nonneg (f : Nat → Int) (hf : ∀ j, 0 ≤ f j ∧ f j ≤ 255) : ∀ c k, 0 ≤ val f k c
 | 0, k => by simp [val]
 | c + 1, k => by have := val_nonneg f hf c (k + 1); have := hf k; simp only [val]; omega
theorem val_lt (f : Nat → Int) (hf : ∀ j, 0 ≤ f j ∧ f j ≤ 255) : ∀ c k, val f k c < 256 ^ c
 | 0, k => by simp [val]
 | c + 1, k => by
  have := val_lt f hf c (k + 1); have := hf k; simp only [val]
  have e : (256 : Int) ^ (c + 1) = 256 ^ c * 256 := by rw [Int.pow_succ]
  omega
theorem val_top (f : Nat → Int) (hf : ∀ j, 0 ≤ f j ∧ f j ≤ 255) : ∀ c k, f (k + c) ≤ 127 → val f k (c + 1) < 128 * 256 ^ c
 | 0, k, h => by simp [val] at h ⊢; omega
 | c + 1, k, h => by
  have := val_top f hf c (k + 1) (by rw [show k + 1 + c = k + (c + 1) by omega]; exact h)
  have := hf k
  have e : (256 : Int) ^ (c + 1) = 256 ^ c * 256 := by rw [Int.pow_succ]
  rw [show val f k (c + 1 + 1) = val f (k + 1) (c + 1) * 256 + f k from rfl]
  omega
theorem val_top_ge (f : Nat → Int) (hf : ∀ j, 0 ≤ f j ∧ f j ≤ 255) : ∀ c k, 128 ≤ f (k + c) → 128 * 256 ^ c ≤ val f k (c + 1)
 | 0, k, h => by simp [val] at h ⊢; omega
 | c + 1, k, h => by
  have := val_top_ge f hf c (k + 1) (by rw [show k + 1 + c = k + (c + 1) by omega]; exact h)
  have := hf k
  have e : (256 : Int) ^ (c + 1) = 256 ^ c * 256 := by rw [Int.pow_succ]
  rw [show val f k (c + 1 + 1) = val f (k + 1) (c + 1) * 256 + f k from rfl]
  omega
theorem pow256_le (c d : Nat) (h : c ≤ d) : (256 : Int) ^ c ≤ 256 ^ d := by
 induction h with
 | refl => exact Int.le_refl _
 | step h ih => rename_i m; have e : (256 : Int) ^ (m + 1) = 256 ^ m * 256 := by rw [Int.pow_succ]
                have : (0 : Int) < 256 ^ m := Int.pow_pos (by decide)
                omega
theorem val_in (f : Nat → Int) (hf : ∀ j, 0 ≤ f j ∧ f j ≤ 255) (k size : Nat) (h1 : 1 ≤ k) (hk : k ≤ size) (h8 : size ≤ 8) (ht : size = 8 → k ≤ 7 → f 7 ≤ 127) : val f k (size - k) ≤ 36028797018963967 := by
 by_cases e : size = 8 ∧ k ≤ 7
 · obtain ⟨rfl, h7⟩ := e
   have h := val_top f hf (7 - k) k (by rw [show k + (7 - k) = 7 by omega]; exact ht rfl h7)
   rw [show 7 - k + 1 = 8 - k by omega] at h
   have p := pow256_le (7 - k) 6 (by omega)
   have : (256 : Int) ^ 6 = 281474976710656 := by decide
   omega
 · have h := val_lt f hf (size - k) k
   have p := pow256_le (size - k) 6 (by omega)
   have : (256 : Int) ^ 6 = 281474976710656 := by decide
   omega
theorem val_56 (f : Nat → Int) (hf : ∀ j, 0 ≤ f j ∧ f j ≤ 255) (k size : Nat) (h1 : 1 ≤ k) (h8 : size ≤ 8) : val f k (size - k) ≤ 72057594037927935 := by
 have h := val_lt f hf (size - k) k
 have p := pow256_le (size - k) 7 (by omega)
 have : (256 : Int) ^ 7 = 72057594037927936 := by decide
 omega
theorem val_64 (f : Nat → Int) (hf : ∀ j, 0 ≤ f j ∧ f j ≤ 255) (k size : Nat) (h8 : size ≤ 8) : val f k (size - k) ≤ 18446744073709551615 := by
 have h := val_lt f hf (size - k) k
 have p := pow256_le (size - k) 8 (by omega)
 have : (256 : Int) ^ 8 = 18446744073709551616 := by decide
 omega
def byteFrom (zs : List Int) (at' : Nat) (j : Nat) : Int := zs.getD (at' + j) 0
def numAt (zs : List Int) (at' size : Int) : Int := val (byteFrom zs at'.toNat) 0 size.toNat
def numOk (zs : List Int) (at' size : Int) : Bool := decide (1 ≤ size ∧ size ≤ 8 ∧ 0 ≤ at' ∧ at' + size ≤ zs.length ∧ numAt zs at' size ≤ 9223372036854775807)
def numOf (zs : List Int) (at' size : Int) : Int := if numOk zs at' size = true then numAt zs at' size else 0
theorem num_no (zs : List Int) (at' size : Int) (h : ¬ (1 ≤ size ∧ size ≤ 8 ∧ 0 ≤ at' ∧ at' + size ≤ zs.length)) : numOk zs at' size = false ∧ numOf zs at' size = 0 := by
 have e : numOk zs at' size = false := by unfold numOk; rw [decide_eq_false]; omega
 exact ⟨e, by unfold numOf; rw [if_neg (by simp [e])]⟩
theorem num_big (zs : List Int) (at' size : Nat) (h : 9223372036854775807 < val (byteFrom zs at') 0 size) : numOk zs at' size = false ∧ numOf zs at' size = 0 := by
 have e : numOk zs at' size = false := by unfold numOk numAt; rw [decide_eq_false]; simp only [Int.toNat_natCast]; omega
 exact ⟨e, by unfold numOf; rw [if_neg (by simp [e])]⟩
theorem num_yes (zs : List Int) (at' size : Nat) (h1 : 1 ≤ size) (h8 : size ≤ 8) (hl : at' + size ≤ zs.length) (h : val (byteFrom zs at') 0 size ≤ 9223372036854775807) :
 numOk zs at' size = true ∧ numOf zs at' size = val (byteFrom zs at') 0 size := by
 have e : numOk zs at' size = true := by unfold numOk numAt; rw [decide_eq_true]; simp only [Int.toNat_natCast]; omega
 exact ⟨e, by unfold numOf; rw [if_pos e]; simp [numAt]⟩
end Go.Proofs.YtkfhfjghfadofaaGreat
/- Tuples, plain: what is right, their bytes, what is read of bytes. No program, no conditions. -/




namespace Go.Proofs.YtkfhfjghfadofaaGreat
open Go.RowKit
set_option maxRecDepth 100000
def okT (A B K N : Int) (f n : Nat) (L M : Int) (h m : Nat) : Bool := decide (1 ≤ A ∧ A ≤ 400 ∧ 0 ≤ B ∧ B ≤ 400) && (okK K N f n && (okI L M h m && decide (L ≠ 0)))
theorem okT_iff {A B K N : Int} {f n : Nat} {L M : Int} {h m : Nat} : okT A B K N f n L M h m = true ↔ (1 ≤ A ∧ A ≤ 400 ∧ 0 ≤ B ∧ B ≤ 400) ∧ okK K N f n = true ∧ okI L M h m = true ∧ L ≠ 0 := by
 unfold okT
 rw [Bool.and_eq_true, Bool.and_eq_true, Bool.and_eq_true, decide_eq_true_iff, decide_eq_true_iff]
def layT (A B : Int) (ks vs : List Int) : List Int := putL A 4 ++ (putL B 4 ++ ([(ks.length : Int)] ++ (ks ++ ([(vs.length : Int)] ++ vs))))
def bytesT (A B K N : Int) (f n : Nat) (zs : List Int) (L M : Int) (h m : Nat) (ys : List Int) : List Int := if okT A B K N f n L M h m = true then layT A B (keyB K N f n zs) (valB L M h m ys) else []
theorem okI_lim {K N : Int} {f n : Nat} (h : okI K N f n = true) : (0 ≤ K ∧ K ≤ 3) ∧ n ≤ 40 := by
 have := of_decide_eq_true h
 omega
theorem bytesI_len (K N : Int) (B : Nat) (zs : List Int) (h : zs.length ≤ 40) : 1 ≤ (bytesI K N B zs).length ∧ (bytesI K N B zs).length ≤ 41 := by
 unfold bytesI
 split
 · simp [hi8_length]
 · split
   · simp [hi8_length]
   · simp; omega
theorem keyB_len {K N : Int} {f n : Nat} {zs : List Int} (h : zs.length = n) : (keyB K N f n zs).length ≤ 41 := by
 unfold keyB
 split
 · rename_i hk
   unfold okK at hk
   rw [Bool.and_eq_true] at hk
   exact (bytesI_len _ _ _ _ (by have := okI_lim hk.1; omega)).2
 · simp
theorem valB_len {K N : Int} {f n : Nat} {zs : List Int} (h : zs.length = n) : (valB K N f n zs).length ≤ 41 := by
 unfold valB
 split
 · rename_i hk
   exact (bytesI_len _ _ _ _ (by have := okI_lim hk.1; omega)).2
 · simp
end Go.Proofs.YtkfhfjghfadofaaGreat
/- What stays where another row is written. -/

namespace Go.Proofs.YtkfhfjghfadofaaGreat
open Go.RowKit
theorem Box.other {w w' : World} {g : Nat} {K N : Int} {f : Nat} {ad : Option Addr} {n cap : Nat} (b : Box w g K N f ad n cap) {row : Option Nat} (hg : w.grownBy w' row) (h : some g ≠ row) : Box w' g K N f ad n cap :=
 ⟨hg.cell b.c0 h, hg.cell b.c1 h, hg.cell b.c2 h, hg.cell b.c3 h⟩
theorem Arg.other {w w' : World} {g : Nat} {K N : Int} {f : Nat} {ad : Option Addr} {n cap : Nat} {zs ys : List Int} (a : Arg w g K N f ad n cap zs) {row : Option Nat} (hg : w.grownBy w' row) (h : some g ≠ row) (hr : Reads w' ad n ys) : Arg w' g K N f ad n cap ys :=
 ⟨a.box.other hg h, hr, Nat.lt_of_lt_of_le a.lt hg.size⟩
end Go.Proofs.YtkfhfjghfadofaaGreat
/- A tuple in a block of its own, and what it leads to. No statement of its own; no conditions. -/


namespace Go.Proofs.YtkfhfjghfadofaaGreat
open Go.RowKit
set_option maxRecDepth 100000
structure BoxT (w : World) (g : Nat) (A B K N : Int) (f : Nat) (ad : Option Addr) (n cap : Nat) (L M : Int) (h : Nat) (ad' : Option Addr) (m cap' : Nat) : Prop where
 c0 : w.cell? ⟨g, 0, none⟩ = some (.int .i64 A)
 c1 : w.cell? ⟨g, 1, none⟩ = some (.int .i64 B)
 c2 : w.cell? ⟨g, 2, none⟩ = some (.int .i64 K)
 c3 : w.cell? ⟨g, 3, none⟩ = some (.int .i64 N)
 c4 : w.cell? ⟨g, 4, none⟩ = some (.float .f64 f)
 c5 : w.cell? ⟨g, 5, none⟩ = some (.slice ad n cap)
 c6 : w.cell? ⟨g, 6, none⟩ = some (.int .i64 L)
 c7 : w.cell? ⟨g, 7, none⟩ = some (.int .i64 M)
 c8 : w.cell? ⟨g, 8, none⟩ = some (.float .f64 h)
 c9 : w.cell? ⟨g, 9, none⟩ = some (.slice ad' m cap')
section
variable {w w' : World} {g : Nat} {A B K N : Int} {f : Nat} {ad : Option Addr} {n cap : Nat} {L M : Int} {h : Nat} {ad' : Option Addr} {m cap' : Nat}
theorem BoxT.row {t : TypeId} (h0 : w.heap[g]? = some (.cells #[.int .i64 A, .int .i64 B, .int .i64 K, .int .i64 N, .float .f64 f, .slice ad n cap, .int .i64 L, .int .i64 M, .float .f64 h, .slice ad' m cap'] t (0, 0))) : BoxT w g A B K N f ad n cap L M h ad' m cap' := by
 refine ⟨?_, ?_, ?_, ?_, ?_, ?_, ?_, ?_, ?_, ?_⟩ <;> (rw [cell_of_row _ _ _ _ _ _ h0]; rfl)
theorem BoxT.agree (b : BoxT w g A B K N f ad n cap L M h ad' m cap') (e : w'.heap[g]? = w.heap[g]?) : BoxT w' g A B K N f ad n cap L M h ad' m cap' :=
 ⟨(World.cell?_of_block (w := w) (a := ⟨g, 0, none⟩) e).trans b.c0, (World.cell?_of_block (w := w) (a := ⟨g, 1, none⟩) e).trans b.c1, (World.cell?_of_block (w := w) (a := ⟨g, 2, none⟩) e).trans b.c2, (World.cell?_of_block (w := w) (a := ⟨g, 3, none⟩) e).trans b.c3, (World.cell?_of_block (w := w) (a := ⟨g, 4, none⟩) e).trans b.c4, (World.cell?_of_block (w := w) (a := ⟨g, 5, none⟩) e).trans b.c5, (World.cell?_of_block (w := w) (a := ⟨g, 6, none⟩) e).trans b.c6, (World.cell?_of_block (w := w) (a := ⟨g, 7, none⟩) e).trans b.c7, (World.cell?_of_block (w := w) (a := ⟨g, 8, none⟩) e).trans b.c8, (World.cell?_of_block (w := w) (a := ⟨g, 9, none⟩) e).trans b.c9⟩
theorem BoxT.lt (b : BoxT w g A B K N f ad n cap L M h ad' m cap') : g < w.heap.size := World.block_lt_of_cell? w _ b.c0
theorem BoxT.below (b : BoxT w g A B K N f ad n cap L M h ad' m cap') {B0 : Nat} (e : Below B0 w w') (hB : w.heap.size ≤ B0) : BoxT w' g A B K N f ad n cap L M h ad' m cap' := b.agree (e.block g (Nat.lt_of_lt_of_le b.lt hB))
theorem BoxT.other (b : BoxT w g A B K N f ad n cap L M h ad' m cap') {row : Option Nat} (hg : w.grownBy w' row) (hne : some g ≠ row) : BoxT w' g A B K N f ad n cap L M h ad' m cap' := b.agree (hg.block g b.lt hne)
end
theorem BoxT.new (w : World) (A B K N : Int) (f : Nat) (ad : Option Addr) (n cap : Nat) (L M : Int) (h : Nat) (ad' : Option Addr) (m cap' : Nat) (t : TypeId) : BoxT (w.alloc (.cells #[.int .i64 A, .int .i64 B, .int .i64 K, .int .i64 N, .float .f64 f, .slice ad n cap, .int .i64 L, .int .i64 M, .float .f64 h, .slice ad' m cap'] t)) w.heap.size A B K N f ad n cap L M h ad' m cap' := BoxT.row (heap_alloc_new w _)
structure ArgT (w : World) (g : Nat) (A B K N : Int) (f : Nat) (ad : Option Addr) (n cap : Nat) (L M : Int) (h : Nat) (ad' : Option Addr) (m cap' : Nat) (zs ys : List Int) : Prop where
 box : BoxT w g A B K N f ad n cap L M h ad' m cap'
 rk : Reads w ad n zs
 rv : Reads w ad' m ys
section
variable {w w' : World} {g : Nat} {A B K N : Int} {f : Nat} {ad : Option Addr} {n cap : Nat} {L M : Int} {h : Nat} {ad' : Option Addr} {m cap' : Nat} {zs ys zs' ys' : List Int}
theorem ArgT.below (a : ArgT w g A B K N f ad n cap L M h ad' m cap' zs ys) {B0 : Nat} (e : Below B0 w w') (hB : w.heap.size ≤ B0) : ArgT w' g A B K N f ad n cap L M h ad' m cap' zs ys := ⟨a.box.below e hB, a.rk.below e hB, a.rv.below e hB⟩
theorem ArgT.lt (a : ArgT w g A B K N f ad n cap L M h ad' m cap' zs ys) : g < w.heap.size := a.box.lt
theorem ArgT.alloc (a : ArgT w g A B K N f ad n cap L M h ad' m cap' zs ys) (o : Obj) : ArgT (w.alloc o) g A B K N f ad n cap L M h ad' m cap' zs ys := a.below (Below.alloc1 w o) (Nat.le_refl _)
theorem ArgT.other (a : ArgT w g A B K N f ad n cap L M h ad' m cap' zs ys) {row : Option Nat} (hg : w.grownBy w' row) (hne : some g ≠ row) (hk : Reads w' ad n zs') (hv : Reads w' ad' m ys') : ArgT w' g A B K N f ad n cap L M h ad' m cap' zs' ys' := ⟨a.box.other hg hne, hk, hv⟩
end
theorem ArgT.new {w : World} (A B K N : Int) (f : Nat) (ad : Option Addr) (n cap : Nat) (L M : Int) (h : Nat) (ad' : Option Addr) (m cap' : Nat) {zs ys : List Int} (hk : Reads w ad n zs) (hv : Reads w ad' m ys) (t : TypeId) (g : Nat) (hg : g = w.heap.size) : ArgT (w.alloc (.cells #[.int .i64 A, .int .i64 B, .int .i64 K, .int .i64 N, .float .f64 f, .slice ad n cap, .int .i64 L, .int .i64 M, .float .f64 h, .slice ad' m cap'] t)) g A B K N f ad n cap L M h ad' m cap' zs ys := by
 subst hg
 exact ⟨BoxT.new w A B K N f ad n cap L M h ad' m cap' t, hk.alloc _, hv.alloc _⟩
end Go.Proofs.YtkfhfjghfadofaaGreat
/- The contracts of l5in, headOf, limited, inLimits and of both TupleOk. Conditions: texts of at most 2^21 bytes. -/



namespace Go.Proofs.YtkfhfjghfadofaaGreat
open Go.RowKit
set_option maxRecDepth 100000
theorem size_tup : (Tryz.prog.info? 31).map (·.size) = some 10 := by kernel_rfl
theorem size_head : (Tryz.prog.info? 133).map (·.size) = some 2 := by kernel_rfl
theorem spec_in (n lo hi : Int) (w : World) : Calls Tryz.prog 55 #[.int .i64 n, .int .i64 lo, .int .i64 hi] w fun e w' => e = .returned (.bool (decide (lo ≤ n ∧ n ≤ hi))) ∧ w' = w := by
 by_cases h1 : lo ≤ n
 · by_cases h2 : n ≤ hi
   · rw [decide_eq_true ⟨h1, h2⟩]
     go_enter Tryz.func55, Tryz.ntmps55
     go_wp2
     go_ret
     exact ⟨rfl, rfl⟩
   · rw [decide_eq_false (by omega)]
     go_enter Tryz.func55, Tryz.ntmps55
     go_wp2
     go_ret
     exact ⟨rfl, rfl⟩
 · rw [decide_eq_false (by omega)]
   go_enter Tryz.func55, Tryz.ntmps55
   go_wp2
   go_ret
   exact ⟨rfl, rfl⟩
set_option maxHeartbeats 1600000 in
theorem spec_TupleOk (A B K N : Int) (f : Nat) (ad : Option Addr) (n cap : Nat) (L M : Int) (h : Nat) (ad' : Option Addr) (m cap' : Nat) (hf : f < 18446744073709551616) (hh : h < 18446744073709551616) (hn : n ≤ 2097152) (hm : m ≤ 2097152) (w : World) :
 Calls Tryz.prog 26 #[.agg #[.int .i64 A, .int .i64 B, .int .i64 K, .int .i64 N, .float .f64 f, .slice ad n cap, .int .i64 L, .int .i64 M, .float .f64 h, .slice ad' m cap']] w fun e w' => e = .returned (.bool (okT A B K N f n L M h m)) ∧ Below w.heap.size w w' := by
 have hB := hid (BoxT.new w A B K N f ad n cap L M h ad' m cap' 31)
 have HB := hid (Below.alloc1 w (.cells #[.int .i64 A, .int .i64 B, .int .i64 K, .int .i64 N, .float .f64 f, .slice ad n cap, .int .i64 L, .int .i64 M, .float .f64 h, .slice ad' m cap'] 31))
 have i1 := spec_in A 1 400
 have i2 := spec_in B 0 400
 have i3 := spec_KeyOk K N f ad n cap hf hn
 have i4 := spec_ItemOk L M h ad' m cap' hh hm
 have e : okT A B K N f n L M h m = (decide (1 ≤ A ∧ A ≤ 400) && (decide (0 ≤ B ∧ B ≤ 400) && (okK K N f n && (okI L M h m && decide (L ≠ 0))))) := by
  unfold okT
  by_cases h1 : 1 ≤ A ∧ A ≤ 400 <;> by_cases h2 : 0 ≤ B ∧ B ≤ 400 <;> simp [h1, h2]
 rw [e]
 clear e
 generalize decide (1 ≤ A ∧ A ≤ 400) = x1 at *
 generalize decide (0 ≤ B ∧ B ≤ 400) = x2 at *
 generalize okK K N f n = x3 at *
 generalize okI L M h m = x4 at *
 generalize hx5 : decide (L ≠ 0) = x5
 go_enter Tryz.func26, Tryz.ntmps26
 go_wp2_with fail
 refine (i1 _).mono ?_
 rintro e w1 ⟨rfl, h1⟩
 subst w1
 obtain ⟨c0, c1, c2, c3, c4, c5, c6, c7, c8, c9⟩ := hB.out
 clear i1
 cases x1
 · go_wp2_with fail
   go_ret
   exact ⟨rfl, HB.out⟩
 go_wp2_with fail
 refine (i2 _).mono ?_
 rintro e w1 ⟨rfl, h1⟩
 subst w1
 clear i2
 cases x2
 · go_wp2_with fail
   go_ret
   exact ⟨rfl, HB.out⟩
 go_wp2_with fail
 refine (i3 _).mono ?_
 rintro e w1 ⟨rfl, b1⟩
 clear c0 c1 c2 c3 c4 c5 c6 c7 c8 c9 i3
 obtain ⟨c0, c1, c2, c3, c4, c5, c6, c7, c8, c9⟩ := hB.out.below b1 (Nat.le_refl _)
 replace hB := hid (hB.out.below b1 (Nat.le_refl _))
 replace HB := hid (HB.out.trans (b1.mono HB.out.size))
 clear b1
 cases x3
 · go_wp2_with fail
   go_ret
   exact ⟨rfl, HB.out⟩
 go_wp2_with fail
 refine (i4 _).mono ?_
 rintro e w2 ⟨rfl, b1⟩
 clear c0 c1 c2 c3 c4 c5 c6 c7 c8 c9 i4
 obtain ⟨c0, c1, c2, c3, c4, c5, c6, c7, c8, c9⟩ := hB.out.below b1 (Nat.le_refl _)
 replace HB := hid (HB.out.trans (b1.mono HB.out.size))
 clear b1
 cases x4
 · go_wp2_with fail
   go_ret
   exact ⟨rfl, HB.out⟩
 have q : (L != 0) = x5 := by rw [← hx5]; by_cases h0 : L = 0 <;> simp [h0]
 clear hx5
 go_wp2_with fail
 go_ret
 exact ⟨rfl, HB.out⟩
end Go.Proofs.YtkfhfjghfadofaaGreat
/- The contracts of PutNum, the specification's and the program's: both answer the bytes 'putL', in new memory. For every argument. -/



namespace Go.Proofs.YtkfhfjghfadofaaGreat
set_option maxRecDepth 100000
open Go.RowKit
set_option maxHeartbeats 1600000 in
theorem spec_PutNum_yes (n size : Nat) (w : World) (h1 : 1 ≤ size) (h8 : size ≤ 8) (hn : n ≤ 9223372036854775807) :
 Calls Tryz.prog 80 #[.int .i64 n, .int .i64 size] w fun e w' =>
  ∃ v, e = .returned v ∧ w'.ownsRow w.heap.size 5 1 v (putL n size).length (bys (putL n size)) ∧ Below w.heap.size w w' := by
 obtain ⟨i0, hi, hz0, hz1, hz2⟩ := info_parts Tryz.info5
 go_enter Tryz.func80, Tryz.ntmps80
 go_wp2
 go_loopw [0, 5, 6] (fun sn v i wr => ∃ k : Nat, k ≤ size ∧ i = .int .i64 k ∧ sn = .int .i64 (sh n k : Nat) ∧ wr.ownsRow w.heap.size 5 1 v k (bys (dig n k)) ∧ Below w.heap.size w wr) (fun _ _ i _ => size - (intOf i).toNat)
 case atStart => exact ⟨0, Nat.zero_le _, rfl, by rw [sh_zero], World.ownsRow_nil _ _ _ _, Below.refl _ _⟩
 case round =>
  obtain ⟨k, hk, rfl, rfl, hown, hnx⟩ := hrel
  have hsl := sh_le n k
  have hss := hid (sh_succ n k)
  have hds := hid (dig_succ n k)
  generalize hmk0 : sh n k = m at hsl hss hds
  have hmk := hid hmk0
  clear hmk0
  by_cases hlt : k < size
  · go_wp2_with (at_builtin; refine wpList_append_own _ rfl _ _ 22 rfl w.heap.size 5 i0 (.int .u8 0) 1 1 Tryz.underlying22 hi hz0 hz1 hz2 rfl (by decide) _ _ _ rfl (hown.alloc _) ⟨wr.heap.size, 0, none⟩ 1 1 [.int .u8 ((m : Int) % 256)] rfl rfl (cell_one_new _ _ _) ?c2 ?c3 ?c4 ?c5 ?_)
    case c2 => intro u hu; simp at hu; subst hu; rfl
    case c3 => unfold maxLen; omega
    case c4 => omega
    case c5 => have := hnx.size; simp; omega
    intro v' w1 hown' hgrow _
    have hnx' : Below w.heap.size w w1 := (hnx.alloc hnx.size _).grown hgrow (by have := hnx.size; simp; omega) (fun j hj => (hown.lt j hj).1)
    have H1 := hid hown'
    clear hown' hgrow hown hnx
    go_wp2
    go_roundw
    case rel =>
     refine ⟨k + 1, by omega, by go_num, ?_, ?_, hnx'⟩
     · rw [hss.out]; go_num
     · rw [hds.out, bys_append]; exact H1.out
    case measure => simp [intOf]; omega
  · obtain rfl : k = size := by omega
    by_cases hm : 0 < m
    · go_wp2
      go_ret
      exact ⟨_, rfl, by rw [putL_big n k (by rw [hmk.out]; exact hm)]; exact World.ownsRow_nil _ _ _ _, hnx⟩
    · go_wp2
      go_ret
      exact ⟨_, rfl, by rw [putL_yes n k h1 h8 (by rw [hmk.out]; omega), dig_length]; exact hown, hnx⟩
set_option maxHeartbeats 1600000 in
theorem spec_PutNum_no (n size : Int) (w : World) (h : ¬ (1 ≤ size ∧ size ≤ 8 ∧ 0 ≤ n)) :
 Calls Tryz.prog 80 #[.int .i64 n, .int .i64 size] w fun e w' => e = .returned (.slice none 0 0) ∧ w' = w := by
 by_cases a1 : size < 1
 · go_enter Tryz.func80, Tryz.ntmps80
   go_wp2
   go_ret
   exact ⟨rfl, rfl⟩
 by_cases a2 : 8 < size
 · go_enter Tryz.func80, Tryz.ntmps80
   go_wp2
   go_ret
   exact ⟨rfl, rfl⟩
 have a3 : n < 0 := by omega
 go_enter Tryz.func80, Tryz.ntmps80
 go_wp2
 go_ret
 exact ⟨rfl, rfl⟩
theorem spec_PutNum (n size : Int) (w : World) (hn : n ≤ 9223372036854775807) :
 Calls Tryz.prog 80 #[.int .i64 n, .int .i64 size] w fun e w' =>
  ∃ v, e = .returned v ∧ w'.ownsRow w.heap.size 5 1 v (putL n size).length (bys (putL n size)) ∧ Below w.heap.size w w' := by
 by_cases h : 1 ≤ size ∧ size ≤ 8 ∧ 0 ≤ n
 · obtain ⟨N, rfl⟩ := Int.eq_ofNat_of_zero_le h.2.2
   obtain ⟨S, rfl⟩ := Int.eq_ofNat_of_zero_le (show 0 ≤ size by omega)
   exact spec_PutNum_yes N S w (by omega) (by omega) (by omega)
 · refine (spec_PutNum_no n size w h).mono fun e w' ⟨he, hw⟩ => ?_
   subst hw
   exact ⟨_, he, by rw [putL_no n size h]; exact World.ownsRow_nil _ _ _ _, Below.refl _ _⟩
theorem set_dig (n k size : Nat) (hk : k < size) : (bys (dig n k) ++ List.replicate (size - k) (Value.int .u8 0)).set k (.int .u8 ((sh n k : Int) % 256)) = bys (dig n (k + 1)) ++ List.replicate (size - (k + 1)) (Value.int .u8 0) := by
 rw [List.set_append_right _ _ (by simp [bys, dig_length])]
 obtain ⟨m, hm⟩ : ∃ m, size - k = m + 1 := ⟨size - k - 1, by omega⟩
 rw [hm, show size - (k + 1) = m by omega, bys_length, dig_length, Nat.sub_self, List.replicate_succ, List.set_cons_zero, dig_succ, bys_append]
 simp [bys]
set_option maxHeartbeats 1600000 in
theorem impl_PutNum_yes (n size : Nat) (w : World) (h1 : 1 ≤ size) (h8 : size ≤ 8) (hn : n ≤ 9223372036854775807) :
 Calls Tryz.prog 150 #[.int .i64 n, .int .i64 size] w fun e w' =>
  ∃ v, e = .returned v ∧ w'.ownsRow w.heap.size 5 1 v (putL n size).length (bys (putL n size)) ∧ Below w.heap.size w w' := by
 obtain ⟨i0, hi, hz0, hz1, hz2⟩ := info_parts Tryz.info5
 go_enter Tryz.func150, Tryz.ntmps150
 go_wp2_with (at_make; refine wpList_make_full _ rfl _ _ 22 rfl w.heap.size 5 i0 (.int .u8 0) 1 Tryz.underlying22 hi hz0 hz1 _ _ _ _ size rfl rfl (by omega) (by omega) ?b2 ?b3 (Nat.le_refl _) ?_)
 case b2 => rw [hz2]; omega
 case b3 => unfold maxLen; omega
 intro w0 hown0 hgrow0
 go_wp2
 go_loopw [5, 7, 24] (fun r _ i wr => ∃ k : Nat, k ≤ size ∧ i = .int .i64 k ∧ r = .int .u64 (sh n k : Nat) ∧ wr.ownsRow w.heap.size 5 1 (.slice (some ⟨w.heap.size, 0, none⟩) size size) size (bys (dig n k) ++ List.replicate (size - k) (Value.int .u8 0)) ∧ Below w.heap.size w wr)
  (fun _ _ i _ => size - (intOf i).toNat)
 case atStart =>
  refine ⟨0, Nat.zero_le _, rfl, by rw [sh_zero], ?_, (Below.refl _ _).grown hgrow0 (Nat.le_refl _) (fun k h => by cases h)⟩
  rw [toList_madeCells_one] at hown0
  simpa [bys, dig] using hown0
 case round =>
  obtain ⟨k, hk, rfl, rfl, hown, hnx⟩ := hrel
  have hsl := sh_le n k
  have hss := hid (sh_succ n k)
  have hds := hid (fun h => set_dig n k size h)
  generalize hmk0 : sh n k = m at hsl hss hds
  have hmk := hid hmk0
  clear hmk0
  by_cases hlt : k < size
  · have hcy : wr.cell? ⟨w.heap.size, k, none⟩ = some (.int .u8 0) := by
     rw [hown.cellAt k (by omega), List.getElem?_append_right (by simp [bys, dig_length])]
     simp [bys, dig_length, show 0 < size - k by omega]
    have hfr : wr.frozen? ⟨w.heap.size, k, none⟩ = false := hown.frozenAt k
    have R := hown.stored k (.int .u8 ((m : Int) % 256))
    rw [hds.out hlt] at R
    have R1 := hid R
    clear R hown
    go_wp2
    go_roundw
    case rel => exact ⟨k + 1, by omega, by go_num, by rw [hss.out]; go_num, R1.out.1, hnx.setCell (Nat.le_refl _) _⟩
    case measure => simp [intOf]; omega
  · obtain rfl : k = size := by omega
    by_cases hm : 0 < m
    · go_wp2
      go_ret
      exact ⟨_, rfl, by rw [putL_big n k (by rw [hmk.out]; exact hm)]; exact World.ownsRow_nil _ _ _ _, hnx⟩
    · go_wp2
      go_ret
      exact ⟨_, rfl, by rw [putL_yes n k h1 h8 (by rw [hmk.out]; omega), dig_length]; simpa using hown, hnx⟩
set_option maxHeartbeats 1600000 in
theorem impl_PutNum_no (n size : Int) (w : World) (h : ¬ (1 ≤ size ∧ size ≤ 8 ∧ 0 ≤ n)) :
 Calls Tryz.prog 150 #[.int .i64 n, .int .i64 size] w fun e w' => e = .returned (.slice none 0 0) ∧ w' = w := by
 by_cases a3 : n < 0
 · go_enter Tryz.func150, Tryz.ntmps150
   go_wp2
   go_ret
   exact ⟨rfl, rfl⟩
 by_cases a1 : size < 1
 · go_enter Tryz.func150, Tryz.ntmps150
   go_wp2
   go_ret
   exact ⟨rfl, rfl⟩
 have a2 : 8 < size := by omega
 go_enter Tryz.func150, Tryz.ntmps150
 go_wp2
 go_ret
 exact ⟨rfl, rfl⟩
theorem impl_PutNum (n size : Int) (w : World) (hn : n ≤ 9223372036854775807) :
 Calls Tryz.prog 150 #[.int .i64 n, .int .i64 size] w fun e w' =>
  ∃ v, e = .returned v ∧ w'.ownsRow w.heap.size 5 1 v (putL n size).length (bys (putL n size)) ∧ Below w.heap.size w w' := by
 by_cases h : 1 ≤ size ∧ size ≤ 8 ∧ 0 ≤ n
 · obtain ⟨N, rfl⟩ := Int.eq_ofNat_of_zero_le h.2.2
   obtain ⟨S, rfl⟩ := Int.eq_ofNat_of_zero_le (show 0 ≤ size by omega)
   exact impl_PutNum_yes N S w (by omega) (by omega) (by omega)
 · refine (impl_PutNum_no n size w h).mono fun e w' ⟨he, hw⟩ => ?_
   subst hw
   exact ⟨_, he, by rw [putL_no n size h]; exact World.ownsRow_nil _ _ _ _, Below.refl _ _⟩
end Go.Proofs.YtkfhfjghfadofaaGreat
/- The contract of the specification's TupleBytes. Conditions: texts of at most 2^21 bytes. -/




namespace Go.Proofs.YtkfhfjghfadofaaGreat
open Go.RowKit
set_option maxRecDepth 100000
theorem putL_four (n : Int) (h0 : 0 ≤ n) (h1 : n ≤ 4294967295) : (putL n 4).length = 4 := by
 obtain ⟨k, rfl⟩ := Int.eq_ofNat_of_zero_le h0
 have : sh k 4 = 0 := by unfold sh; exact Nat.div_eq_of_lt (by omega)
 show (putL ((k : Nat) : Int) ((4 : Nat) : Int)).length = 4
 rw [putL_yes k 4 (by omega) (by omega) this, dig_length]
theorem bytesI_len' (K N : Int) (B : Nat) (zs : List Int) (h : zs.length ≤ 40) : 0 < (bytesI K N B zs).length ∧ (bytesI K N B zs).length ≤ 41 := bytesI_len K N B zs h
theorem keyB_pos {K N : Int} {f n : Nat} {zs : List Int} (h : okK K N f n = true) (hl : zs.length = n) : 0 < (keyB K N f n zs).length ∧ (keyB K N f n zs).length ≤ 41 := by
 rw [keyB, if_pos h]
 exact bytesI_len' _ _ _ _ (by have := (okI_lim (okK_I h).1).2; omega)
theorem valB_pos {K N : Int} {f n : Nat} {zs : List Int} (h : okI K N f n = true) (h0 : K ≠ 0) (hl : zs.length = n) : 0 < (valB K N f n zs).length ∧ (valB K N f n zs).length ≤ 41 := by
 rw [valB, if_pos ⟨h, h0⟩]
 exact bytesI_len' _ _ _ _ (by have := (okI_lim h).2; omega)
theorem own_some {w : World} {base m : Nat} {v : Value} {zs : List Int} (h : w.ownsRow base 5 1 v m (bys zs)) (hbd : ∀ i, 0 ≤ zs.getD i 0 ∧ zs.getD i 0 ≤ 255) (hm : 0 < m) : ∃ g c, v = .slice (some ⟨g, 0, none⟩) m c ∧ Reads w (some ⟨g, 0, none⟩) m zs ∧ base ≤ g ∧ g < w.heap.size := by
 obtain ⟨ad, c, rfl, r, hh⟩ := Reads.own h hbd
 rcases hh with rfl | ⟨g, rfl, h1, h2⟩
 · rcases r.cells with h0 | ⟨b, o, e, _⟩
   · omega
   · cases e
 · exact ⟨g, c, rfl, r, h1, h2⟩
theorem own_slice {w : World} {base m : Nat} {e : TypeId} {s : Nat} {v : Value} {xs : List Value} (h : w.ownsRow base e s v m xs) : ∃ a c, v = .slice a m c := by
 rcases h.2 with ⟨e, e0⟩ | ⟨g, cap, cur, e, _⟩
 · exact ⟨none, 0, by rw [e, e0]⟩
 · exact ⟨_, cap, e⟩
set_option maxHeartbeats 12800000 in
theorem spec_TupleBytes (A B K N : Int) (f : Nat) {ad : Option Addr} {n : Nat} (cap : Nat) (L M : Int) (h : Nat) {ad' : Option Addr} {m : Nat} (cap' : Nat) {zs ys : List Int} {w : World} (rk : Reads w ad n zs) (rv : Reads w ad' m ys) (hnil : ad = none → cap = 0) (hnil' : ad' = none → cap' = 0) (hn : n ≤ 2097152) (hm : m ≤ 2097152) (hN : -9223372036854775808 ≤ N ∧ N ≤ 9223372036854775807) (hM : -9223372036854775808 ≤ M ∧ M ≤ 9223372036854775807) (hf : f < 18446744073709551616) (hh : h < 18446744073709551616) :
 Calls Tryz.prog 29 #[.agg #[.int .i64 A, .int .i64 B, .int .i64 K, .int .i64 N, .float .f64 f, .slice ad n cap, .int .i64 L, .int .i64 M, .float .f64 h, .slice ad' m cap']] w fun e w' => ∃ v, e = .returned v ∧ w'.ownsRow w.heap.size 5 1 v (bytesT A B K N f n zs L M h m ys).length (bys (bytesT A B K N f n zs L M h m ys)) ∧ Below w.heap.size w w' := by
 have HB := hid (Below.alloc1 w (.cells #[.int .i64 A, .int .i64 B, .int .i64 K, .int .i64 N, .float .f64 f, .slice ad n cap, .int .i64 L, .int .i64 M, .float .f64 h, .slice ad' m cap'] 31))
 have HX := hid (BoxT.new w A B K N f ad n cap L M h ad' m cap' 31)
 have RK := hid (rk.below HB.out (Nat.le_refl _))
 have RV := hid (rv.below HB.out (Nat.le_refl _))
 have HZ := hid (show w.heap.size + 1 ≤ (w.alloc (.cells #[.int .i64 A, .int .i64 B, .int .i64 K, .int .i64 N, .float .f64 f, .slice ad n cap, .int .i64 L, .int .i64 M, .float .f64 h, .slice ad' m cap'] 31)).heap.size from Nat.le_of_eq (alloc_size w _).symm)
 have i0 := spec_TupleOk A B K N f ad n cap L M h ad' m cap' hf hh hn hm
 obtain ⟨ok, hok⟩ : ∃ b, okT A B K N f n L M h m = b := ⟨_, rfl⟩
 rw [hok] at i0
 cases ok
 · have HE := hid (show bytesT A B K N f n zs L M h m ys = [] by unfold bytesT; rw [if_neg (by rw [hok]; simp)])
   clear hok rk rv
   go_enter Tryz.func29, Tryz.ntmps29
   go_wp2_with fail
   refine (i0 _).mono ?_
   rintro e w1 ⟨rfl, b⟩
   replace HB := hid (HB.out.trans (b.mono HB.out.size))
   clear b i0
   go_wp2_with fail
   go_ret
   exact ⟨_, rfl, by rw [HE.out]; exact World.ownsRow_nil _ _ _ _, HB.out⟩
 have HE := hid (show bytesT A B K N f n zs L M h m ys = layT A B (keyB K N f n zs) (valB L M h m ys) by unfold bytesT; rw [if_pos hok])
 obtain ⟨⟨a1, a2, a3, a4⟩, k1, v1, v2⟩ := okT_iff.1 hok
 have lk := keyB_pos (zs := zs) k1 rk.len
 have lv := valB_pos (zs := ys) v1 v2 rv.len
 have bk := (keyB_bd (K := K) (N := N) (f := f) (n := n) (zs := zs) rfl rk.bd (by have := (okI_lim (okK_I k1).1).2; have := rk.len; omega)).1
 have bv := (valB_bd (K := L) (N := M) (f := h) (n := m) (zs := ys) rfl rv.bd (by have := (okI_lim v1).2; have := rv.len; omega)).1
 have e1 := putL_four A (by omega) (by omega)
 have e2 := putL_four B (by omega) (by omega)
 have d1 := putL_bd A 4
 have d2 := putL_bd B 4
 have f1 := fun W => spec_PutNum A 4 W (by omega)
 have f2 := fun W => spec_PutNum B 4 W (by omega)
 unfold layT at HE
 have IK : Hid (∀ W : World, Reads W ad n zs → Calls Tryz.prog 78 #[.agg #[.int .i64 K, .int .i64 N, .float .f64 f, .slice ad n cap]] W fun e w' => ∃ v, e = .returned v ∧ w'.ownsRow W.heap.size 5 1 v (keyB K N f n zs).length (bys (keyB K N f n zs)) ∧ Below W.heap.size W w') := hid fun W r => spec_KeyBytes K N f cap hnil r hn hN.1 hN.2 hf
 have IV : Hid (∀ W : World, Reads W ad' m ys → Calls Tryz.prog 79 #[.agg #[.int .i64 L, .int .i64 M, .float .f64 h, .slice ad' m cap']] W fun e w' => ∃ v, e = .returned v ∧ w'.ownsRow W.heap.size 5 1 v (valB L M h m ys).length (bys (valB L M h m ys)) ∧ Below W.heap.size W w') := hid fun W r => spec_ValueBytes L M h cap' hnil' r hm hM.1 hM.2 hh
 generalize bytesT A B K N f n zs L M h m ys = RES at *
 generalize keyB K N f n zs = KB at *
 generalize valB L M h m ys = VB at *
 generalize putL A 4 = B1 at *
 generalize putL B 4 = B2 at *
 rw [e1] at f1
 rw [e2] at f2
 generalize hkl : KB.length = kl at *
 generalize hvl : VB.length = vl at *
 have wk : IntKind.u8.wrap (kl : Int) = (kl : Int) := by simp [IntKind.wrap, IntKind.bits, IntKind.signed]; omega
 have wv : IntKind.u8.wrap (vl : Int) = (vl : Int) := by simp [IntKind.wrap, IntKind.bits, IntKind.signed]; omega
 have FF := hid (And.intro f1 f2)
 have DD := hid (And.intro d1 (And.intro d2 (And.intro bk bv)))
 clear hok k1 v1 v2 f1 f2 d1 d2 bk bv rk rv
 obtain ⟨i1, hi, hz0, hz1, hz2⟩ := info_parts Tryz.info5
 go_enter Tryz.func29, Tryz.ntmps29
 go_wp2_with fail
 generalize w.alloc (.cells #[.int .i64 A, .int .i64 B, .int .i64 K, .int .i64 N, .float .f64 f, .slice ad n cap, .int .i64 L, .int .i64 M, .float .f64 h, .slice ad' m cap'] 31) = W0 at *
 refine (i0 _).mono ?_
 rintro e w1 ⟨rfl, b⟩
 replace HX := hid (HX.out.below b (Nat.le_refl _))
 replace RK := hid (RK.out.below b (Nat.le_refl _))
 replace RV := hid (RV.out.below b (Nat.le_refl _))
 replace HB := hid (HB.out.trans (b.mono HB.out.size))
 clear b i0 HZ
 obtain ⟨c0, c1, c2, c3, c4, c5, c6, c7, c8, c9⟩ := HX.out
 go_wp2_with fail
 clear c0 c1 c2 c3 c4 c5 c6 c7 c8 c9
 refine (IK.out _ RK.out).mono ?_
 rintro e w2 ⟨v, rfl, o, b⟩
 obtain ⟨gk, ck, rfl, r, _⟩ := own_some o DD.out.2.2.1 lk.1
 replace HX := hid (HX.out.below b (Nat.le_refl _))
 replace RV := hid (RV.out.below b (Nat.le_refl _))
 replace HB := hid (HB.out.trans (b.mono HB.out.size))
 have QK := hid r
 clear b o r IK RK
 obtain ⟨c0, c1, c2, c3, c4, c5, c6, c7, c8, c9⟩ := HX.out
 go_wp2_with fail
 clear c0 c1 c2 c3 c4 c5 c6 c7 c8 c9
 refine (IV.out _ RV.out).mono ?_
 rintro e w3 ⟨v, rfl, o, b⟩
 obtain ⟨gv, cv, rfl, r, _⟩ := own_some o DD.out.2.2.2 lv.1
 replace HX := hid (HX.out.below b (Nat.le_refl _))
 replace QK := hid (QK.out.below b (Nat.le_refl _))
 replace HB := hid (HB.out.trans (b.mono HB.out.size))
 have QV := hid r
 clear b o r IV RV
 obtain ⟨c0, c1, c2, c3, c4, c5, c6, c7, c8, c9⟩ := HX.out
 go_wp2_with fail
 clear c0 c1 c2 c3 c4 c5 c6 c7 c8 c9
 refine (FF.out.1 _).mono ?_
 rintro e w4 ⟨v, rfl, o, b⟩
 obtain ⟨a4, n4, rfl⟩ := own_slice o
 have HW := hid b
 have HO := hid o
 clear b o
 have HX4 := hid (HX.out.below HW.out (Nat.le_refl _))
 obtain ⟨c0, c1, c2, c3, c4, c5, c6, c7, c8, c9⟩ := HX4.out
 clear HX4
 go_wp2_with fail
 clear c0 c1 c2 c3 c4 c5 c6 c7 c8 c9
 refine (FF.out.2 _).mono ?_
 rintro e w5 ⟨v, rfl, o, b⟩
 obtain ⟨g5, c5, rfl, r, _⟩ := own_some o DD.out.2.1 (by omega)
 replace HO := hid (owns_below b (Nat.le_refl _) HO.out)
 replace HW := hid (HW.out.trans (b.mono HW.out.size))
 have HR := hid r
 clear b o r
 go_wp2_with (at_builtin; refine wpList_append_own _ rfl _ _ 22 rfl w3.heap.size 5 i1 (.int .u8 0) 1 1 Tryz.underlying22 hi hz0 hz1 hz2 rfl (by decide) _ _ _ rfl HO.out ⟨g5, 0, none⟩ 4 c5 (bys B2) rfl ?da1 HR.out.news (bys_one _) ?da3 ?da4 ?da5 ?_)
 case da1 => rw [bys_length, e2]
 case da3 => unfold maxLen; omega
 case da4 => omega
 case da5 => have := HW.out.size; simp; try omega
 intro v w6 o g _
 obtain ⟨a6, n6, rfl⟩ := own_slice o
 replace HW := hid (HW.out.grown g HW.out.size (fun k hk => (HO.out.lt k hk).1))
 replace HO := hid o
 clear o g HR
 go_wp2_with (at_builtin; refine wpList_append_own _ rfl _ _ 22 rfl w3.heap.size 5 i1 (.int .u8 0) 1 1 Tryz.underlying22 hi hz0 hz1 hz2 rfl (by decide) _ _ _ rfl (HO.out.alloc _) ⟨w6.heap.size, 0, none⟩ 1 1 [.int .u8 (kl : Int)] rfl ?db1 (cell_one_new _ _ _) ?db2 ?db3 ?db4 ?db5 ?_)
 case db1 => rfl
 case db2 => intro u hu; simp at hu; subst hu; rfl
 case db3 => unfold maxLen; omega
 case db4 => omega
 case db5 => have := HW.out.size; simp; try omega
 intro v w7 o g _
 obtain ⟨a7, n7, rfl⟩ := own_slice o
 replace HW := hid ((HW.out.alloc HW.out.size _).grown g (by have := HW.out.size; simp; omega) (fun k hk => (HO.out.lt k hk).1))
 replace HO := hid o
 clear o g
 have QK7 := hid (QK.out.below HW.out (Nat.le_refl _))
 go_wp2_with (at_builtin; refine wpList_append_own _ rfl _ _ 22 rfl w3.heap.size 5 i1 (.int .u8 0) 1 1 Tryz.underlying22 hi hz0 hz1 hz2 rfl (by decide) _ _ _ rfl HO.out ⟨gk, 0, none⟩ kl ck (bys KB) rfl ?dc1 QK7.out.news (bys_one _) ?dc3 ?dc4 ?dc5 ?_)
 case dc1 => simp [bys_length, hkl]
 case dc3 => unfold maxLen; omega
 case dc4 => omega
 case dc5 => have := HW.out.size; simp; try omega
 intro v w8 o g _
 obtain ⟨a8, n8, rfl⟩ := own_slice o
 replace HW := hid (HW.out.grown g HW.out.size (fun k hk => (HO.out.lt k hk).1))
 replace HO := hid o
 clear o g QK7
 go_wp2_with (at_builtin; refine wpList_append_own _ rfl _ _ 22 rfl w3.heap.size 5 i1 (.int .u8 0) 1 1 Tryz.underlying22 hi hz0 hz1 hz2 rfl (by decide) _ _ _ rfl (HO.out.alloc _) ⟨w8.heap.size, 0, none⟩ 1 1 [.int .u8 (vl : Int)] rfl ?dd1 (cell_one_new _ _ _) ?dd2 ?dd3 ?dd4 ?dd5 ?_)
 case dd1 => rfl
 case dd2 => intro u hu; simp at hu; subst hu; rfl
 case dd3 => unfold maxLen; omega
 case dd4 => omega
 case dd5 => have := HW.out.size; simp; try omega
 intro v w9 o g _
 obtain ⟨a9, n9, rfl⟩ := own_slice o
 replace HW := hid ((HW.out.alloc HW.out.size _).grown g (by have := HW.out.size; simp; omega) (fun k hk => (HO.out.lt k hk).1))
 replace HO := hid o
 clear o g
 have QV9 := hid (QV.out.below HW.out (Nat.le_refl _))
 go_wp2_with (at_builtin; refine wpList_append_own _ rfl _ _ 22 rfl w3.heap.size 5 i1 (.int .u8 0) 1 1 Tryz.underlying22 hi hz0 hz1 hz2 rfl (by decide) _ _ _ rfl HO.out ⟨gv, 0, none⟩ vl cv (bys VB) rfl ?de1 QV9.out.news (bys_one _) ?de3 ?de4 ?de5 ?_)
 case de1 => simp [bys_length, hvl]
 case de3 => unfold maxLen; omega
 case de4 => omega
 case de5 => have := HW.out.size; simp; try omega
 intro v w10 o g _
 obtain ⟨a10, n10, rfl⟩ := own_slice o
 replace HW := hid (HW.out.grown g HW.out.size (fun k hk => (HO.out.lt k hk).1))
 replace HO := hid o
 clear o g QV9
 go_wp2_with fail
 go_ret
 have o := HO.out
 have he : RES.length = 9 + kl + 1 + vl := by rw [HE.out]; simp only [List.length_append, e1, e2, hkl, hvl, List.length_cons, List.length_nil]; omega
 refine ⟨_, rfl, ?_, HB.out.trans (HW.out.mono HB.out.size)⟩
 rw [he, HE.out]
 refine owns_base ?_ HB.out.size
 have eb : bys (B1 ++ (B2 ++ ([(kl : Int)] ++ (KB ++ ([(vl : Int)] ++ VB))))) = bys B1 ++ (bys B2 ++ .int .u8 (kl : Int) :: (bys KB ++ .int .u8 (vl : Int) :: bys VB)) := by simp [bys]
 rw [eb]
 exact o
end Go.Proofs.YtkfhfjghfadofaaGreat
/- Bounds of a tuple's bytes. No program, no conditions. -/


namespace Go.Proofs.YtkfhfjghfadofaaGreat
open Go.RowKit
set_option maxRecDepth 100000
theorem bdapp6 {A B : List Int} (ha : ∀ i, 0 ≤ A.getD i 0 ∧ A.getD i 0 ≤ 255) (hb : ∀ i, 0 ≤ B.getD i 0 ∧ B.getD i 0 ≤ 255) : ∀ i, 0 ≤ (A ++ B).getD i 0 ∧ (A ++ B).getD i 0 ≤ 255 := by
 intro i
 rw [getD_app]
 split
 · exact ha i
 · exact hb _
theorem layT_bd {A B : Int} {ks vs : List Int} (hk : ∀ i, 0 ≤ ks.getD i 0 ∧ ks.getD i 0 ≤ 255) (hv : ∀ i, 0 ≤ vs.getD i 0 ∧ vs.getD i 0 ≤ 255) (lk : ks.length ≤ 41) (lv : vs.length ≤ 41) : ∀ i, 0 ≤ (layT A B ks vs).getD i 0 ∧ (layT A B ks vs).getD i 0 ≤ 255 := by
 have one : ∀ k : Nat, k ≤ 41 → ∀ i, 0 ≤ [(k : Int)].getD i 0 ∧ [(k : Int)].getD i 0 ≤ 255 := fun k hk i => by
  match i with
  | 0 => show 0 ≤ (k : Int) ∧ (k : Int) ≤ 255; omega
  | i + 1 => simp
 unfold layT
 exact bdapp6 (putL_bd A 4) (bdapp6 (putL_bd B 4) (bdapp6 (one _ lk) (bdapp6 hk (bdapp6 (one _ lv) hv))))
theorem bytesT_bd {A B K N : Int} {f n : Nat} {zs : List Int} {L M : Int} {h m : Nat} {ys : List Int} (hz : ∀ i, 0 ≤ zs.getD i 0 ∧ zs.getD i 0 ≤ 255) (hy : ∀ i, 0 ≤ ys.getD i 0 ∧ ys.getD i 0 ≤ 255) (lz : zs.length = n) (ly : ys.length = m) : ∀ i, 0 ≤ (bytesT A B K N f n zs L M h m ys).getD i 0 ∧ (bytesT A B K N f n zs L M h m ys).getD i 0 ≤ 255 := by
 unfold bytesT
 split
 · rename_i hok
   obtain ⟨_, k1, v1, v2⟩ := okT_iff.1 hok
   exact layT_bd (keyB_bd rfl hz (by have := (okI_lim (okK_I k1).1).2; omega)).1 (valB_bd rfl hy (by have := (okI_lim v1).2; omega)).1 (keyB_len lz) (valB_len ly)
 · exact fun i => by simp
end Go.Proofs.YtkfhfjghfadofaaGreat
/- Tuples read of bytes, plain. No program, no conditions. -/


namespace Go.Proofs.YtkfhfjghfadofaaGreat
open Go.RowKit
set_option maxRecDepth 100000
theorem same_zero {y : Nat} (h : Same 0 y) : y = 0 := by
 rcases h with ⟨h1, _⟩ | ⟨_, h2⟩
 · exact absurd h1 (by decide)
 · exact h2
theorem same_top {x y : Nat} (h : Same x y) (hx : x ≠ 9223372036854775808) : y ≠ 9223372036854775808 := by
 rcases h with ⟨_, h2⟩ | ⟨_, rfl⟩
 · intro e; subst e; exact absurd h2 (by decide)
 · exact hx
theorem back_ne {x : Nat} (hx : x < 18446744073709551616) (h : frank (back x) = x) : back x ≠ 9223372036854775808 := by
 intro e
 rw [e] at h
 have h4 : frank 9223372036854775808 = 9223372036854775808 := by decide
 rw [h4] at h
 subst h
 exact absurd e (by decide)
theorem readK_ok {zs : List Int} {RK RN : Int} {RF : Nat} {RZ : List Int} (hR : readR unfK zs = (RK, RN, RF, RZ, true)) (hz : ∀ i, 0 ≤ zs.getD i 0 ∧ zs.getD i 0 ≤ 255) {y : Nat} (hs : Same RF y) :
 okK RK RN y RZ.length = true ∧ keyB RK RN y RZ.length RZ = zs ∧ (-9223372036854775808 ≤ RN ∧ RN ≤ 9223372036854775807) := by
 cases zs with
 | nil => simp [readR] at hR
 | cons k ts =>
  have hbt : ∀ i, 0 ≤ ts.getD i 0 ∧ ts.getD i 0 ≤ 255 := fun i => hz (i + 1)
  simp only [readR] at hR
  by_cases k3 : k = 3
  · subst k3
    rw [if_pos rfl] at hR
    by_cases h40 : ts.length ≤ 40
    · rw [if_pos h40] at hR
      simp only [Prod.mk.injEq] at hR
      obtain ⟨rfl, rfl, rfl, rfl, _⟩ := hR
      obtain rfl := same_zero hs
      exact ⟨by rw [okK, show okI 3 0 0 ts.length = true from decide_eq_true (by omega), decide_eq_true (by omega)]; rfl, keyB_text _ _ h40, by omega⟩
    · rw [if_neg h40] at hR; simp at hR
  · rw [if_neg k3] at hR
    by_cases h8 : ts.length = 8
    · rw [if_pos h8] at hR
      have hx : low ts < 18446744073709551616 := low_lt ts 0 (by omega)
      by_cases k1 : k = 1
      · subst k1
        rw [if_pos rfl] at hR
        simp only [Prod.mk.injEq] at hR
        obtain ⟨rfl, rfl, rfl, rfl, _⟩ := hR
        obtain rfl := same_zero hs
        have hxN : ((low ts : Int) - 9223372036854775808 + 9223372036854775808).toNat = low ts := by omega
        exact ⟨by rw [okK, show okI 1 ((low ts : Int) - 9223372036854775808) 0 ([] : List Int).length = true from decide_eq_true (by simp), decide_eq_true (by omega)]; rfl, by show keyB 1 _ 0 0 [] = _; rw [keyB_int, hxN, hi8_low h8 hbt], by omega⟩
      · rw [if_neg k1] at hR
        by_cases k2 : k = 2
        · subst k2
          rw [if_pos rfl] at hR
          cases hu : unfK (low ts) with
          | none => rw [hu] at hR; simp at hR
          | some y0 =>
           rw [hu] at hR
           simp only [Prod.mk.injEq] at hR
           obtain ⟨rfl, rfl, rfl, rfl, _⟩ := hR
           have hb : frank (back (low ts)) = low ts ∧ y0 = back (low ts) := by
            unfold unfK at hu
            split at hu
            · rename_i h; cases hu; exact ⟨h, rfl⟩
            · cases hu
           obtain ⟨hb, rfl⟩ := hb
           have hy := same_top hs (back_ne hx hb)
           exact ⟨by rw [okK, show okI 2 0 y ([] : List Int).length = true from decide_eq_true (by simp), decide_eq_true ⟨by omega, hy⟩]; rfl, by show keyB 2 0 y 0 [] = _; rw [keyB_float y hy, frank_sm hs, hb, hi8_low h8 hbt], by omega⟩
        · rw [if_neg k2] at hR; simp at hR
    · rw [if_neg h8] at hR; simp at hR
theorem readV_ok {zs : List Int} {RK RN : Int} {RF : Nat} {RZ : List Int} (hR : readR unfV zs = (RK, RN, RF, RZ, true)) (hz : ∀ i, 0 ≤ zs.getD i 0 ∧ zs.getD i 0 ≤ 255) {y : Nat} (hs : Same RF y) :
 okI RK RN y RZ.length = true ∧ RK ≠ 0 ∧ valB RK RN y RZ.length RZ = zs ∧ (-9223372036854775808 ≤ RN ∧ RN ≤ 9223372036854775807) := by
 cases zs with
 | nil => simp [readR] at hR
 | cons k ts =>
  have hbt : ∀ i, 0 ≤ ts.getD i 0 ∧ ts.getD i 0 ≤ 255 := fun i => hz (i + 1)
  simp only [readR] at hR
  by_cases k3 : k = 3
  · subst k3
    rw [if_pos rfl] at hR
    by_cases h40 : ts.length ≤ 40
    · rw [if_pos h40] at hR
      simp only [Prod.mk.injEq] at hR
      obtain ⟨rfl, rfl, rfl, rfl, _⟩ := hR
      obtain rfl := same_zero hs
      exact ⟨decide_eq_true (by omega), by omega, valB_text _ _ h40, by omega⟩
    · rw [if_neg h40] at hR; simp at hR
  · rw [if_neg k3] at hR
    by_cases h8 : ts.length = 8
    · rw [if_pos h8] at hR
      have hx : low ts < 18446744073709551616 := low_lt ts 0 (by omega)
      by_cases k1 : k = 1
      · subst k1
        rw [if_pos rfl] at hR
        simp only [Prod.mk.injEq] at hR
        obtain ⟨rfl, rfl, rfl, rfl, _⟩ := hR
        obtain rfl := same_zero hs
        have hxN : ((low ts : Int) - 9223372036854775808 + 9223372036854775808).toNat = low ts := by omega
        exact ⟨decide_eq_true (by simp), by omega, by show valB 1 _ 0 0 [] = _; rw [valB_int, hxN, hi8_low h8 hbt], by omega⟩
      · rw [if_neg k1] at hR
        by_cases k2 : k = 2
        · subst k2
          rw [if_pos rfl] at hR
          cases hu : unfV (low ts) with
          | none => rw [hu] at hR; simp at hR
          | some y0 =>
           rw [hu] at hR
           simp only [Prod.mk.injEq] at hR
           obtain ⟨rfl, rfl, rfl, rfl, _⟩ := hR
           have hb : fbits (low ts) = low ts ∧ y0 = low ts := by
            unfold unfV at hu
            split at hu
            · rename_i h; cases hu; exact ⟨h, rfl⟩
            · cases hu
           obtain ⟨hb, rfl⟩ := hb
           exact ⟨decide_eq_true (by simp), by omega, by show valB 2 0 y 0 [] = _; rw [valB_float y, fbits_sm hs, hb, hi8_low h8 hbt], by omega⟩
        · rw [if_neg k2] at hR; simp at hR
    · rw [if_neg h8] at hR; simp at hR
theorem readR_len {d : Nat → Option Nat} {zs : List Int} {RK RN : Int} {RF : Nat} {RZ : List Int} (hR : readR d zs = (RK, RN, RF, RZ, true)) : 1 ≤ zs.length ∧ zs.length ≤ 41 := by
 cases zs with
 | nil => simp [readR] at hR
 | cons k ts =>
  simp only [readR] at hR
  simp only [List.length_cons]
  split at hR
  · split at hR
    · omega
    · simp at hR
  · split at hR
    · omega
    · simp at hR
def tkl (zs : List Int) : Nat := (zs.getD 8 0).toNat
def keyP (zs : List Int) : List Int := (zs.drop 9).take (tkl zs)
def valP (zs : List Int) : List Int := zs.drop (10 + tkl zs)
def whole (zs : List Int) : Bool := decide (10 + tkl zs ≤ zs.length ∧ zs.getD (9 + tkl zs) 0 = ((zs.length - (10 + tkl zs) : Nat) : Int))
def limT (zs : List Int) : Bool := decide (1 ≤ numOf zs 0 4 ∧ numOf zs 0 4 ≤ 400 ∧ 0 ≤ numOf zs 4 4 ∧ numOf zs 4 4 ≤ 400)
structure Tu where
 A : Int
 B : Int
 K : Int
 N : Int
 F : Nat
 Z : List Int
 L : Int
 M : Int
 H : Nat
 Y : List Int
 ok : Bool
def t0 : Tu := ⟨0, 0, 0, 0, 0, [], 0, 0, 0, [], false⟩
def readT (zs : List Int) : Tu :=
 if (whole zs && (limT zs && ((readR unfK (keyP zs)).2.2.2.2 && (readR unfV (valP zs)).2.2.2.2))) = true then
  ⟨numOf zs 0 4, numOf zs 4 4, (readR unfK (keyP zs)).1, (readR unfK (keyP zs)).2.1, (readR unfK (keyP zs)).2.2.1, (readR unfK (keyP zs)).2.2.2.1, (readR unfV (valP zs)).1, (readR unfV (valP zs)).2.1, (readR unfV (valP zs)).2.2.1, (readR unfV (valP zs)).2.2.2.1, true⟩
 else t0
theorem readT_no {zs : List Int} (h : ¬ (whole zs = true ∧ limT zs = true ∧ (readR unfK (keyP zs)).2.2.2.2 = true ∧ (readR unfV (valP zs)).2.2.2.2 = true)) : readT zs = t0 := by
 unfold readT
 rw [if_neg]
 rw [Bool.and_eq_true, Bool.and_eq_true, Bool.and_eq_true]
 exact h
theorem readT_yes {zs : List Int} {RK RN : Int} {RF : Nat} {RZ : List Int} {SK SN : Int} {SF : Nat} {SZ : List Int} (h1 : whole zs = true) (h2 : limT zs = true) (hk : readR unfK (keyP zs) = (RK, RN, RF, RZ, true)) (hv : readR unfV (valP zs) = (SK, SN, SF, SZ, true)) :
 readT zs = ⟨numOf zs 0 4, numOf zs 4 4, RK, RN, RF, RZ, SK, SN, SF, SZ, true⟩ := by
 unfold readT
 rw [hk, hv, h1, h2]
 rfl
theorem drop_bd {zs : List Int} (h : ∀ i, 0 ≤ zs.getD i 0 ∧ zs.getD i 0 ≤ 255) (k : Nat) : ∀ i, 0 ≤ (zs.drop k).getD i 0 ∧ (zs.drop k).getD i 0 ≤ 255 := by
 intro i
 have := h (k + i)
 simpa [List.getD, List.getElem?_drop] using this
theorem take_bd {zs : List Int} (h : ∀ i, 0 ≤ zs.getD i 0 ∧ zs.getD i 0 ≤ 255) (k : Nat) : ∀ i, 0 ≤ (zs.take k).getD i 0 ∧ (zs.take k).getD i 0 ≤ 255 := by
 intro i
 by_cases hi : i < k
 · have := h i
   simpa [List.getD, List.getElem?_take, hi] using this
 · simp [List.getD, List.getElem?_take, hi]
theorem four {zs : List Int} (k : Nat) (h : k + 4 ≤ zs.length) : (zs.drop k).take 4 = [zs.getD k 0, zs.getD (k + 1) 0, zs.getD (k + 2) 0, zs.getD (k + 3) 0] := by
 apply List.ext_getElem?
 intro i
 rw [List.getElem?_take, List.getElem?_drop]
 match i with
 | 0 => simp [List.getD, List.getElem?_eq_getElem (show k < zs.length by omega)]
 | 1 => simp [List.getD, List.getElem?_eq_getElem (show k + 1 < zs.length by omega)]
 | 2 => simp [List.getD, List.getElem?_eq_getElem (show k + 2 < zs.length by omega)]
 | 3 => simp [List.getD, List.getElem?_eq_getElem (show k + 3 < zs.length by omega)]
 | i + 4 => simp; omega
theorem putL_num {zs : List Int} (hz : ∀ i, 0 ≤ zs.getD i 0 ∧ zs.getD i 0 ≤ 255) (k : Nat) (h : k + 4 ≤ zs.length) :
 putL (numOf zs k 4) 4 = (zs.drop k).take 4 ∧ 0 ≤ numOf zs k 4 ∧ numOf zs k 4 ≤ 4294967295 := by
 have b0 := hz k
 have b1 := hz (k + 1)
 have b2 := hz (k + 2)
 have b3 := hz (k + 3)
 have ev : val (byteFrom zs k) 0 4 = ((zs.getD (k + 3) 0 * 256 + zs.getD (k + 2) 0) * 256 + zs.getD (k + 1) 0) * 256 + zs.getD k 0 := by
  simp [val, byteFrom]
 have hy := (num_yes zs k 4 (by omega) (by omega) h (by rw [ev]; omega)).2
 have hy' : numOf zs k 4 = ((zs.getD (k + 3) 0 * 256 + zs.getD (k + 2) 0) * 256 + zs.getD (k + 1) 0) * 256 + zs.getD k 0 := by rw [← ev]; exact hy
 rw [hy', four k h]
 generalize zs.getD k 0 = x0 at *
 generalize zs.getD (k + 1) 0 = x1 at *
 generalize zs.getD (k + 2) 0 = x2 at *
 generalize zs.getD (k + 3) 0 = x3 at *
 obtain ⟨y0, rfl⟩ := Int.eq_ofNat_of_zero_le b0.1
 obtain ⟨y1, rfl⟩ := Int.eq_ofNat_of_zero_le b1.1
 obtain ⟨y2, rfl⟩ := Int.eq_ofNat_of_zero_le b2.1
 obtain ⟨y3, rfl⟩ := Int.eq_ofNat_of_zero_le b3.1
 have en : (((y3 : Int) * 256 + y2) * 256 + y1) * 256 + y0 = ((((y3 * 256 + y2) * 256 + y1) * 256 + y0 : Nat) : Int) := by omega
 rw [en]
 refine ⟨?_, by omega, by omega⟩
 have es : sh (((y3 * 256 + y2) * 256 + y1) * 256 + y0) 4 = 0 := by unfold sh; exact Nat.div_eq_of_lt (by omega)
 show putL (((((y3 * 256 + y2) * 256 + y1) * 256 + y0 : Nat) : Int)) ((4 : Nat) : Int) = _
 rw [putL_yes _ 4 (by omega) (by omega) es]
 simp only [dig, List.range_succ, List.range_zero, List.nil_append, List.map_append, List.map_cons, List.map_nil, sh]
 simp
 omega
theorem parts_eq {zs : List Int} (h : 10 + tkl zs ≤ zs.length) : zs = zs.take 4 ++ ((zs.drop 4).take 4 ++ ([zs.getD 8 0] ++ (keyP zs ++ ([zs.getD (9 + tkl zs) 0] ++ valP zs)))) := by
 have h9 : ∀ k, k < zs.length → zs.drop k = zs.getD k 0 :: zs.drop (k + 1) := fun k hk => drop_cons zs k hk
 have e1 : zs.drop (9 + tkl zs) = [zs.getD (9 + tkl zs) 0] ++ valP zs := by
  rw [h9 _ (by omega)]
  simp only [valP, List.singleton_append]
  rw [show 9 + tkl zs + 1 = 10 + tkl zs by omega]
 have e2 : zs.drop 9 = keyP zs ++ zs.drop (9 + tkl zs) := by
  rw [keyP, ← List.drop_drop]
  exact (List.take_append_drop _ _).symm
 have e3 : zs.drop 8 = [zs.getD 8 0] ++ zs.drop 9 := by rw [h9 8 (by omega)]; rfl
 have e4 : zs.drop 4 = (zs.drop 4).take 4 ++ zs.drop 8 := by
  conv => lhs; rw [← List.take_append_drop 4 (zs.drop 4)]
  rw [List.drop_drop]
 rw [← e1, ← e2, ← e3, ← e4]
 exact (List.take_append_drop 4 zs).symm
theorem bytes_back {zs : List Int} (hz : ∀ i, 0 ≤ zs.getD i 0 ∧ zs.getD i 0 ≤ 255) (h : 10 + tkl zs ≤ zs.length) {RK RN : Int} {RF : Nat} {RZ : List Int} {SK SN : Int} {SF : Nat} {SZ : List Int}
 (hk : readR unfK (keyP zs) = (RK, RN, RF, RZ, true)) (hv : readR unfV (valP zs) = (SK, SN, SF, SZ, true)) {y x : Nat} (hy : Same RF y) (hx : Same SF x) :
 bytesT (numOf zs 0 4) (numOf zs 4 4) RK RN y RZ.length RZ SK SN x SZ.length SZ = zs ↔ whole zs = true ∧ limT zs = true := by
 obtain ⟨k1, k2, _⟩ := readK_ok hk (take_bd (drop_bd hz 9) _) hy
 obtain ⟨v1, v2, v3, _⟩ := readV_ok hv (drop_bd hz _) hx
 have hl : limT zs = true ↔ okT (numOf zs 0 4) (numOf zs 4 4) RK RN y RZ.length SK SN x SZ.length = true := by
  rw [okT_iff, limT, decide_eq_true_iff]
  exact ⟨fun h => ⟨h, k1, v1, v2⟩, fun h => h.1⟩
 obtain ⟨p1, _⟩ := putL_num hz 0 (by omega)
 obtain ⟨p2, _⟩ := putL_num hz 4 (by omega)
 have hkl : (keyP zs).length = tkl zs := by simp [keyP]; omega
 have hvl : (valP zs).length = zs.length - (10 + tkl zs) := by simp [valP]
 have h8 : zs.getD 8 0 = (tkl zs : Int) := by unfold tkl; have := (hz 8).1; omega
 have e : layT (numOf zs 0 4) (numOf zs 4 4) (keyP zs) (valP zs) = zs.take 4 ++ ((zs.drop 4).take 4 ++ ([zs.getD 8 0] ++ (keyP zs ++ ([((zs.length - (10 + tkl zs) : Nat) : Int)] ++ valP zs)))) := by
  have p1' : putL (numOf zs 0 4) 4 = zs.take 4 := p1
  have p2' : putL (numOf zs 4 4) 4 = (zs.drop 4).take 4 := p2
  rw [layT, p1', p2', hkl, hvl, h8]
 rw [bytesT, k2, v3]
 constructor
 · intro hb
   by_cases ho : okT (numOf zs 0 4) (numOf zs 4 4) RK RN y RZ.length SK SN x SZ.length = true
   · refine ⟨?_, hl.2 ho⟩
     rw [if_pos ho, e] at hb
     conv at hb => rhs; rw [parts_eq h]
     have c1 := List.append_cancel_left hb
     have c2 := List.append_cancel_left c1
     have c3 := List.append_cancel_left c2
     have c4 := List.append_cancel_left c3
     have c5 := List.append_cancel_right c4
     rw [whole, decide_eq_true_iff]
     exact ⟨h, (List.cons.inj c5).1.symm⟩
   · rw [if_neg ho] at hb
     rw [← hb] at h
     simp at h
 · rintro ⟨hw, hm⟩
   rw [if_pos (hl.1 hm), e]
   rw [whole, decide_eq_true_iff] at hw
   rw [← hw.2]
   exact (parts_eq h).symm
theorem whole_10 {zs : List Int} (h : whole zs = true) : 10 + tkl zs ≤ zs.length := by
 rw [whole, decide_eq_true_iff] at h; exact h.1
end Go.Proofs.YtkfhfjghfadofaaGreat
