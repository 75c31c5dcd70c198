/- FnExactTreeSpan's walk. Conditions: none but what the arguments' types say. -/
import Derived.Test.YtnjofaiekofamaaMd11
import Derived.Test.YtnjofaiekofamaaMe11
import Derived.Test.YtnjofaiekofamaaKw11
import Derived.Test.YtnjofaiekofamaaKg11
import Derived.Test.YtnjofaiekofamaaMga
import Derived.Deep.RegionHeld3
namespace Go.Proofs.Ytnjofaiekofamaa
open Go.RowKit
set_option maxRecDepth 100000

set_option maxHeartbeats 25600000 in
theorem exactTreeSpan {a : Option Addr} {n : Nat} (c : Nat) (rt : Int) {ds : List Nd} (K1 N1 : Int) {f1 : Nat} {ka1 : Option Addr} {kn1 : Nat} (kc1 : Nat) {zs1 : List Int} (K2 N2 : Int) {f2 : Nat} {ka2 : Option Addr} {kn2 : Nat} (kc2 : Nat) {zs2 : List Int} {w : World} (h : ReadsD w a ds) (hl : ds.length = n) (hn0 : n ≤ maxLen) (hk1 : Reads w ka1 kn1 zs1) (hkn1 : kn1 ≤ maxLen) (hf1 : f1 < 18446744073709551616) (hk2 : Reads w ka2 kn2 zs2) (hkn2 : kn2 ≤ maxLen) (hf2 : f2 < 18446744073709551616) :
    Calls Try.prog 9 #[.agg #[.slice a n c, .int .i64 rt], .agg #[.int .i64 K1, .int .i64 N1, .float .f64 f1, .slice ka1 kn1 kc1], .agg #[.int .i64 K2, .int .i64 N2, .float .f64 f2, .slice ka2 kn2 kc2]] w fun e w' => e = .returned (.bool true) ∧ Below w.heap.size w w' := by
  unfold maxLen at hn0
  unfold maxLen at hkn1
  obtain rfl : zs1.length = kn1 := hk1.len
  have hst1 := fun w a m => run_store Try.prog w a (.float .f64 f1) m rfl
  have Zbd1 := hid hk1.bd
  unfold maxLen at hkn2
  obtain rfl : zs2.length = kn2 := hk2.len
  have hst2 := fun w a m => run_store Try.prog w a (.float .f64 f2) m rfl
  have Zbd2 := hid hk2.bd
  have z0 := alloc_size w (.cells #[.slice a n c, .int .i64 rt] 53)
  have z1 := alloc_size (w.alloc (.cells #[.slice a n c, .int .i64 rt] 53)) (.cells #[.int .i64 K1, .int .i64 N1, .float .f64 f1, .slice ka1 zs1.length kc1] 58)
  have z2 := alloc_size ((w.alloc (.cells #[.slice a n c, .int .i64 rt] 53)).alloc (.cells #[.int .i64 K1, .int .i64 N1, .float .f64 f1, .slice ka1 zs1.length kc1] 58)) (.cells #[.int .i64 K2, .int .i64 N2, .float .f64 f2, .slice ka2 zs2.length kc2] 58)
  have bb0 := Below.alloc1 w (.cells #[.slice a n c, .int .i64 rt] 53)
  have bb1 := Below.alloc1 (w.alloc (.cells #[.slice a n c, .int .i64 rt] 53)) (.cells #[.int .i64 K1, .int .i64 N1, .float .f64 f1, .slice ka1 zs1.length kc1] 58)
  have bb2 := Below.alloc1 ((w.alloc (.cells #[.slice a n c, .int .i64 rt] 53)).alloc (.cells #[.int .i64 K1, .int .i64 N1, .float .f64 f1, .slice ka1 zs1.length kc1] 58)) (.cells #[.int .i64 K2, .int .i64 N2, .float .f64 f2, .slice ka2 zs2.length kc2] 58)
  have HA0 := hid (((ArgTr.new n c rt h 53 w.heap.size rfl).below bb1 (Nat.le_refl _)).below bb2 (Nat.le_refl _))
  have HK10 := hid ((Arg.new K1 N1 f1 kc1 (hk1.below (bb0) (Nat.le_refl _)) 58 (w.heap.size + 1) (by omega)).below bb2 (Nat.le_refl _))
  have HK20 := hid (Arg.new K2 N2 f2 kc2 (hk2.below ((bb0).trans (bb1.mono (bb0).size)) (Nat.le_refl _)) 58 (w.heap.size + 2) (by omega))
  have HB0 := hid (show Below w.heap.size w (((w.alloc (.cells #[.slice a n c, .int .i64 rt] 53)).alloc (.cells #[.int .i64 K1, .int .i64 N1, .float .f64 f1, .slice ka1 zs1.length kc1] 58)).alloc (.cells #[.int .i64 K2, .int .i64 N2, .float .f64 f2, .slice ka2 zs2.length kc2] 58)) from ((bb0).trans (bb1.mono (bb0).size)).trans (bb2.mono ((bb0).trans (bb1.mono (bb0).size)).size))
  have S0 := hid (show (((w.alloc (.cells #[.slice a n c, .int .i64 rt] 53)).alloc (.cells #[.int .i64 K1, .int .i64 N1, .float .f64 f1, .slice ka1 zs1.length kc1] 58)).alloc (.cells #[.int .i64 K2, .int .i64 N2, .float .f64 f2, .slice ka2 zs2.length kc2] 58)).heap.size = w.heap.size + 3 by omega)
  have HA := HA0
  have HK1 := HK10
  have HK2 := HK20
  clear h hk1 hk2 z0 bb0 z1 bb1 z2 bb2
  go_enter Try.func9, Try.ntmps9
  have y0 := HA.out.box.c0
  have y1 := HA.out.box.c1
  go_wp2_with fail
  clear y0 y1
  generalize (((w.alloc (.cells #[.slice a n c, .int .i64 rt] 53)).alloc (.cells #[.int .i64 K1, .int .i64 N1, .float .f64 f1, .slice ka1 zs1.length kc1] 58)).alloc (.cells #[.int .i64 K2, .int .i64 N2, .float .f64 f2, .slice ka2 zs2.length kc2] 58)) = W0 at *
  have HC := hid (Below.refl W0.heap.size W0)
  refine (szTree c rt HA.out.reads hl (by omega) 1048576 (by omega) (by omega)).mono ?_
  rintro e w1 ⟨rfl, b⟩
  replace HA := hid (HA.out.below b (Nat.le_refl _))
  replace HK1 := hid (HK1.out.below b (Nat.le_refl _))
  replace HK2 := hid (HK2.out.below b (Nat.le_refl _))
  replace HC := hid (HC.out.trans (b.mono HC.out.size))
  have S1 := hid (b.size)
  clear b
  by_cases hbig : (1048576 : Int) < (n + sumD szD ds : Nat)
  · rw [show lft11 1048576 (n + sumD szD ds) = -1 by unfold lft11; rw [if_pos hbig]]
    go_wp2_with fail
    go_ret
    exact ⟨rfl, HB0.out.trans (HC.out.mono HB0.out.size)⟩
  obtain ⟨LF0, hLF⟩ : ∃ LF : Int, (1048576 : Int) - (n + sumD szD ds : Nat) = LF := ⟨_, rfl⟩
  rw [show lft11 1048576 (n + sumD szD ds) = LF0 by unfold lft11; rw [if_neg hbig, hLF]]
  have hq0 : ¬ LF0 < 0 := by omega
  have hLF0 : LF0 ≤ 1048576 := by omega
  have hn : n ≤ 1048576 := by omega
  have hsz : sumD szD ds ≤ 1048576 := by omega
  have HTx := hid (show ∀ i j, ((ds.getD i nd0).es.getD j en0).Z.length ≤ 2097152 from fun i j => Nat.le_trans (texts_small hsz i j) (by omega))
  have hnm := sumD_nm ds
  rw [hl] at hnm
  clear hbig hLF
  obtain ⟨u00, u01, u02, u03⟩ := HK1.out.box
  go_wp2_with fail
  clear u00 u01 u02 u03
  refine (szItem K1 N1 f1 ka1 zs1.length kc1 LF0 (by omega) (by omega) hLF0 _).mono ?_
  rintro e w2 ⟨rfl, b⟩
  replace HA := hid (HA.out.below b (Nat.le_refl _))
  replace HK1 := hid (HK1.out.below b (Nat.le_refl _))
  replace HK2 := hid (HK2.out.below b (Nat.le_refl _))
  replace HC := hid (HC.out.trans (b.mono HC.out.size))
  have S2 := hid (b.size)
  clear b
  by_cases hbig : LF0 < zs1.length
  · rw [if_pos hbig]
    go_wp2_with fail
    go_ret
    exact ⟨rfl, HB0.out.trans (HC.out.mono HB0.out.size)⟩
  rw [if_neg hbig]
  have hz1 : zs1.length ≤ 1048576 := by omega
  obtain ⟨LF1, hLF⟩ : ∃ LF : Int, LF0 - (zs1.length : Int) = LF := ⟨_, rfl⟩
  rw [hLF]
  have hq1 : ¬ LF1 < 0 := by omega
  have hLF1 : LF1 ≤ 1048576 := by omega
  clear hbig hLF
  obtain ⟨u00, u01, u02, u03⟩ := HK2.out.box
  go_wp2_with fail
  clear u00 u01 u02 u03
  refine (szItem K2 N2 f2 ka2 zs2.length kc2 LF1 (by omega) (by omega) hLF1 _).mono ?_
  rintro e w3 ⟨rfl, b⟩
  replace HA := hid (HA.out.below b (Nat.le_refl _))
  replace HK1 := hid (HK1.out.below b (Nat.le_refl _))
  replace HK2 := hid (HK2.out.below b (Nat.le_refl _))
  replace HC := hid (HC.out.trans (b.mono HC.out.size))
  have S3 := hid (b.size)
  clear b
  by_cases hbig : LF1 < zs2.length
  · rw [if_pos hbig]
    go_wp2_with fail
    go_ret
    exact ⟨rfl, HB0.out.trans (HC.out.mono HB0.out.size)⟩
  rw [if_neg hbig]
  have hz2 : zs2.length ≤ 1048576 := by omega
  obtain ⟨LF2, hLF⟩ : ∃ LF : Int, LF1 - (zs2.length : Int) = LF := ⟨_, rfl⟩
  rw [hLF]
  have hq2 : ¬ LF2 < 0 := by omega
  have hLF2 : LF2 ≤ 1048576 := by omega
  clear hbig hLF
  go_wp2_with fail
  clear hq0 hLF0 hq1 hLF1 hq2 hLF2
  replace HA := hid (HA.out.below ((Still.drew w3).below _) (Nat.le_refl _))
  replace HK1 := hid (HK1.out.below ((Still.drew w3).below _) (Nat.le_refl _))
  replace HK2 := hid (HK2.out.below ((Still.drew w3).below _) (Nat.le_refl _))
  replace HC := hid (HC.out.trans (((Still.drew w3).below _).mono HC.out.size))
  have S4 := hid ((Still.drew w3).size)
  refine region_K 99 (fun W => BoxTr W w.heap.size (.slice a n c) rt ∧ Box W (w.heap.size + 1) K1 N1 f1 ka1 zs1.length kc1 ∧ Box W (w.heap.size + 2) K2 N2 f2 ka2 zs2.length kc2) (by kernel_rfl) ?_ (fun hHeld => ?_)
  · exact ⟨HA.out.box, HK1.out.box, HK2.out.box⟩
  generalize w3.drew = v1x at *
  refine anyK_take2 (i := 0) (v := ?v1) rfl (by kernel_rfl) (by kernel_rfl) (by kernel_rfl) (by rfl) (fun _ _ _ h => h) (by rfl) hHeld ?hy1 (some 32) (by rfl) ?rest1
  case hy1 => (intro W hSw; obtain ⟨⟨r0, r1⟩, ⟨p10, p11, p12, p13⟩, ⟨p20, p21, p22, p23⟩⟩ := hSw; go_simp; (try with_reducible rfl))
  try simp only [Act.put]
  try simp only [List.setIfInBounds_toArray]
  try simp only [List.set_cons_succ, List.set_cons_zero]
  refine anyK_take2 (i := 2) (v := ?v2) rfl (by kernel_rfl) (by kernel_rfl) (by kernel_rfl) (by rfl) (fun _ _ _ h => h) (by rfl) hHeld ?hy2 (some 34) (by rfl) ?rest2
  case hy2 => (intro W hSw; obtain ⟨⟨r0, r1⟩, ⟨p10, p11, p12, p13⟩, ⟨p20, p21, p22, p23⟩⟩ := hSw; go_simp; (try with_reducible rfl))
  try simp only [Act.put]
  try simp only [List.setIfInBounds_toArray]
  try simp only [List.set_cons_succ, List.set_cons_zero]
  refine anyK_take2 (i := 4) (v := ?v3) rfl (by kernel_rfl) (by kernel_rfl) (by kernel_rfl) (by rfl) (fun _ _ _ h => h) (by rfl) hHeld ?hy3 (some 36) (by rfl) ?rest3
  case hy3 => (intro W hSw; obtain ⟨⟨r0, r1⟩, ⟨p10, p11, p12, p13⟩, ⟨p20, p21, p22, p23⟩⟩ := hSw; go_simp; (try with_reducible rfl))
  try simp only [Act.put]
  try simp only [List.setIfInBounds_toArray]
  try simp only [List.set_cons_succ, List.set_cons_zero]
  refine anyK_step (i := 1) (by kernel_rfl) rfl (fun KP hK => ?_)
  go_simp
  refine (toTree c rt HA.out.reads hl (by omega) (by omega)).mono ?_
  rintro e w4 ⟨gps, rfl, o, b⟩
  replace HA := hid (HA.out.below b (Nat.le_refl _))
  replace HK1 := hid (HK1.out.below b (Nat.le_refl _))
  replace HK2 := hid (HK2.out.below b (Nat.le_refl _))
  replace HC := hid (HC.out.trans (b.mono HC.out.size))
  have S5 := hid (b.size)
  clear b
  have PS := hid o
  clear o
  go_wp2_with fail
  refine hK.out _ _ ?_ (fun hH2 => ?_)
  · exact ⟨HA.out.box, HK1.out.box, HK2.out.box⟩
  clear hK KP hHeld
  have hHeld := hH2
  clear hH2
  try simp only [Act.put]
  try simp only [List.setIfInBounds_toArray]
  try simp only [List.set_cons_succ, List.set_cons_zero]
  refine anyK_step (i := 3) (by kernel_rfl) rfl (fun KP hK => ?_)
  go_simp
  refine (toItem K1 N1 f1 kc1 HK1.out.reads (by omega)).mono ?_
  rintro e w5 ⟨gpi1, rfl, o, b⟩
  replace HA := hid (HA.out.below b (Nat.le_refl _))
  replace HK1 := hid (HK1.out.below b (Nat.le_refl _))
  replace HK2 := hid (HK2.out.below b (Nat.le_refl _))
  replace PS := hid (PS.out.below b (by have := S0.out; have := S1.out; have := S2.out; have := S3.out; have := S4.out; have := S5.out; omega))
  replace HC := hid (HC.out.trans (b.mono HC.out.size))
  have S6 := hid (b.size)
  clear b
  have PI1 := hid (show Reads w5 (some ⟨gpi1, 0, none⟩) zs1.length zs1 by obtain ⟨_, _, e, r, _⟩ := Reads.own o Zbd1.out; obtain ⟨rfl, _, _⟩ := Value.slice.inj e; exact r)
  clear o
  go_wp2_with fail
  refine hK.out _ _ ?_ (fun hH2 => ?_)
  · exact ⟨HA.out.box, HK1.out.box, HK2.out.box⟩
  clear hK KP hHeld
  have hHeld := hH2
  clear hH2
  try simp only [Act.put]
  try simp only [List.setIfInBounds_toArray]
  try simp only [List.set_cons_succ, List.set_cons_zero]
  refine anyK_step (i := 5) (by kernel_rfl) rfl (fun KP hK => ?_)
  go_simp
  refine (toItem K2 N2 f2 kc2 HK2.out.reads (by omega)).mono ?_
  rintro e w6 ⟨gpi2, rfl, o, b⟩
  replace HA := hid (HA.out.below b (Nat.le_refl _))
  replace HK1 := hid (HK1.out.below b (Nat.le_refl _))
  replace HK2 := hid (HK2.out.below b (Nat.le_refl _))
  replace PS := hid (PS.out.below b (by have := S0.out; have := S1.out; have := S2.out; have := S3.out; have := S4.out; have := S5.out; have := S6.out; omega))
  replace PI1 := hid (PI1.out.below b (Nat.le_refl _))
  replace HC := hid (HC.out.trans (b.mono HC.out.size))
  have S7 := hid (b.size)
  clear b
  have PI2 := hid (show Reads w6 (some ⟨gpi2, 0, none⟩) zs2.length zs2 by obtain ⟨_, _, e, r, _⟩ := Reads.own o Zbd2.out; obtain ⟨rfl, _, _⟩ := Value.slice.inj e; exact r)
  clear o
  go_wp2_with fail
  refine hK.out _ _ ?_ (fun hH2 => ?_)
  · exact ⟨HA.out.box, HK1.out.box, HK2.out.box⟩
  clear hK KP hHeld
  have hHeld := hH2
  clear hH2
  try simp only [Act.put]
  try simp only [List.setIfInBounds_toArray]
  try simp only [List.set_cons_succ, List.set_cons_zero]
  refine anyK_step (i := 6) (by kernel_rfl) rfl (fun KP hK => ?_)
  go_simp
  refine (spec_TreeSpan n rt PS.out.rd hl HTx.out ⟨K1, N1, f1, zs1⟩ ⟨K2, N2, f2, zs2⟩ zs1.length zs2.length PI1.out PI2.out hf1 hf2 (by simp only; omega) (by simp only; omega)).mono ?_
  rintro e w7 ⟨v, rfl, o, b⟩
  replace HA := hid (HA.out.below b (Nat.le_refl _))
  replace HK1 := hid (HK1.out.below b (Nat.le_refl _))
  replace HK2 := hid (HK2.out.below b (Nat.le_refl _))
  replace PS := hid (PS.out.below b (by have := S0.out; have := S1.out; have := S2.out; have := S3.out; have := S4.out; have := S5.out; have := S6.out; have := S7.out; omega))
  replace PI1 := hid (PI1.out.below b (Nat.le_refl _))
  replace PI2 := hid (PI2.out.below b (Nat.le_refl _))
  replace HC := hid (HC.out.trans (b.mono HC.out.size))
  have S8 := hid (b.size)
  clear b
  clear PS PI1 PI2
  have hAS := spanS_small ds rt ⟨K1, N1, f1, zs1⟩ ⟨K2, N2, f2, zs2⟩
  obtain ⟨RS, hRS⟩ : ∃ RS, spanS ds rt ⟨K1, N1, f1, zs1⟩ ⟨K2, N2, f2, zs2⟩ = RS := ⟨_, rfl⟩
  rw [hRS] at o hAS
  have HRS := hid hRS
  obtain ⟨Nr, hN⟩ : ∃ N, RS.length = N := ⟨_, rfl⟩
  rw [hN] at hAS
  have HN := hid hN
  have hNN : Nr ≤ 2097152 := by omega
  have hsm2 : sumE RS ≤ 2097152 := by have := hAS.2; omega
  have hSM := sumM_eq RS
  rw [hN] at hSM
  obtain ⟨aQ, cQ, e1⟩ := o.slice
  rw [hN] at e1
  subst e1
  have HQ := hid o
  obtain ⟨M, hM⟩ : ∃ M : Int, 1 + (sumM RS : Int) = M := ⟨_, rfl⟩
  have HM := hid hM
  have hMn : ¬ M < 0 := by omega
  have hMM : (M != M) = false := by simp
  obtain ⟨KM, hKM⟩ : ∃ KM : Int, 1 + (sumD nmD ds : Int) = KM := ⟨_, rfl⟩
  have HKM := hid hKM
  have hKM0 : 0 ≤ KM := by omega
  have hKM1 : KM ≤ 10000000 := by omega
  clear o hRS hN hM hKM hAS hSM
  go_wp2_with fail
  refine hK.out _ _ ?_ (fun hH2 => ?_)
  · exact ⟨HA.out.box, HK1.out.box, HK2.out.box⟩
  clear hK KP hHeld
  have hHeld := hH2
  clear hH2
  try simp only [Act.put]
  try simp only [List.setIfInBounds_toArray]
  try simp only [List.set_cons_succ, List.set_cons_zero]
  refine anyK_step (i := 7) (by kernel_rfl) rfl (fun KP hK => ?_)
  go_simp
  refine hK.out _ _ ?_ (fun hH2 => ?_)
  · exact ⟨HA.out.box, HK1.out.box, HK2.out.box⟩
  clear hK KP hHeld
  have hHeld := hH2
  clear hH2
  try simp only [Act.put]
  try simp only [List.setIfInBounds_toArray]
  try simp only [List.set_cons_succ, List.set_cons_zero]
  refine anyK_done (by kernel_rfl) ?_ _
  clear hHeld
  have y0 := (HA.out.box).c0
  have yy0 := (HA.out.box).c1
  go_wp2_with fail
  clear y0 yy0
  refine (toTree c rt HA.out.reads hl (by omega) (by omega)).mono ?_
  rintro e w8 ⟨gx, rfl, o, b⟩
  replace HA := hid (HA.out.below b (Nat.le_refl _))
  replace HK1 := hid (HK1.out.below b (Nat.le_refl _))
  replace HK2 := hid (HK2.out.below b (Nat.le_refl _))
  replace HQ := hid (HQ.out.below b (by have := S0.out; have := S1.out; have := S2.out; have := S3.out; have := S4.out; have := S5.out; have := S6.out; have := S7.out; have := S8.out; omega))
  replace HC := hid (HC.out.trans (b.mono HC.out.size))
  have S9 := hid (b.size)
  clear b
  have HX := hid o
  clear o
  have BX := hid (BoxTr.new w8 (.slice (some ⟨gx, 0, none⟩) n n) rt 26)
  have b := Below.alloc1 w8 (.cells #[(.slice (some ⟨gx, 0, none⟩) n n), .int .i64 rt] 26)
  replace HA := hid (HA.out.below b (Nat.le_refl _))
  replace HK1 := hid (HK1.out.below b (Nat.le_refl _))
  replace HK2 := hid (HK2.out.below b (Nat.le_refl _))
  replace HQ := hid (HQ.out.below b (by have := S0.out; have := S1.out; have := S2.out; have := S3.out; have := S4.out; have := S5.out; have := S6.out; have := S7.out; have := S8.out; have := S9.out; omega))
  replace HX := hid (HX.out.below b (by have := S0.out; have := S1.out; have := S2.out; have := S3.out; have := S4.out; have := S5.out; have := S6.out; have := S7.out; have := S8.out; have := S9.out; omega))
  replace HC := hid (HC.out.trans (b.mono HC.out.size))
  have S10 := hid (alloc_size w8 (.cells #[(.slice (some ⟨gx, 0, none⟩) n n), .int .i64 rt] 26))
  clear b
  have w8 := BX.out.c0
  have w9 := BX.out.c1
  obtain ⟨u00, u01, u02, u03⟩ := HK1.out.box
  go_wp2_with fail
  clear u00 u01 u02 u03
  clear w8 w9
  generalize w8.alloc (.cells #[(.slice (some ⟨gx, 0, none⟩) n n), .int .i64 rt] 26) = t1 at *
  refine (toItem K1 N1 f1 kc1 HK1.out.reads (by omega)).mono ?_
  rintro e w9 ⟨xi1, rfl, o, b⟩
  replace HA := hid (HA.out.below b (Nat.le_refl _))
  replace HK1 := hid (HK1.out.below b (Nat.le_refl _))
  replace HK2 := hid (HK2.out.below b (Nat.le_refl _))
  replace HQ := hid (HQ.out.below b (by have := S0.out; have := S1.out; have := S2.out; have := S3.out; have := S4.out; have := S5.out; have := S6.out; have := S7.out; have := S8.out; have := S9.out; have := S10.out; omega))
  replace HX := hid (HX.out.below b (by have := S0.out; have := S1.out; have := S2.out; have := S3.out; have := S4.out; have := S5.out; have := S6.out; have := S7.out; have := S8.out; have := S9.out; have := S10.out; omega))
  replace BX := hid (BX.out.below b (Nat.le_refl _))
  replace HC := hid (HC.out.trans (b.mono HC.out.size))
  have S11 := hid (b.size)
  clear b
  have OX := hid o
  clear o
  have XI1 := hid (BoxIt.new OX.out Zbd1.out K1 N1 f1 32)
  have b := Below.alloc1 w9 (.cells #[.int .i64 K1, .int .i64 N1, .float .f64 f1, .slice (some ⟨xi1, 0, none⟩) zs1.length zs1.length] 32)
  replace HA := hid (HA.out.below b (Nat.le_refl _))
  replace HK1 := hid (HK1.out.below b (Nat.le_refl _))
  replace HK2 := hid (HK2.out.below b (Nat.le_refl _))
  replace HQ := hid (HQ.out.below b (by have := S0.out; have := S1.out; have := S2.out; have := S3.out; have := S4.out; have := S5.out; have := S6.out; have := S7.out; have := S8.out; have := S9.out; have := S10.out; have := S11.out; omega))
  replace HX := hid (HX.out.below b (by have := S0.out; have := S1.out; have := S2.out; have := S3.out; have := S4.out; have := S5.out; have := S6.out; have := S7.out; have := S8.out; have := S9.out; have := S10.out; have := S11.out; omega))
  replace BX := hid (BX.out.below b (Nat.le_refl _))
  replace HC := hid (HC.out.trans (b.mono HC.out.size))
  have S12 := hid (alloc_size w9 (.cells #[.int .i64 K1, .int .i64 N1, .float .f64 f1, .slice (some ⟨xi1, 0, none⟩) zs1.length zs1.length] 32))
  clear b
  obtain ⟨u00, u01, u02, u03⟩ := HK2.out.box
  go_wp2_with fail
  clear u00 u01 u02 u03
  generalize w9.alloc (.cells #[.int .i64 K1, .int .i64 N1, .float .f64 f1, .slice (some ⟨xi1, 0, none⟩) zs1.length zs1.length] 32) = t2 at *
  clear OX
  refine (toItem K2 N2 f2 kc2 HK2.out.reads (by omega)).mono ?_
  rintro e w10 ⟨xi2, rfl, o, b⟩
  replace HA := hid (HA.out.below b (Nat.le_refl _))
  replace HK1 := hid (HK1.out.below b (Nat.le_refl _))
  replace HK2 := hid (HK2.out.below b (Nat.le_refl _))
  replace HQ := hid (HQ.out.below b (by have := S0.out; have := S1.out; have := S2.out; have := S3.out; have := S4.out; have := S5.out; have := S6.out; have := S7.out; have := S8.out; have := S9.out; have := S10.out; have := S11.out; have := S12.out; omega))
  replace HX := hid (HX.out.below b (by have := S0.out; have := S1.out; have := S2.out; have := S3.out; have := S4.out; have := S5.out; have := S6.out; have := S7.out; have := S8.out; have := S9.out; have := S10.out; have := S11.out; have := S12.out; omega))
  replace BX := hid (BX.out.below b (Nat.le_refl _))
  replace XI1 := hid (XI1.out.below b (Nat.le_refl _))
  replace HC := hid (HC.out.trans (b.mono HC.out.size))
  have S13 := hid (b.size)
  clear b
  have OX := hid o
  clear o
  have XI2 := hid (BoxIt.new OX.out Zbd2.out K2 N2 f2 32)
  have b := Below.alloc1 w10 (.cells #[.int .i64 K2, .int .i64 N2, .float .f64 f2, .slice (some ⟨xi2, 0, none⟩) zs2.length zs2.length] 32)
  replace HA := hid (HA.out.below b (Nat.le_refl _))
  replace HK1 := hid (HK1.out.below b (Nat.le_refl _))
  replace HK2 := hid (HK2.out.below b (Nat.le_refl _))
  replace HQ := hid (HQ.out.below b (by have := S0.out; have := S1.out; have := S2.out; have := S3.out; have := S4.out; have := S5.out; have := S6.out; have := S7.out; have := S8.out; have := S9.out; have := S10.out; have := S11.out; have := S12.out; have := S13.out; omega))
  replace HX := hid (HX.out.below b (by have := S0.out; have := S1.out; have := S2.out; have := S3.out; have := S4.out; have := S5.out; have := S6.out; have := S7.out; have := S8.out; have := S9.out; have := S10.out; have := S11.out; have := S12.out; have := S13.out; omega))
  replace BX := hid (BX.out.below b (Nat.le_refl _))
  replace XI1 := hid (XI1.out.below b (Nat.le_refl _))
  replace HC := hid (HC.out.trans (b.mono HC.out.size))
  have S14 := hid (alloc_size w10 (.cells #[.int .i64 K2, .int .i64 N2, .float .f64 f2, .slice (some ⟨xi2, 0, none⟩) zs2.length zs2.length] 32))
  clear b
  have y0 := (BX.out).c0
  have yy0 := (BX.out).c1
  obtain ⟨u00, u01, u02, u03⟩ := XI1.out.box
  go_wp2_with fail
  clear y0 yy0 u00 u01 u02 u03
  generalize w10.alloc (.cells #[.int .i64 K2, .int .i64 N2, .float .f64 f2, .slice (some ⟨xi2, 0, none⟩) zs2.length zs2.length] 32) = t3 at *
  clear OX
  refine (impl_TreeSpan n rt HX.out.rd hl HTx.out ⟨K1, N1, f1, zs1⟩ ⟨K2, N2, f2, zs2⟩ zs1.length zs2.length XI1.out.rd XI2.out.rd hf1 hf2 (by simp only; omega) (by simp only; omega)).mono ?_
  rintro e w11 ⟨v, rfl, o, b⟩
  replace HA := hid (HA.out.below b (Nat.le_refl _))
  replace HK1 := hid (HK1.out.below b (Nat.le_refl _))
  replace HK2 := hid (HK2.out.below b (Nat.le_refl _))
  replace HQ := hid (HQ.out.below b (by have := S0.out; have := S1.out; have := S2.out; have := S3.out; have := S4.out; have := S5.out; have := S6.out; have := S7.out; have := S8.out; have := S9.out; have := S10.out; have := S11.out; have := S12.out; have := S13.out; have := S14.out; omega))
  replace HX := hid (HX.out.below b (by have := S0.out; have := S1.out; have := S2.out; have := S3.out; have := S4.out; have := S5.out; have := S6.out; have := S7.out; have := S8.out; have := S9.out; have := S10.out; have := S11.out; have := S12.out; have := S13.out; have := S14.out; omega))
  replace BX := hid (BX.out.below b (Nat.le_refl _))
  replace XI1 := hid (XI1.out.below b (Nat.le_refl _))
  replace XI2 := hid (XI2.out.below b (Nat.le_refl _))
  replace HC := hid (HC.out.trans (b.mono HC.out.size))
  have S15 := hid (b.size)
  clear b
  rw [HRS.out] at o
  obtain ⟨aHG, cHG, e1⟩ := o.slice
  rw [HN.out] at e1
  subst e1
  have HG := hid o
  clear o
  go_wp2_with fail
  refine (eqEntryS cHG cQ HG.out.rd HQ.out.rd HN.out hNN hsm2).mono ?_
  rintro e w12 ⟨rfl, b⟩
  replace HA := hid (HA.out.below b (Nat.le_refl _))
  replace HK1 := hid (HK1.out.below b (Nat.le_refl _))
  replace HK2 := hid (HK2.out.below b (Nat.le_refl _))
  replace HQ := hid (HQ.out.below b (by have := S0.out; have := S1.out; have := S2.out; have := S3.out; have := S4.out; have := S5.out; have := S6.out; have := S7.out; have := S8.out; have := S9.out; have := S10.out; have := S11.out; have := S12.out; have := S13.out; have := S14.out; have := S15.out; omega))
  replace HX := hid (HX.out.below b (by have := S0.out; have := S1.out; have := S2.out; have := S3.out; have := S4.out; have := S5.out; have := S6.out; have := S7.out; have := S8.out; have := S9.out; have := S10.out; have := S11.out; have := S12.out; have := S13.out; have := S14.out; have := S15.out; omega))
  replace BX := hid (BX.out.below b (Nat.le_refl _))
  replace XI1 := hid (XI1.out.below b (Nat.le_refl _))
  replace XI2 := hid (XI2.out.below b (Nat.le_refl _))
  replace HG := hid (HG.out.below b (by have := S0.out; have := S1.out; have := S2.out; have := S3.out; have := S4.out; have := S5.out; have := S6.out; have := S7.out; have := S8.out; have := S9.out; have := S10.out; have := S11.out; have := S12.out; have := S13.out; have := S14.out; have := S15.out; omega))
  replace HC := hid (HC.out.trans (b.mono HC.out.size))
  have S16 := hid (b.size)
  clear b
  go_wp2_with fail
  replace HA := hid (HA.out.below ((Still.drew w12).below _) (Nat.le_refl _))
  replace HK1 := hid (HK1.out.below ((Still.drew w12).below _) (Nat.le_refl _))
  replace HK2 := hid (HK2.out.below ((Still.drew w12).below _) (Nat.le_refl _))
  replace HQ := hid (HQ.out.below ((Still.drew w12).below w12.heap.size) (by have := S0.out; have := S1.out; have := S2.out; have := S3.out; have := S4.out; have := S5.out; have := S6.out; have := S7.out; have := S8.out; have := S9.out; have := S10.out; have := S11.out; have := S12.out; have := S13.out; have := S14.out; have := S15.out; have := S16.out; omega))
  replace HX := hid (HX.out.below ((Still.drew w12).below w12.heap.size) (by have := S0.out; have := S1.out; have := S2.out; have := S3.out; have := S4.out; have := S5.out; have := S6.out; have := S7.out; have := S8.out; have := S9.out; have := S10.out; have := S11.out; have := S12.out; have := S13.out; have := S14.out; have := S15.out; have := S16.out; omega))
  replace BX := hid (BX.out.below ((Still.drew w12).below _) (Nat.le_refl _))
  replace XI1 := hid (XI1.out.below ((Still.drew w12).below _) (Nat.le_refl _))
  replace XI2 := hid (XI2.out.below ((Still.drew w12).below _) (Nat.le_refl _))
  replace HG := hid (HG.out.below ((Still.drew w12).below w12.heap.size) (by have := S0.out; have := S1.out; have := S2.out; have := S3.out; have := S4.out; have := S5.out; have := S6.out; have := S7.out; have := S8.out; have := S9.out; have := S10.out; have := S11.out; have := S12.out; have := S13.out; have := S14.out; have := S15.out; have := S16.out; omega))
  replace HC := hid (HC.out.trans (((Still.drew w12).below _).mono HC.out.size))
  have S17 := hid ((Still.drew w12).size)
  refine region_K 99 (fun W => BoxTr W w.heap.size (.slice a n c) rt ∧ BoxTr W w8.heap.size (.slice (some ⟨gx, 0, none⟩) n n) rt) (by kernel_rfl) ?_ (fun hHeld => ?_)
  · exact ⟨HA.out.box, BX.out⟩
  generalize w12.drew = v2x at *
  refine anyK_take2 (i := 0) (v := ?v4) rfl (by kernel_rfl) (by kernel_rfl) (by kernel_rfl) (by rfl) (fun _ _ _ h => h) (by rfl) hHeld ?hy4 (some 53) (by rfl) ?rest4
  case hy4 => (intro W hSw; obtain ⟨⟨r0, r1⟩, ⟨r2, r3⟩⟩ := hSw; go_simp; (try with_reducible rfl))
  try simp only [Act.put]
  try simp only [List.setIfInBounds_toArray]
  try simp only [List.set_cons_succ, List.set_cons_zero]
  refine anyK_take2 (i := 1) (v := ?v5) rfl (by kernel_rfl) (by kernel_rfl) (by kernel_rfl) (by rfl) (fun _ _ _ h => h) (by rfl) hHeld ?hy5 (some 54) (by rfl) ?rest5
  case hy5 => (intro W hSw; obtain ⟨⟨r0, r1⟩, ⟨r2, r3⟩⟩ := hSw; go_simp; (try with_reducible rfl))
  try simp only [Act.put]
  try simp only [List.setIfInBounds_toArray]
  try simp only [List.set_cons_succ, List.set_cons_zero]
  refine anyK_step (i := 2) (by kernel_rfl) rfl (fun KP hK => ?_)
  go_simp
  refine (toTree c rt HA.out.reads hl (by omega) (by omega)).mono ?_
  rintro e w13 ⟨gy, rfl, o, b⟩
  replace HA := hid (HA.out.below b (Nat.le_refl _))
  replace HK1 := hid (HK1.out.below b (Nat.le_refl _))
  replace HK2 := hid (HK2.out.below b (Nat.le_refl _))
  replace HQ := hid (HQ.out.below b (by have := S0.out; have := S1.out; have := S2.out; have := S3.out; have := S4.out; have := S5.out; have := S6.out; have := S7.out; have := S8.out; have := S9.out; have := S10.out; have := S11.out; have := S12.out; have := S13.out; have := S14.out; have := S15.out; have := S16.out; have := S17.out; omega))
  replace HX := hid (HX.out.below b (by have := S0.out; have := S1.out; have := S2.out; have := S3.out; have := S4.out; have := S5.out; have := S6.out; have := S7.out; have := S8.out; have := S9.out; have := S10.out; have := S11.out; have := S12.out; have := S13.out; have := S14.out; have := S15.out; have := S16.out; have := S17.out; omega))
  replace BX := hid (BX.out.below b (Nat.le_refl _))
  replace XI1 := hid (XI1.out.below b (Nat.le_refl _))
  replace XI2 := hid (XI2.out.below b (Nat.le_refl _))
  replace HG := hid (HG.out.below b (by have := S0.out; have := S1.out; have := S2.out; have := S3.out; have := S4.out; have := S5.out; have := S6.out; have := S7.out; have := S8.out; have := S9.out; have := S10.out; have := S11.out; have := S12.out; have := S13.out; have := S14.out; have := S15.out; have := S16.out; have := S17.out; omega))
  replace HC := hid (HC.out.trans (b.mono HC.out.size))
  have S18 := hid (b.size)
  clear b
  have PY := hid o
  clear o
  go_wp2_with fail
  refine hK.out _ _ ?_ (fun hH2 => ?_)
  · exact ⟨HA.out.box, BX.out⟩
  clear hK KP hHeld
  have hHeld := hH2
  clear hH2
  try simp only [Act.put]
  try simp only [List.setIfInBounds_toArray]
  try simp only [List.set_cons_succ, List.set_cons_zero]
  refine anyK_step (i := 3) (by kernel_rfl) rfl (fun KP hK => ?_)
  go_simp
  refine (eqTree n n rt HX.out.rd PY.out.rd hl (by omega) (by omega)).mono ?_
  rintro e w14 ⟨rfl, b⟩
  replace HA := hid (HA.out.below b (Nat.le_refl _))
  replace HK1 := hid (HK1.out.below b (Nat.le_refl _))
  replace HK2 := hid (HK2.out.below b (Nat.le_refl _))
  replace HQ := hid (HQ.out.below b (by have := S0.out; have := S1.out; have := S2.out; have := S3.out; have := S4.out; have := S5.out; have := S6.out; have := S7.out; have := S8.out; have := S9.out; have := S10.out; have := S11.out; have := S12.out; have := S13.out; have := S14.out; have := S15.out; have := S16.out; have := S17.out; have := S18.out; omega))
  replace HX := hid (HX.out.below b (by have := S0.out; have := S1.out; have := S2.out; have := S3.out; have := S4.out; have := S5.out; have := S6.out; have := S7.out; have := S8.out; have := S9.out; have := S10.out; have := S11.out; have := S12.out; have := S13.out; have := S14.out; have := S15.out; have := S16.out; have := S17.out; have := S18.out; omega))
  replace BX := hid (BX.out.below b (Nat.le_refl _))
  replace XI1 := hid (XI1.out.below b (Nat.le_refl _))
  replace XI2 := hid (XI2.out.below b (Nat.le_refl _))
  replace HG := hid (HG.out.below b (by have := S0.out; have := S1.out; have := S2.out; have := S3.out; have := S4.out; have := S5.out; have := S6.out; have := S7.out; have := S8.out; have := S9.out; have := S10.out; have := S11.out; have := S12.out; have := S13.out; have := S14.out; have := S15.out; have := S16.out; have := S17.out; have := S18.out; omega))
  replace PY := hid (PY.out.below b (by have := S0.out; have := S1.out; have := S2.out; have := S3.out; have := S4.out; have := S5.out; have := S6.out; have := S7.out; have := S8.out; have := S9.out; have := S10.out; have := S11.out; have := S12.out; have := S13.out; have := S14.out; have := S15.out; have := S16.out; have := S17.out; have := S18.out; omega))
  replace HC := hid (HC.out.trans (b.mono HC.out.size))
  have S19 := hid (b.size)
  clear b
  clear PY
  go_wp2_with fail
  refine hK.out _ _ ?_ (fun hH2 => ?_)
  · exact ⟨HA.out.box, BX.out⟩
  clear hK KP hHeld
  have hHeld := hH2
  clear hH2
  try simp only [Act.put]
  try simp only [List.setIfInBounds_toArray]
  try simp only [List.set_cons_succ, List.set_cons_zero]
  refine anyK_step (i := 4) (by kernel_rfl) rfl (fun KP hK => ?_)
  go_simp
  refine hK.out _ _ ?_ (fun hH2 => ?_)
  · exact ⟨HA.out.box, BX.out⟩
  clear hK KP hHeld
  have hHeld := hH2
  clear hH2
  try simp only [Act.put]
  try simp only [List.setIfInBounds_toArray]
  try simp only [List.set_cons_succ, List.set_cons_zero]
  refine anyK_done (by kernel_rfl) ?_ _
  clear hHeld
  go_wp2_with fail
  replace HA := hid (HA.out.below ((Still.drew w14).below _) (Nat.le_refl _))
  replace HK1 := hid (HK1.out.below ((Still.drew w14).below _) (Nat.le_refl _))
  replace HK2 := hid (HK2.out.below ((Still.drew w14).below _) (Nat.le_refl _))
  replace HQ := hid (HQ.out.below ((Still.drew w14).below w14.heap.size) (by have := S0.out; have := S1.out; have := S2.out; have := S3.out; have := S4.out; have := S5.out; have := S6.out; have := S7.out; have := S8.out; have := S9.out; have := S10.out; have := S11.out; have := S12.out; have := S13.out; have := S14.out; have := S15.out; have := S16.out; have := S17.out; have := S18.out; have := S19.out; omega))
  replace HX := hid (HX.out.below ((Still.drew w14).below w14.heap.size) (by have := S0.out; have := S1.out; have := S2.out; have := S3.out; have := S4.out; have := S5.out; have := S6.out; have := S7.out; have := S8.out; have := S9.out; have := S10.out; have := S11.out; have := S12.out; have := S13.out; have := S14.out; have := S15.out; have := S16.out; have := S17.out; have := S18.out; have := S19.out; omega))
  replace BX := hid (BX.out.below ((Still.drew w14).below _) (Nat.le_refl _))
  replace XI1 := hid (XI1.out.below ((Still.drew w14).below _) (Nat.le_refl _))
  replace XI2 := hid (XI2.out.below ((Still.drew w14).below _) (Nat.le_refl _))
  replace HG := hid (HG.out.below ((Still.drew w14).below w14.heap.size) (by have := S0.out; have := S1.out; have := S2.out; have := S3.out; have := S4.out; have := S5.out; have := S6.out; have := S7.out; have := S8.out; have := S9.out; have := S10.out; have := S11.out; have := S12.out; have := S13.out; have := S14.out; have := S15.out; have := S16.out; have := S17.out; have := S18.out; have := S19.out; omega))
  replace HC := hid (HC.out.trans (((Still.drew w14).below _).mono HC.out.size))
  have S20 := hid ((Still.drew w14).size)
  refine region_K 99 (fun W => Box W (w.heap.size + 1) K1 N1 f1 ka1 zs1.length kc1 ∧ Box W w9.heap.size K1 N1 f1 (some ⟨xi1, 0, none⟩) zs1.length zs1.length) (by kernel_rfl) ?_ (fun hHeld => ?_)
  · exact ⟨HK1.out.box, XI1.out.box⟩
  generalize w14.drew = v3x at *
  refine anyK_take2 (i := 0) (v := ?v6) rfl (by kernel_rfl) (by kernel_rfl) (by kernel_rfl) (by rfl) (fun _ _ _ h => h) (by rfl) hHeld ?hy6 (some 58) (by rfl) ?rest6
  case hy6 => (intro W hSw; obtain ⟨⟨r0, r1, r2, r3⟩, ⟨s0, s1, s2, s3⟩⟩ := hSw; go_simp; (try with_reducible rfl))
  try simp only [Act.put]
  try simp only [List.setIfInBounds_toArray]
  try simp only [List.set_cons_succ, List.set_cons_zero]
  refine anyK_take2 (i := 1) (v := ?v7) rfl (by kernel_rfl) (by kernel_rfl) (by kernel_rfl) (by rfl) (fun _ _ _ h => h) (by rfl) hHeld ?hy7 (some 59) (by rfl) ?rest7
  case hy7 => (intro W hSw; obtain ⟨⟨r0, r1, r2, r3⟩, ⟨s0, s1, s2, s3⟩⟩ := hSw; go_simp; (try with_reducible rfl))
  try simp only [Act.put]
  try simp only [List.setIfInBounds_toArray]
  try simp only [List.set_cons_succ, List.set_cons_zero]
  refine anyK_step (i := 2) (by kernel_rfl) rfl (fun KP hK => ?_)
  go_simp
  refine (toItem K1 N1 f1 kc1 HK1.out.reads (by omega)).mono ?_
  rintro e w15 ⟨gj1, rfl, o, b⟩
  replace HA := hid (HA.out.below b (Nat.le_refl _))
  replace HK1 := hid (HK1.out.below b (Nat.le_refl _))
  replace HK2 := hid (HK2.out.below b (Nat.le_refl _))
  replace HQ := hid (HQ.out.below b (by have := S0.out; have := S1.out; have := S2.out; have := S3.out; have := S4.out; have := S5.out; have := S6.out; have := S7.out; have := S8.out; have := S9.out; have := S10.out; have := S11.out; have := S12.out; have := S13.out; have := S14.out; have := S15.out; have := S16.out; have := S17.out; have := S18.out; have := S19.out; have := S20.out; omega))
  replace HX := hid (HX.out.below b (by have := S0.out; have := S1.out; have := S2.out; have := S3.out; have := S4.out; have := S5.out; have := S6.out; have := S7.out; have := S8.out; have := S9.out; have := S10.out; have := S11.out; have := S12.out; have := S13.out; have := S14.out; have := S15.out; have := S16.out; have := S17.out; have := S18.out; have := S19.out; have := S20.out; omega))
  replace BX := hid (BX.out.below b (Nat.le_refl _))
  replace XI1 := hid (XI1.out.below b (Nat.le_refl _))
  replace XI2 := hid (XI2.out.below b (Nat.le_refl _))
  replace HG := hid (HG.out.below b (by have := S0.out; have := S1.out; have := S2.out; have := S3.out; have := S4.out; have := S5.out; have := S6.out; have := S7.out; have := S8.out; have := S9.out; have := S10.out; have := S11.out; have := S12.out; have := S13.out; have := S14.out; have := S15.out; have := S16.out; have := S17.out; have := S18.out; have := S19.out; have := S20.out; omega))
  replace HC := hid (HC.out.trans (b.mono HC.out.size))
  have S21 := hid (b.size)
  clear b
  have PJ := hid (show Reads w15 (some ⟨gj1, 0, none⟩) zs1.length zs1 by obtain ⟨_, _, e, r, _⟩ := Reads.own o Zbd1.out; obtain ⟨rfl, _, _⟩ := Value.slice.inj e; exact r)
  clear o
  go_wp2_with fail
  refine hK.out _ _ ?_ (fun hH2 => ?_)
  · exact ⟨HK1.out.box, XI1.out.box⟩
  clear hK KP hHeld
  have hHeld := hH2
  clear hH2
  try simp only [Act.put]
  try simp only [List.setIfInBounds_toArray]
  try simp only [List.set_cons_succ, List.set_cons_zero]
  refine anyK_step (i := 3) (by kernel_rfl) rfl (fun KP hK => ?_)
  go_simp
  refine (eqItem K1 N1 f1 f1 zs1.length zs1.length hf1 hf1 (Same.refl f1) XI1.out.rd PJ.out (by omega)).mono ?_
  rintro e w16 ⟨rfl, b⟩
  replace HA := hid (HA.out.below b (Nat.le_refl _))
  replace HK1 := hid (HK1.out.below b (Nat.le_refl _))
  replace HK2 := hid (HK2.out.below b (Nat.le_refl _))
  replace HQ := hid (HQ.out.below b (by have := S0.out; have := S1.out; have := S2.out; have := S3.out; have := S4.out; have := S5.out; have := S6.out; have := S7.out; have := S8.out; have := S9.out; have := S10.out; have := S11.out; have := S12.out; have := S13.out; have := S14.out; have := S15.out; have := S16.out; have := S17.out; have := S18.out; have := S19.out; have := S20.out; have := S21.out; omega))
  replace HX := hid (HX.out.below b (by have := S0.out; have := S1.out; have := S2.out; have := S3.out; have := S4.out; have := S5.out; have := S6.out; have := S7.out; have := S8.out; have := S9.out; have := S10.out; have := S11.out; have := S12.out; have := S13.out; have := S14.out; have := S15.out; have := S16.out; have := S17.out; have := S18.out; have := S19.out; have := S20.out; have := S21.out; omega))
  replace BX := hid (BX.out.below b (Nat.le_refl _))
  replace XI1 := hid (XI1.out.below b (Nat.le_refl _))
  replace XI2 := hid (XI2.out.below b (Nat.le_refl _))
  replace HG := hid (HG.out.below b (by have := S0.out; have := S1.out; have := S2.out; have := S3.out; have := S4.out; have := S5.out; have := S6.out; have := S7.out; have := S8.out; have := S9.out; have := S10.out; have := S11.out; have := S12.out; have := S13.out; have := S14.out; have := S15.out; have := S16.out; have := S17.out; have := S18.out; have := S19.out; have := S20.out; have := S21.out; omega))
  replace PJ := hid (PJ.out.below b (Nat.le_refl _))
  replace HC := hid (HC.out.trans (b.mono HC.out.size))
  have S22 := hid (b.size)
  clear b
  clear PJ
  go_wp2_with fail
  refine hK.out _ _ ?_ (fun hH2 => ?_)
  · exact ⟨HK1.out.box, XI1.out.box⟩
  clear hK KP hHeld
  have hHeld := hH2
  clear hH2
  try simp only [Act.put]
  try simp only [List.setIfInBounds_toArray]
  try simp only [List.set_cons_succ, List.set_cons_zero]
  refine anyK_step (i := 4) (by kernel_rfl) rfl (fun KP hK => ?_)
  go_simp
  refine hK.out _ _ ?_ (fun hH2 => ?_)
  · exact ⟨HK1.out.box, XI1.out.box⟩
  clear hK KP hHeld
  have hHeld := hH2
  clear hH2
  try simp only [Act.put]
  try simp only [List.setIfInBounds_toArray]
  try simp only [List.set_cons_succ, List.set_cons_zero]
  refine anyK_done (by kernel_rfl) ?_ _
  clear hHeld
  go_wp2_with fail
  replace HA := hid (HA.out.below ((Still.drew w16).below _) (Nat.le_refl _))
  replace HK1 := hid (HK1.out.below ((Still.drew w16).below _) (Nat.le_refl _))
  replace HK2 := hid (HK2.out.below ((Still.drew w16).below _) (Nat.le_refl _))
  replace HQ := hid (HQ.out.below ((Still.drew w16).below w16.heap.size) (by have := S0.out; have := S1.out; have := S2.out; have := S3.out; have := S4.out; have := S5.out; have := S6.out; have := S7.out; have := S8.out; have := S9.out; have := S10.out; have := S11.out; have := S12.out; have := S13.out; have := S14.out; have := S15.out; have := S16.out; have := S17.out; have := S18.out; have := S19.out; have := S20.out; have := S21.out; have := S22.out; omega))
  replace HX := hid (HX.out.below ((Still.drew w16).below w16.heap.size) (by have := S0.out; have := S1.out; have := S2.out; have := S3.out; have := S4.out; have := S5.out; have := S6.out; have := S7.out; have := S8.out; have := S9.out; have := S10.out; have := S11.out; have := S12.out; have := S13.out; have := S14.out; have := S15.out; have := S16.out; have := S17.out; have := S18.out; have := S19.out; have := S20.out; have := S21.out; have := S22.out; omega))
  replace BX := hid (BX.out.below ((Still.drew w16).below _) (Nat.le_refl _))
  replace XI1 := hid (XI1.out.below ((Still.drew w16).below _) (Nat.le_refl _))
  replace XI2 := hid (XI2.out.below ((Still.drew w16).below _) (Nat.le_refl _))
  replace HG := hid (HG.out.below ((Still.drew w16).below w16.heap.size) (by have := S0.out; have := S1.out; have := S2.out; have := S3.out; have := S4.out; have := S5.out; have := S6.out; have := S7.out; have := S8.out; have := S9.out; have := S10.out; have := S11.out; have := S12.out; have := S13.out; have := S14.out; have := S15.out; have := S16.out; have := S17.out; have := S18.out; have := S19.out; have := S20.out; have := S21.out; have := S22.out; omega))
  replace HC := hid (HC.out.trans (((Still.drew w16).below _).mono HC.out.size))
  have S23 := hid ((Still.drew w16).size)
  refine region_K 99 (fun W => Box W (w.heap.size + 2) K2 N2 f2 ka2 zs2.length kc2 ∧ Box W w10.heap.size K2 N2 f2 (some ⟨xi2, 0, none⟩) zs2.length zs2.length) (by kernel_rfl) ?_ (fun hHeld => ?_)
  · exact ⟨HK2.out.box, XI2.out.box⟩
  generalize w16.drew = v4x at *
  refine anyK_take2 (i := 0) (v := ?v8) rfl (by kernel_rfl) (by kernel_rfl) (by kernel_rfl) (by rfl) (fun _ _ _ h => h) (by rfl) hHeld ?hy8 (some 63) (by rfl) ?rest8
  case hy8 => (intro W hSw; obtain ⟨⟨r0, r1, r2, r3⟩, ⟨s0, s1, s2, s3⟩⟩ := hSw; go_simp; (try with_reducible rfl))
  try simp only [Act.put]
  try simp only [List.setIfInBounds_toArray]
  try simp only [List.set_cons_succ, List.set_cons_zero]
  refine anyK_take2 (i := 1) (v := ?v9) rfl (by kernel_rfl) (by kernel_rfl) (by kernel_rfl) (by rfl) (fun _ _ _ h => h) (by rfl) hHeld ?hy9 (some 64) (by rfl) ?rest9
  case hy9 => (intro W hSw; obtain ⟨⟨r0, r1, r2, r3⟩, ⟨s0, s1, s2, s3⟩⟩ := hSw; go_simp; (try with_reducible rfl))
  try simp only [Act.put]
  try simp only [List.setIfInBounds_toArray]
  try simp only [List.set_cons_succ, List.set_cons_zero]
  refine anyK_step (i := 2) (by kernel_rfl) rfl (fun KP hK => ?_)
  go_simp
  refine (toItem K2 N2 f2 kc2 HK2.out.reads (by omega)).mono ?_
  rintro e w17 ⟨gj2, rfl, o, b⟩
  replace HA := hid (HA.out.below b (Nat.le_refl _))
  replace HK1 := hid (HK1.out.below b (Nat.le_refl _))
  replace HK2 := hid (HK2.out.below b (Nat.le_refl _))
  replace HQ := hid (HQ.out.below b (by have := S0.out; have := S1.out; have := S2.out; have := S3.out; have := S4.out; have := S5.out; have := S6.out; have := S7.out; have := S8.out; have := S9.out; have := S10.out; have := S11.out; have := S12.out; have := S13.out; have := S14.out; have := S15.out; have := S16.out; have := S17.out; have := S18.out; have := S19.out; have := S20.out; have := S21.out; have := S22.out; have := S23.out; omega))
  replace HX := hid (HX.out.below b (by have := S0.out; have := S1.out; have := S2.out; have := S3.out; have := S4.out; have := S5.out; have := S6.out; have := S7.out; have := S8.out; have := S9.out; have := S10.out; have := S11.out; have := S12.out; have := S13.out; have := S14.out; have := S15.out; have := S16.out; have := S17.out; have := S18.out; have := S19.out; have := S20.out; have := S21.out; have := S22.out; have := S23.out; omega))
  replace BX := hid (BX.out.below b (Nat.le_refl _))
  replace XI1 := hid (XI1.out.below b (Nat.le_refl _))
  replace XI2 := hid (XI2.out.below b (Nat.le_refl _))
  replace HG := hid (HG.out.below b (by have := S0.out; have := S1.out; have := S2.out; have := S3.out; have := S4.out; have := S5.out; have := S6.out; have := S7.out; have := S8.out; have := S9.out; have := S10.out; have := S11.out; have := S12.out; have := S13.out; have := S14.out; have := S15.out; have := S16.out; have := S17.out; have := S18.out; have := S19.out; have := S20.out; have := S21.out; have := S22.out; have := S23.out; omega))
  replace HC := hid (HC.out.trans (b.mono HC.out.size))
  have S24 := hid (b.size)
  clear b
  have PJ := hid (show Reads w17 (some ⟨gj2, 0, none⟩) zs2.length zs2 by obtain ⟨_, _, e, r, _⟩ := Reads.own o Zbd2.out; obtain ⟨rfl, _, _⟩ := Value.slice.inj e; exact r)
  clear o
  go_wp2_with fail
  refine hK.out _ _ ?_ (fun hH2 => ?_)
  · exact ⟨HK2.out.box, XI2.out.box⟩
  clear hK KP hHeld
  have hHeld := hH2
  clear hH2
  try simp only [Act.put]
  try simp only [List.setIfInBounds_toArray]
  try simp only [List.set_cons_succ, List.set_cons_zero]
  refine anyK_step (i := 3) (by kernel_rfl) rfl (fun KP hK => ?_)
  go_simp
  refine (eqItem K2 N2 f2 f2 zs2.length zs2.length hf2 hf2 (Same.refl f2) XI2.out.rd PJ.out (by omega)).mono ?_
  rintro e w18 ⟨rfl, b⟩
  replace HA := hid (HA.out.below b (Nat.le_refl _))
  replace HK1 := hid (HK1.out.below b (Nat.le_refl _))
  replace HK2 := hid (HK2.out.below b (Nat.le_refl _))
  replace HQ := hid (HQ.out.below b (by have := S0.out; have := S1.out; have := S2.out; have := S3.out; have := S4.out; have := S5.out; have := S6.out; have := S7.out; have := S8.out; have := S9.out; have := S10.out; have := S11.out; have := S12.out; have := S13.out; have := S14.out; have := S15.out; have := S16.out; have := S17.out; have := S18.out; have := S19.out; have := S20.out; have := S21.out; have := S22.out; have := S23.out; have := S24.out; omega))
  replace HX := hid (HX.out.below b (by have := S0.out; have := S1.out; have := S2.out; have := S3.out; have := S4.out; have := S5.out; have := S6.out; have := S7.out; have := S8.out; have := S9.out; have := S10.out; have := S11.out; have := S12.out; have := S13.out; have := S14.out; have := S15.out; have := S16.out; have := S17.out; have := S18.out; have := S19.out; have := S20.out; have := S21.out; have := S22.out; have := S23.out; have := S24.out; omega))
  replace BX := hid (BX.out.below b (Nat.le_refl _))
  replace XI1 := hid (XI1.out.below b (Nat.le_refl _))
  replace XI2 := hid (XI2.out.below b (Nat.le_refl _))
  replace HG := hid (HG.out.below b (by have := S0.out; have := S1.out; have := S2.out; have := S3.out; have := S4.out; have := S5.out; have := S6.out; have := S7.out; have := S8.out; have := S9.out; have := S10.out; have := S11.out; have := S12.out; have := S13.out; have := S14.out; have := S15.out; have := S16.out; have := S17.out; have := S18.out; have := S19.out; have := S20.out; have := S21.out; have := S22.out; have := S23.out; have := S24.out; omega))
  replace PJ := hid (PJ.out.below b (Nat.le_refl _))
  replace HC := hid (HC.out.trans (b.mono HC.out.size))
  have S25 := hid (b.size)
  clear b
  clear PJ
  go_wp2_with fail
  refine hK.out _ _ ?_ (fun hH2 => ?_)
  · exact ⟨HK2.out.box, XI2.out.box⟩
  clear hK KP hHeld
  have hHeld := hH2
  clear hH2
  try simp only [Act.put]
  try simp only [List.setIfInBounds_toArray]
  try simp only [List.set_cons_succ, List.set_cons_zero]
  refine anyK_step (i := 4) (by kernel_rfl) rfl (fun KP hK => ?_)
  go_simp
  refine hK.out _ _ ?_ (fun hH2 => ?_)
  · exact ⟨HK2.out.box, XI2.out.box⟩
  clear hK KP hHeld
  have hHeld := hH2
  clear hH2
  try simp only [Act.put]
  try simp only [List.setIfInBounds_toArray]
  try simp only [List.set_cons_succ, List.set_cons_zero]
  refine anyK_done (by kernel_rfl) ?_ _
  clear hHeld
  have y0 := (BX.out).c0
  have yy0 := (BX.out).c1
  go_wp2_with fail
  clear y0 yy0
  refine (markTree n rt 1 HX.out (by have := S0.out; have := S1.out; have := S2.out; have := S3.out; have := S4.out; have := S5.out; have := S6.out; have := S7.out; have := S8.out; have := S9.out; have := S10.out; have := S11.out; have := S12.out; have := S13.out; have := S14.out; have := S15.out; have := S16.out; have := S17.out; have := S18.out; have := S19.out; have := S20.out; have := S21.out; have := S22.out; have := S23.out; have := S24.out; have := S25.out; omega) hl (by omega) (by omega) (by omega) (by omega)).mono ?_
  rintro e w19 ⟨rfl, _, G⟩
  replace HC := hid (HC.out.trans ((G.below (by have := S0.out; have := S1.out; have := S2.out; have := S3.out; have := S4.out; have := S5.out; have := S6.out; have := S7.out; have := S8.out; have := S9.out; have := S10.out; have := S11.out; have := S12.out; have := S13.out; have := S14.out; have := S15.out; have := S16.out; have := S17.out; have := S18.out; have := S19.out; have := S20.out; have := S21.out; have := S22.out; have := S23.out; have := S24.out; have := S25.out; omega)).mono (by have := S0.out; have := S1.out; have := S2.out; have := S3.out; have := S4.out; have := S5.out; have := S6.out; have := S7.out; have := S8.out; have := S9.out; have := S10.out; have := S11.out; have := S12.out; have := S13.out; have := S14.out; have := S15.out; have := S16.out; have := S17.out; have := S18.out; have := S19.out; have := S20.out; have := S21.out; have := S22.out; have := S23.out; have := S24.out; have := S25.out; omega)))
  replace HA := hid (HA0.out.below HC.out (Nat.le_refl _))
  replace HK1 := hid (HK10.out.below HC.out (Nat.le_refl _))
  replace HK2 := hid (HK20.out.below HC.out (Nat.le_refl _))
  replace HQ := hid (HQ.out.agree (G.agree (by have := S0.out; have := S1.out; have := S2.out; have := S3.out; have := S4.out; have := S5.out; have := S6.out; have := S7.out; have := S8.out; have := S9.out; have := S10.out; have := S11.out; have := S12.out; have := S13.out; have := S14.out; have := S15.out; have := S16.out; have := S17.out; have := S18.out; have := S19.out; have := S20.out; have := S21.out; have := S22.out; have := S23.out; have := S24.out; have := S25.out; omega) (by have := S0.out; have := S1.out; have := S2.out; have := S3.out; have := S4.out; have := S5.out; have := S6.out; have := S7.out; have := S8.out; have := S9.out; have := S10.out; have := S11.out; have := S12.out; have := S13.out; have := S14.out; have := S15.out; have := S16.out; have := S17.out; have := S18.out; have := S19.out; have := S20.out; have := S21.out; have := S22.out; have := S23.out; have := S24.out; have := S25.out; omega)))
  replace BX := hid (BX.out.within G (by have := S0.out; have := S1.out; have := S2.out; have := S3.out; have := S4.out; have := S5.out; have := S6.out; have := S7.out; have := S8.out; have := S9.out; have := S10.out; have := S11.out; have := S12.out; have := S13.out; have := S14.out; have := S15.out; have := S16.out; have := S17.out; have := S18.out; have := S19.out; have := S20.out; have := S21.out; have := S22.out; have := S23.out; have := S24.out; have := S25.out; omega))
  replace XI1 := hid (XI1.out.agree (G.agree (by have := S0.out; have := S1.out; have := S2.out; have := S3.out; have := S4.out; have := S5.out; have := S6.out; have := S7.out; have := S8.out; have := S9.out; have := S10.out; have := S11.out; have := S12.out; have := S13.out; have := S14.out; have := S15.out; have := S16.out; have := S17.out; have := S18.out; have := S19.out; have := S20.out; have := S21.out; have := S22.out; have := S23.out; have := S24.out; have := S25.out; omega) (by have := S0.out; have := S1.out; have := S2.out; have := S3.out; have := S4.out; have := S5.out; have := S6.out; have := S7.out; have := S8.out; have := S9.out; have := S10.out; have := S11.out; have := S12.out; have := S13.out; have := S14.out; have := S15.out; have := S16.out; have := S17.out; have := S18.out; have := S19.out; have := S20.out; have := S21.out; have := S22.out; have := S23.out; have := S24.out; have := S25.out; omega)))
  replace XI2 := hid (XI2.out.agree (G.agree (by have := S0.out; have := S1.out; have := S2.out; have := S3.out; have := S4.out; have := S5.out; have := S6.out; have := S7.out; have := S8.out; have := S9.out; have := S10.out; have := S11.out; have := S12.out; have := S13.out; have := S14.out; have := S15.out; have := S16.out; have := S17.out; have := S18.out; have := S19.out; have := S20.out; have := S21.out; have := S22.out; have := S23.out; have := S24.out; have := S25.out; omega) (by have := S0.out; have := S1.out; have := S2.out; have := S3.out; have := S4.out; have := S5.out; have := S6.out; have := S7.out; have := S8.out; have := S9.out; have := S10.out; have := S11.out; have := S12.out; have := S13.out; have := S14.out; have := S15.out; have := S16.out; have := S17.out; have := S18.out; have := S19.out; have := S20.out; have := S21.out; have := S22.out; have := S23.out; have := S24.out; have := S25.out; omega)))
  replace HG := hid (HG.out.agree (G.agree (by have := S0.out; have := S1.out; have := S2.out; have := S3.out; have := S4.out; have := S5.out; have := S6.out; have := S7.out; have := S8.out; have := S9.out; have := S10.out; have := S11.out; have := S12.out; have := S13.out; have := S14.out; have := S15.out; have := S16.out; have := S17.out; have := S18.out; have := S19.out; have := S20.out; have := S21.out; have := S22.out; have := S23.out; have := S24.out; have := S25.out; omega) (by have := S0.out; have := S1.out; have := S2.out; have := S3.out; have := S4.out; have := S5.out; have := S6.out; have := S7.out; have := S8.out; have := S9.out; have := S10.out; have := S11.out; have := S12.out; have := S13.out; have := S14.out; have := S15.out; have := S16.out; have := S17.out; have := S18.out; have := S19.out; have := S20.out; have := S21.out; have := S22.out; have := S23.out; have := S24.out; have := S25.out; omega)))
  have S26 := hid (G.size)
  clear G
  clear HX BX
  rw [HKM.out]
  obtain ⟨u00, u01, u02, u03⟩ := XI1.out.box
  go_wp2_with fail
  clear u00 u01 u02 u03
  refine (markItem K1 N1 f1 KM (by omega) (by omega) (by omega) XI1.out.o).mono ?_
  rintro e w20 ⟨rfl, _, g0⟩
  have G := XI1.out.within g0
  clear g0
  replace HC := hid (HC.out.trans ((G.below (by have := S0.out; have := S1.out; have := S2.out; have := S3.out; have := S4.out; have := S5.out; have := S6.out; have := S7.out; have := S8.out; have := S9.out; have := S10.out; have := S11.out; have := S12.out; have := S13.out; have := S14.out; have := S15.out; have := S16.out; have := S17.out; have := S18.out; have := S19.out; have := S20.out; have := S21.out; have := S22.out; have := S23.out; have := S24.out; have := S25.out; have := S26.out; omega)).mono (by have := S0.out; have := S1.out; have := S2.out; have := S3.out; have := S4.out; have := S5.out; have := S6.out; have := S7.out; have := S8.out; have := S9.out; have := S10.out; have := S11.out; have := S12.out; have := S13.out; have := S14.out; have := S15.out; have := S16.out; have := S17.out; have := S18.out; have := S19.out; have := S20.out; have := S21.out; have := S22.out; have := S23.out; have := S24.out; have := S25.out; have := S26.out; omega)))
  replace HA := hid (HA0.out.below HC.out (Nat.le_refl _))
  replace HK1 := hid (HK10.out.below HC.out (Nat.le_refl _))
  replace HK2 := hid (HK20.out.below HC.out (Nat.le_refl _))
  replace HQ := hid (HQ.out.agree (G.agree (by have := S0.out; have := S1.out; have := S2.out; have := S3.out; have := S4.out; have := S5.out; have := S6.out; have := S7.out; have := S8.out; have := S9.out; have := S10.out; have := S11.out; have := S12.out; have := S13.out; have := S14.out; have := S15.out; have := S16.out; have := S17.out; have := S18.out; have := S19.out; have := S20.out; have := S21.out; have := S22.out; have := S23.out; have := S24.out; have := S25.out; have := S26.out; omega) (by have := S0.out; have := S1.out; have := S2.out; have := S3.out; have := S4.out; have := S5.out; have := S6.out; have := S7.out; have := S8.out; have := S9.out; have := S10.out; have := S11.out; have := S12.out; have := S13.out; have := S14.out; have := S15.out; have := S16.out; have := S17.out; have := S18.out; have := S19.out; have := S20.out; have := S21.out; have := S22.out; have := S23.out; have := S24.out; have := S25.out; have := S26.out; omega)))
  replace XI2 := hid (XI2.out.agree (G.agree (by have := S0.out; have := S1.out; have := S2.out; have := S3.out; have := S4.out; have := S5.out; have := S6.out; have := S7.out; have := S8.out; have := S9.out; have := S10.out; have := S11.out; have := S12.out; have := S13.out; have := S14.out; have := S15.out; have := S16.out; have := S17.out; have := S18.out; have := S19.out; have := S20.out; have := S21.out; have := S22.out; have := S23.out; have := S24.out; have := S25.out; have := S26.out; omega) (by have := S0.out; have := S1.out; have := S2.out; have := S3.out; have := S4.out; have := S5.out; have := S6.out; have := S7.out; have := S8.out; have := S9.out; have := S10.out; have := S11.out; have := S12.out; have := S13.out; have := S14.out; have := S15.out; have := S16.out; have := S17.out; have := S18.out; have := S19.out; have := S20.out; have := S21.out; have := S22.out; have := S23.out; have := S24.out; have := S25.out; have := S26.out; omega)))
  replace HG := hid (HG.out.agree (G.agree (by have := S0.out; have := S1.out; have := S2.out; have := S3.out; have := S4.out; have := S5.out; have := S6.out; have := S7.out; have := S8.out; have := S9.out; have := S10.out; have := S11.out; have := S12.out; have := S13.out; have := S14.out; have := S15.out; have := S16.out; have := S17.out; have := S18.out; have := S19.out; have := S20.out; have := S21.out; have := S22.out; have := S23.out; have := S24.out; have := S25.out; have := S26.out; omega) (by have := S0.out; have := S1.out; have := S2.out; have := S3.out; have := S4.out; have := S5.out; have := S6.out; have := S7.out; have := S8.out; have := S9.out; have := S10.out; have := S11.out; have := S12.out; have := S13.out; have := S14.out; have := S15.out; have := S16.out; have := S17.out; have := S18.out; have := S19.out; have := S20.out; have := S21.out; have := S22.out; have := S23.out; have := S24.out; have := S25.out; have := S26.out; omega)))
  have S27 := hid (G.size)
  clear G
  clear XI1
  obtain ⟨KM1, hKM⟩ : ∃ K : Int, KM + (zs1.length : Int) = K := ⟨_, rfl⟩
  rw [hKM]
  have hKM10 : 0 ≤ KM1 := by omega
  have hKM11 : KM1 ≤ 30000000 := by omega
  have hKM1n : ¬ KM1 < 0 := by omega
  clear hKM
  obtain ⟨u00, u01, u02, u03⟩ := XI2.out.box
  go_wp2_with fail
  clear u00 u01 u02 u03
  refine (markItem K2 N2 f2 KM1 (by omega) (by omega) (by omega) XI2.out.o).mono ?_
  rintro e w21 ⟨rfl, _, g0⟩
  have G := XI2.out.within g0
  clear g0
  replace HC := hid (HC.out.trans ((G.below (by have := S0.out; have := S1.out; have := S2.out; have := S3.out; have := S4.out; have := S5.out; have := S6.out; have := S7.out; have := S8.out; have := S9.out; have := S10.out; have := S11.out; have := S12.out; have := S13.out; have := S14.out; have := S15.out; have := S16.out; have := S17.out; have := S18.out; have := S19.out; have := S20.out; have := S21.out; have := S22.out; have := S23.out; have := S24.out; have := S25.out; have := S26.out; have := S27.out; omega)).mono (by have := S0.out; have := S1.out; have := S2.out; have := S3.out; have := S4.out; have := S5.out; have := S6.out; have := S7.out; have := S8.out; have := S9.out; have := S10.out; have := S11.out; have := S12.out; have := S13.out; have := S14.out; have := S15.out; have := S16.out; have := S17.out; have := S18.out; have := S19.out; have := S20.out; have := S21.out; have := S22.out; have := S23.out; have := S24.out; have := S25.out; have := S26.out; have := S27.out; omega)))
  replace HA := hid (HA0.out.below HC.out (Nat.le_refl _))
  replace HK1 := hid (HK10.out.below HC.out (Nat.le_refl _))
  replace HK2 := hid (HK20.out.below HC.out (Nat.le_refl _))
  replace HQ := hid (HQ.out.agree (G.agree (by have := S0.out; have := S1.out; have := S2.out; have := S3.out; have := S4.out; have := S5.out; have := S6.out; have := S7.out; have := S8.out; have := S9.out; have := S10.out; have := S11.out; have := S12.out; have := S13.out; have := S14.out; have := S15.out; have := S16.out; have := S17.out; have := S18.out; have := S19.out; have := S20.out; have := S21.out; have := S22.out; have := S23.out; have := S24.out; have := S25.out; have := S26.out; have := S27.out; omega) (by have := S0.out; have := S1.out; have := S2.out; have := S3.out; have := S4.out; have := S5.out; have := S6.out; have := S7.out; have := S8.out; have := S9.out; have := S10.out; have := S11.out; have := S12.out; have := S13.out; have := S14.out; have := S15.out; have := S16.out; have := S17.out; have := S18.out; have := S19.out; have := S20.out; have := S21.out; have := S22.out; have := S23.out; have := S24.out; have := S25.out; have := S26.out; have := S27.out; omega)))
  replace HG := hid (HG.out.agree (G.agree (by have := S0.out; have := S1.out; have := S2.out; have := S3.out; have := S4.out; have := S5.out; have := S6.out; have := S7.out; have := S8.out; have := S9.out; have := S10.out; have := S11.out; have := S12.out; have := S13.out; have := S14.out; have := S15.out; have := S16.out; have := S17.out; have := S18.out; have := S19.out; have := S20.out; have := S21.out; have := S22.out; have := S23.out; have := S24.out; have := S25.out; have := S26.out; have := S27.out; omega) (by have := S0.out; have := S1.out; have := S2.out; have := S3.out; have := S4.out; have := S5.out; have := S6.out; have := S7.out; have := S8.out; have := S9.out; have := S10.out; have := S11.out; have := S12.out; have := S13.out; have := S14.out; have := S15.out; have := S16.out; have := S17.out; have := S18.out; have := S19.out; have := S20.out; have := S21.out; have := S22.out; have := S23.out; have := S24.out; have := S25.out; have := S26.out; have := S27.out; omega)))
  have S28 := hid (G.size)
  clear G
  clear XI2
  obtain ⟨KM2, hKM⟩ : ∃ K : Int, KM1 + (zs2.length : Int) = K := ⟨_, rfl⟩
  rw [hKM]
  have hKM20 : 0 ≤ KM2 := by omega
  have hKM21 : KM2 ≤ 60000000 := by omega
  have hKM2n : ¬ KM2 < 0 := by omega
  clear hKM
  go_wp2_with fail
  refine (eqEntryS cHG cQ HG.out.rd HQ.out.rd HN.out hNN hsm2).mono ?_
  rintro e w22 ⟨rfl, b⟩
  replace HA := hid (HA.out.below b (Nat.le_refl _))
  replace HK1 := hid (HK1.out.below b (Nat.le_refl _))
  replace HK2 := hid (HK2.out.below b (Nat.le_refl _))
  replace HQ := hid (HQ.out.below b (by have := S0.out; have := S1.out; have := S2.out; have := S3.out; have := S4.out; have := S5.out; have := S6.out; have := S7.out; have := S8.out; have := S9.out; have := S10.out; have := S11.out; have := S12.out; have := S13.out; have := S14.out; have := S15.out; have := S16.out; have := S17.out; have := S18.out; have := S19.out; have := S20.out; have := S21.out; have := S22.out; have := S23.out; have := S24.out; have := S25.out; have := S26.out; have := S27.out; have := S28.out; omega))
  replace HG := hid (HG.out.below b (by have := S0.out; have := S1.out; have := S2.out; have := S3.out; have := S4.out; have := S5.out; have := S6.out; have := S7.out; have := S8.out; have := S9.out; have := S10.out; have := S11.out; have := S12.out; have := S13.out; have := S14.out; have := S15.out; have := S16.out; have := S17.out; have := S18.out; have := S19.out; have := S20.out; have := S21.out; have := S22.out; have := S23.out; have := S24.out; have := S25.out; have := S26.out; have := S27.out; have := S28.out; omega))
  replace HC := hid (HC.out.trans (b.mono HC.out.size))
  have S29 := hid (b.size)
  clear b
  go_wp2_with fail
  refine (markEntryS cHG 1 HG.out HN.out hNN hsm2 (by omega) (by omega)).mono ?_
  rintro e w23 ⟨rfl, o, G⟩
  replace HC := hid (HC.out.trans ((G.below (by have := S0.out; have := S1.out; have := S2.out; have := S3.out; have := S4.out; have := S5.out; have := S6.out; have := S7.out; have := S8.out; have := S9.out; have := S10.out; have := S11.out; have := S12.out; have := S13.out; have := S14.out; have := S15.out; have := S16.out; have := S17.out; have := S18.out; have := S19.out; have := S20.out; have := S21.out; have := S22.out; have := S23.out; have := S24.out; have := S25.out; have := S26.out; have := S27.out; have := S28.out; have := S29.out; omega)).mono (by have := S0.out; have := S1.out; have := S2.out; have := S3.out; have := S4.out; have := S5.out; have := S6.out; have := S7.out; have := S8.out; have := S9.out; have := S10.out; have := S11.out; have := S12.out; have := S13.out; have := S14.out; have := S15.out; have := S16.out; have := S17.out; have := S18.out; have := S19.out; have := S20.out; have := S21.out; have := S22.out; have := S23.out; have := S24.out; have := S25.out; have := S26.out; have := S27.out; have := S28.out; have := S29.out; omega)))
  replace HA := hid (HA0.out.below HC.out (Nat.le_refl _))
  replace HK1 := hid (HK10.out.below HC.out (Nat.le_refl _))
  replace HK2 := hid (HK20.out.below HC.out (Nat.le_refl _))
  replace HQ := hid (HQ.out.agree (G.agree (by have := S0.out; have := S1.out; have := S2.out; have := S3.out; have := S4.out; have := S5.out; have := S6.out; have := S7.out; have := S8.out; have := S9.out; have := S10.out; have := S11.out; have := S12.out; have := S13.out; have := S14.out; have := S15.out; have := S16.out; have := S17.out; have := S18.out; have := S19.out; have := S20.out; have := S21.out; have := S22.out; have := S23.out; have := S24.out; have := S25.out; have := S26.out; have := S27.out; have := S28.out; have := S29.out; omega) (by have := S0.out; have := S1.out; have := S2.out; have := S3.out; have := S4.out; have := S5.out; have := S6.out; have := S7.out; have := S8.out; have := S9.out; have := S10.out; have := S11.out; have := S12.out; have := S13.out; have := S14.out; have := S15.out; have := S16.out; have := S17.out; have := S18.out; have := S19.out; have := S20.out; have := S21.out; have := S22.out; have := S23.out; have := S24.out; have := S25.out; have := S26.out; have := S27.out; have := S28.out; have := S29.out; omega)))
  have S30 := hid (G.size)
  clear G
  rw [HM.out]
  replace HG := hid o
  clear o
  go_wp2_with fail
  refine (heldEntryS cHG 1 HG.out.rd HN.out hNN hsm2 (by omega) (by omega)).mono ?_
  rintro e w24 ⟨rfl, e1⟩
  subst w24
  rw [HM.out]
  go_wp2_with fail
  replace HA := hid (HA.out.below ((Still.drew w23).below _) (Nat.le_refl _))
  replace HK1 := hid (HK1.out.below ((Still.drew w23).below _) (Nat.le_refl _))
  replace HK2 := hid (HK2.out.below ((Still.drew w23).below _) (Nat.le_refl _))
  replace HQ := hid (HQ.out.below ((Still.drew w23).below w23.heap.size) (by have := S0.out; have := S1.out; have := S2.out; have := S3.out; have := S4.out; have := S5.out; have := S6.out; have := S7.out; have := S8.out; have := S9.out; have := S10.out; have := S11.out; have := S12.out; have := S13.out; have := S14.out; have := S15.out; have := S16.out; have := S17.out; have := S18.out; have := S19.out; have := S20.out; have := S21.out; have := S22.out; have := S23.out; have := S24.out; have := S25.out; have := S26.out; have := S27.out; have := S28.out; have := S29.out; have := S30.out; omega))
  replace HG := hid (HG.out.below ((Still.drew w23).below w23.heap.size) (by have := S0.out; have := S1.out; have := S2.out; have := S3.out; have := S4.out; have := S5.out; have := S6.out; have := S7.out; have := S8.out; have := S9.out; have := S10.out; have := S11.out; have := S12.out; have := S13.out; have := S14.out; have := S15.out; have := S16.out; have := S17.out; have := S18.out; have := S19.out; have := S20.out; have := S21.out; have := S22.out; have := S23.out; have := S24.out; have := S25.out; have := S26.out; have := S27.out; have := S28.out; have := S29.out; have := S30.out; omega))
  replace HC := hid (HC.out.trans (((Still.drew w23).below _).mono HC.out.size))
  have S31 := hid ((Still.drew w23).size)
  refine region_K 99 (fun W => BoxTr W w.heap.size (.slice a n c) rt ∧ Box W (w.heap.size + 1) K1 N1 f1 ka1 zs1.length kc1 ∧ Box W (w.heap.size + 2) K2 N2 f2 ka2 zs2.length kc2) (by kernel_rfl) ?_ (fun hHeld => ?_)
  · exact ⟨HA.out.box, HK1.out.box, HK2.out.box⟩
  generalize w23.drew = v5x at *
  refine anyK_take2 (i := 0) (v := ?v10) rfl (by kernel_rfl) (by kernel_rfl) (by kernel_rfl) (by rfl) (fun _ _ _ h => h) (by rfl) hHeld ?hy10 (some 96) (by rfl) ?rest10
  case hy10 => (intro W hSw; obtain ⟨⟨r0, r1⟩, ⟨p10, p11, p12, p13⟩, ⟨p20, p21, p22, p23⟩⟩ := hSw; go_simp; (try with_reducible rfl))
  try simp only [Act.put]
  try simp only [List.setIfInBounds_toArray]
  try simp only [List.set_cons_succ, List.set_cons_zero]
  refine anyK_take2 (i := 2) (v := ?v11) rfl (by kernel_rfl) (by kernel_rfl) (by kernel_rfl) (by rfl) (fun _ _ _ h => h) (by rfl) hHeld ?hy11 (some 98) (by rfl) ?rest11
  case hy11 => (intro W hSw; obtain ⟨⟨r0, r1⟩, ⟨p10, p11, p12, p13⟩, ⟨p20, p21, p22, p23⟩⟩ := hSw; go_simp; (try with_reducible rfl))
  try simp only [Act.put]
  try simp only [List.setIfInBounds_toArray]
  try simp only [List.set_cons_succ, List.set_cons_zero]
  refine anyK_take2 (i := 4) (v := ?v12) rfl (by kernel_rfl) (by kernel_rfl) (by kernel_rfl) (by rfl) (fun _ _ _ h => h) (by rfl) hHeld ?hy12 (some 100) (by rfl) ?rest12
  case hy12 => (intro W hSw; obtain ⟨⟨r0, r1⟩, ⟨p10, p11, p12, p13⟩, ⟨p20, p21, p22, p23⟩⟩ := hSw; go_simp; (try with_reducible rfl))
  try simp only [Act.put]
  try simp only [List.setIfInBounds_toArray]
  try simp only [List.set_cons_succ, List.set_cons_zero]
  refine anyK_step (i := 1) (by kernel_rfl) rfl (fun KP hK => ?_)
  go_simp
  refine (toTree c rt HA.out.reads hl (by omega) (by omega)).mono ?_
  rintro e w25 ⟨gpz, rfl, o, b⟩
  replace HA := hid (HA.out.below b (Nat.le_refl _))
  replace HK1 := hid (HK1.out.below b (Nat.le_refl _))
  replace HK2 := hid (HK2.out.below b (Nat.le_refl _))
  replace HQ := hid (HQ.out.below b (by have := S0.out; have := S1.out; have := S2.out; have := S3.out; have := S4.out; have := S5.out; have := S6.out; have := S7.out; have := S8.out; have := S9.out; have := S10.out; have := S11.out; have := S12.out; have := S13.out; have := S14.out; have := S15.out; have := S16.out; have := S17.out; have := S18.out; have := S19.out; have := S20.out; have := S21.out; have := S22.out; have := S23.out; have := S24.out; have := S25.out; have := S26.out; have := S27.out; have := S28.out; have := S29.out; have := S30.out; have := S31.out; omega))
  replace HG := hid (HG.out.below b (by have := S0.out; have := S1.out; have := S2.out; have := S3.out; have := S4.out; have := S5.out; have := S6.out; have := S7.out; have := S8.out; have := S9.out; have := S10.out; have := S11.out; have := S12.out; have := S13.out; have := S14.out; have := S15.out; have := S16.out; have := S17.out; have := S18.out; have := S19.out; have := S20.out; have := S21.out; have := S22.out; have := S23.out; have := S24.out; have := S25.out; have := S26.out; have := S27.out; have := S28.out; have := S29.out; have := S30.out; have := S31.out; omega))
  replace HC := hid (HC.out.trans (b.mono HC.out.size))
  have S32 := hid (b.size)
  clear b
  have PZ := hid o
  clear o
  go_wp2_with fail
  refine hK.out _ _ ?_ (fun hH2 => ?_)
  · exact ⟨HA.out.box, HK1.out.box, HK2.out.box⟩
  clear hK KP hHeld
  have hHeld := hH2
  clear hH2
  try simp only [Act.put]
  try simp only [List.setIfInBounds_toArray]
  try simp only [List.set_cons_succ, List.set_cons_zero]
  refine anyK_step (i := 3) (by kernel_rfl) rfl (fun KP hK => ?_)
  go_simp
  refine (toItem K1 N1 f1 kc1 HK1.out.reads (by omega)).mono ?_
  rintro e w26 ⟨gpw1, rfl, o, b⟩
  replace HA := hid (HA.out.below b (Nat.le_refl _))
  replace HK1 := hid (HK1.out.below b (Nat.le_refl _))
  replace HK2 := hid (HK2.out.below b (Nat.le_refl _))
  replace HQ := hid (HQ.out.below b (by have := S0.out; have := S1.out; have := S2.out; have := S3.out; have := S4.out; have := S5.out; have := S6.out; have := S7.out; have := S8.out; have := S9.out; have := S10.out; have := S11.out; have := S12.out; have := S13.out; have := S14.out; have := S15.out; have := S16.out; have := S17.out; have := S18.out; have := S19.out; have := S20.out; have := S21.out; have := S22.out; have := S23.out; have := S24.out; have := S25.out; have := S26.out; have := S27.out; have := S28.out; have := S29.out; have := S30.out; have := S31.out; have := S32.out; omega))
  replace HG := hid (HG.out.below b (by have := S0.out; have := S1.out; have := S2.out; have := S3.out; have := S4.out; have := S5.out; have := S6.out; have := S7.out; have := S8.out; have := S9.out; have := S10.out; have := S11.out; have := S12.out; have := S13.out; have := S14.out; have := S15.out; have := S16.out; have := S17.out; have := S18.out; have := S19.out; have := S20.out; have := S21.out; have := S22.out; have := S23.out; have := S24.out; have := S25.out; have := S26.out; have := S27.out; have := S28.out; have := S29.out; have := S30.out; have := S31.out; have := S32.out; omega))
  replace PZ := hid (PZ.out.below b (by have := S0.out; have := S1.out; have := S2.out; have := S3.out; have := S4.out; have := S5.out; have := S6.out; have := S7.out; have := S8.out; have := S9.out; have := S10.out; have := S11.out; have := S12.out; have := S13.out; have := S14.out; have := S15.out; have := S16.out; have := S17.out; have := S18.out; have := S19.out; have := S20.out; have := S21.out; have := S22.out; have := S23.out; have := S24.out; have := S25.out; have := S26.out; have := S27.out; have := S28.out; have := S29.out; have := S30.out; have := S31.out; have := S32.out; omega))
  replace HC := hid (HC.out.trans (b.mono HC.out.size))
  have S33 := hid (b.size)
  clear b
  have PW1 := hid (show Reads w26 (some ⟨gpw1, 0, none⟩) zs1.length zs1 by obtain ⟨_, _, e, r, _⟩ := Reads.own o Zbd1.out; obtain ⟨rfl, _, _⟩ := Value.slice.inj e; exact r)
  clear o
  go_wp2_with fail
  refine hK.out _ _ ?_ (fun hH2 => ?_)
  · exact ⟨HA.out.box, HK1.out.box, HK2.out.box⟩
  clear hK KP hHeld
  have hHeld := hH2
  clear hH2
  try simp only [Act.put]
  try simp only [List.setIfInBounds_toArray]
  try simp only [List.set_cons_succ, List.set_cons_zero]
  refine anyK_step (i := 5) (by kernel_rfl) rfl (fun KP hK => ?_)
  go_simp
  refine (toItem K2 N2 f2 kc2 HK2.out.reads (by omega)).mono ?_
  rintro e w27 ⟨gpw2, rfl, o, b⟩
  replace HA := hid (HA.out.below b (Nat.le_refl _))
  replace HK1 := hid (HK1.out.below b (Nat.le_refl _))
  replace HK2 := hid (HK2.out.below b (Nat.le_refl _))
  replace HQ := hid (HQ.out.below b (by have := S0.out; have := S1.out; have := S2.out; have := S3.out; have := S4.out; have := S5.out; have := S6.out; have := S7.out; have := S8.out; have := S9.out; have := S10.out; have := S11.out; have := S12.out; have := S13.out; have := S14.out; have := S15.out; have := S16.out; have := S17.out; have := S18.out; have := S19.out; have := S20.out; have := S21.out; have := S22.out; have := S23.out; have := S24.out; have := S25.out; have := S26.out; have := S27.out; have := S28.out; have := S29.out; have := S30.out; have := S31.out; have := S32.out; have := S33.out; omega))
  replace HG := hid (HG.out.below b (by have := S0.out; have := S1.out; have := S2.out; have := S3.out; have := S4.out; have := S5.out; have := S6.out; have := S7.out; have := S8.out; have := S9.out; have := S10.out; have := S11.out; have := S12.out; have := S13.out; have := S14.out; have := S15.out; have := S16.out; have := S17.out; have := S18.out; have := S19.out; have := S20.out; have := S21.out; have := S22.out; have := S23.out; have := S24.out; have := S25.out; have := S26.out; have := S27.out; have := S28.out; have := S29.out; have := S30.out; have := S31.out; have := S32.out; have := S33.out; omega))
  replace PZ := hid (PZ.out.below b (by have := S0.out; have := S1.out; have := S2.out; have := S3.out; have := S4.out; have := S5.out; have := S6.out; have := S7.out; have := S8.out; have := S9.out; have := S10.out; have := S11.out; have := S12.out; have := S13.out; have := S14.out; have := S15.out; have := S16.out; have := S17.out; have := S18.out; have := S19.out; have := S20.out; have := S21.out; have := S22.out; have := S23.out; have := S24.out; have := S25.out; have := S26.out; have := S27.out; have := S28.out; have := S29.out; have := S30.out; have := S31.out; have := S32.out; have := S33.out; omega))
  replace PW1 := hid (PW1.out.below b (Nat.le_refl _))
  replace HC := hid (HC.out.trans (b.mono HC.out.size))
  have S34 := hid (b.size)
  clear b
  have PW2 := hid (show Reads w27 (some ⟨gpw2, 0, none⟩) zs2.length zs2 by obtain ⟨_, _, e, r, _⟩ := Reads.own o Zbd2.out; obtain ⟨rfl, _, _⟩ := Value.slice.inj e; exact r)
  clear o
  go_wp2_with fail
  refine hK.out _ _ ?_ (fun hH2 => ?_)
  · exact ⟨HA.out.box, HK1.out.box, HK2.out.box⟩
  clear hK KP hHeld
  have hHeld := hH2
  clear hH2
  try simp only [Act.put]
  try simp only [List.setIfInBounds_toArray]
  try simp only [List.set_cons_succ, List.set_cons_zero]
  refine anyK_step (i := 6) (by kernel_rfl) rfl (fun KP hK => ?_)
  go_simp
  refine (impl_TreeSpan n rt PZ.out.rd hl HTx.out ⟨K1, N1, f1, zs1⟩ ⟨K2, N2, f2, zs2⟩ zs1.length zs2.length PW1.out PW2.out hf1 hf2 (by simp only; omega) (by simp only; omega)).mono ?_
  rintro e w28 ⟨v, rfl, o, b⟩
  replace HA := hid (HA.out.below b (Nat.le_refl _))
  replace HK1 := hid (HK1.out.below b (Nat.le_refl _))
  replace HK2 := hid (HK2.out.below b (Nat.le_refl _))
  replace HQ := hid (HQ.out.below b (by have := S0.out; have := S1.out; have := S2.out; have := S3.out; have := S4.out; have := S5.out; have := S6.out; have := S7.out; have := S8.out; have := S9.out; have := S10.out; have := S11.out; have := S12.out; have := S13.out; have := S14.out; have := S15.out; have := S16.out; have := S17.out; have := S18.out; have := S19.out; have := S20.out; have := S21.out; have := S22.out; have := S23.out; have := S24.out; have := S25.out; have := S26.out; have := S27.out; have := S28.out; have := S29.out; have := S30.out; have := S31.out; have := S32.out; have := S33.out; have := S34.out; omega))
  replace HG := hid (HG.out.below b (by have := S0.out; have := S1.out; have := S2.out; have := S3.out; have := S4.out; have := S5.out; have := S6.out; have := S7.out; have := S8.out; have := S9.out; have := S10.out; have := S11.out; have := S12.out; have := S13.out; have := S14.out; have := S15.out; have := S16.out; have := S17.out; have := S18.out; have := S19.out; have := S20.out; have := S21.out; have := S22.out; have := S23.out; have := S24.out; have := S25.out; have := S26.out; have := S27.out; have := S28.out; have := S29.out; have := S30.out; have := S31.out; have := S32.out; have := S33.out; have := S34.out; omega))
  replace PZ := hid (PZ.out.below b (by have := S0.out; have := S1.out; have := S2.out; have := S3.out; have := S4.out; have := S5.out; have := S6.out; have := S7.out; have := S8.out; have := S9.out; have := S10.out; have := S11.out; have := S12.out; have := S13.out; have := S14.out; have := S15.out; have := S16.out; have := S17.out; have := S18.out; have := S19.out; have := S20.out; have := S21.out; have := S22.out; have := S23.out; have := S24.out; have := S25.out; have := S26.out; have := S27.out; have := S28.out; have := S29.out; have := S30.out; have := S31.out; have := S32.out; have := S33.out; have := S34.out; omega))
  replace PW1 := hid (PW1.out.below b (Nat.le_refl _))
  replace PW2 := hid (PW2.out.below b (Nat.le_refl _))
  replace HC := hid (HC.out.trans (b.mono HC.out.size))
  have S35 := hid (b.size)
  clear b
  rw [HRS.out] at o
  obtain ⟨aHH, cHH, e1⟩ := o.slice
  rw [HN.out] at e1
  subst e1
  have HH := hid o
  clear o
  go_wp2_with fail
  refine hK.out _ _ ?_ (fun hH2 => ?_)
  · exact ⟨HA.out.box, HK1.out.box, HK2.out.box⟩
  clear hK KP hHeld
  have hHeld := hH2
  clear hH2
  try simp only [Act.put]
  try simp only [List.setIfInBounds_toArray]
  try simp only [List.set_cons_succ, List.set_cons_zero]
  refine anyK_step (i := 7) (by kernel_rfl) rfl (fun KP hK => ?_)
  go_simp
  refine hK.out _ _ ?_ (fun hH2 => ?_)
  · exact ⟨HA.out.box, HK1.out.box, HK2.out.box⟩
  clear hK KP hHeld
  have hHeld := hH2
  clear hH2
  try simp only [Act.put]
  try simp only [List.setIfInBounds_toArray]
  try simp only [List.set_cons_succ, List.set_cons_zero]
  refine anyK_done (by kernel_rfl) ?_ _
  clear hHeld
  go_wp2_with fail
  refine (eqEntryS cHH cQ HH.out.rd HQ.out.rd HN.out hNN hsm2).mono ?_
  rintro e w29 ⟨rfl, b⟩
  replace HA := hid (HA.out.below b (Nat.le_refl _))
  replace HK1 := hid (HK1.out.below b (Nat.le_refl _))
  replace HK2 := hid (HK2.out.below b (Nat.le_refl _))
  replace HQ := hid (HQ.out.below b (by have := S0.out; have := S1.out; have := S2.out; have := S3.out; have := S4.out; have := S5.out; have := S6.out; have := S7.out; have := S8.out; have := S9.out; have := S10.out; have := S11.out; have := S12.out; have := S13.out; have := S14.out; have := S15.out; have := S16.out; have := S17.out; have := S18.out; have := S19.out; have := S20.out; have := S21.out; have := S22.out; have := S23.out; have := S24.out; have := S25.out; have := S26.out; have := S27.out; have := S28.out; have := S29.out; have := S30.out; have := S31.out; have := S32.out; have := S33.out; have := S34.out; have := S35.out; omega))
  replace HG := hid (HG.out.below b (by have := S0.out; have := S1.out; have := S2.out; have := S3.out; have := S4.out; have := S5.out; have := S6.out; have := S7.out; have := S8.out; have := S9.out; have := S10.out; have := S11.out; have := S12.out; have := S13.out; have := S14.out; have := S15.out; have := S16.out; have := S17.out; have := S18.out; have := S19.out; have := S20.out; have := S21.out; have := S22.out; have := S23.out; have := S24.out; have := S25.out; have := S26.out; have := S27.out; have := S28.out; have := S29.out; have := S30.out; have := S31.out; have := S32.out; have := S33.out; have := S34.out; have := S35.out; omega))
  replace PZ := hid (PZ.out.below b (by have := S0.out; have := S1.out; have := S2.out; have := S3.out; have := S4.out; have := S5.out; have := S6.out; have := S7.out; have := S8.out; have := S9.out; have := S10.out; have := S11.out; have := S12.out; have := S13.out; have := S14.out; have := S15.out; have := S16.out; have := S17.out; have := S18.out; have := S19.out; have := S20.out; have := S21.out; have := S22.out; have := S23.out; have := S24.out; have := S25.out; have := S26.out; have := S27.out; have := S28.out; have := S29.out; have := S30.out; have := S31.out; have := S32.out; have := S33.out; have := S34.out; have := S35.out; omega))
  replace PW1 := hid (PW1.out.below b (Nat.le_refl _))
  replace PW2 := hid (PW2.out.below b (Nat.le_refl _))
  replace HH := hid (HH.out.below b (by have := S0.out; have := S1.out; have := S2.out; have := S3.out; have := S4.out; have := S5.out; have := S6.out; have := S7.out; have := S8.out; have := S9.out; have := S10.out; have := S11.out; have := S12.out; have := S13.out; have := S14.out; have := S15.out; have := S16.out; have := S17.out; have := S18.out; have := S19.out; have := S20.out; have := S21.out; have := S22.out; have := S23.out; have := S24.out; have := S25.out; have := S26.out; have := S27.out; have := S28.out; have := S29.out; have := S30.out; have := S31.out; have := S32.out; have := S33.out; have := S34.out; have := S35.out; omega))
  replace HC := hid (HC.out.trans (b.mono HC.out.size))
  have S36 := hid (b.size)
  clear b
  go_wp2_with fail
  refine (heldEntryS cHG 1 HG.out.rd HN.out hNN hsm2 (by omega) (by omega)).mono ?_
  rintro e w30 ⟨rfl, e1⟩
  subst w30
  rw [HM.out]
  go_wp2_with fail
  go_ret
  exact ⟨rfl, HB0.out.trans (HC.out.mono HB0.out.size)⟩
end Go.Proofs.Ytnjofaiekofamaa
