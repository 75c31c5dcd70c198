/- FnExactTreeFind's walk. Conditions: none but what the arguments' types say. -/
import Derived.Test.YtnjofaiekofamaaMh11
import Derived.Test.YtnjofaiekofamaaMe11
import Derived.Test.YtnjofaiekofamaaKw11
import Derived.Test.YtnjofaiekofamaaKg11
import Derived.Test.YtnjofaiekofamaaNi
import Derived.Test.YtnjofaiekofamaaMga
import Derived.Deep.RegionHeld3
namespace Go.Proofs.Ytnjofaiekofamaa
open Go.RowKit
set_option maxRecDepth 100000

set_option maxHeartbeats 25600000 in
theorem exactTreeFind {a : Option Addr} {n : Nat} (c : Nat) (rt : Int) {ds : List Nd} (K1 N1 : Int) {f1 : Nat} {ka1 : Option Addr} {kn1 : Nat} (kc1 : Nat) {zs1 : List Int} {w : World} (h : ReadsD w a ds) (hl : ds.length = n) (hn0 : n ≤ maxLen) (hk1 : Reads w ka1 kn1 zs1) (hkn1 : kn1 ≤ maxLen) (hf1 : f1 < 18446744073709551616) :
    Calls Try.prog 8 #[.agg #[.slice a n c, .int .i64 rt], .agg #[.int .i64 K1, .int .i64 N1, .float .f64 f1, .slice ka1 kn1 kc1]] w fun e w' => e = .returned (.bool true) ∧ Below w.heap.size w w' := by
  unfold maxLen at hn0
  unfold maxLen at hkn1
  obtain rfl : zs1.length = kn1 := hk1.len
  have hst1 := fun w a m => run_store Try.prog w a (.float .f64 f1) m rfl
  have Zbd1 := hid hk1.bd
  have z0 := alloc_size w (.cells #[.slice a n c, .int .i64 rt] 53)
  have z1 := alloc_size (w.alloc (.cells #[.slice a n c, .int .i64 rt] 53)) (.cells #[.int .i64 K1, .int .i64 N1, .float .f64 f1, .slice ka1 zs1.length kc1] 58)
  have bb0 := Below.alloc1 w (.cells #[.slice a n c, .int .i64 rt] 53)
  have bb1 := Below.alloc1 (w.alloc (.cells #[.slice a n c, .int .i64 rt] 53)) (.cells #[.int .i64 K1, .int .i64 N1, .float .f64 f1, .slice ka1 zs1.length kc1] 58)
  have HA0 := hid ((ArgTr.new n c rt h 53 w.heap.size rfl).below bb1 (Nat.le_refl _))
  have HK10 := hid (Arg.new K1 N1 f1 kc1 (hk1.below (bb0) (Nat.le_refl _)) 58 (w.heap.size + 1) (by omega))
  have HB0 := hid (show Below w.heap.size w ((w.alloc (.cells #[.slice a n c, .int .i64 rt] 53)).alloc (.cells #[.int .i64 K1, .int .i64 N1, .float .f64 f1, .slice ka1 zs1.length kc1] 58)) from (bb0).trans (bb1.mono (bb0).size))
  have S0 := hid (show ((w.alloc (.cells #[.slice a n c, .int .i64 rt] 53)).alloc (.cells #[.int .i64 K1, .int .i64 N1, .float .f64 f1, .slice ka1 zs1.length kc1] 58)).heap.size = w.heap.size + 2 by omega)
  have HA := HA0
  have HK1 := HK10
  clear h hk1 z0 bb0 z1 bb1
  go_enter Try.func8, Try.ntmps8
  have y0 := HA.out.box.c0
  have y1 := HA.out.box.c1
  go_wp2_with fail
  clear y0 y1
  generalize ((w.alloc (.cells #[.slice a n c, .int .i64 rt] 53)).alloc (.cells #[.int .i64 K1, .int .i64 N1, .float .f64 f1, .slice ka1 zs1.length kc1] 58)) = W0 at *
  have HC := hid (Below.refl W0.heap.size W0)
  refine (szTree c rt HA.out.reads hl (by omega) 1048576 (by omega) (by omega)).mono ?_
  rintro e w1 ⟨rfl, b⟩
  replace HA := hid (HA.out.below b (Nat.le_refl _))
  replace HK1 := hid (HK1.out.below b (Nat.le_refl _))
  replace HC := hid (HC.out.trans (b.mono HC.out.size))
  have S1 := hid (b.size)
  clear b
  by_cases hbig : (1048576 : Int) < (n + sumD szD ds : Nat)
  · rw [show lft11 1048576 (n + sumD szD ds) = -1 by unfold lft11; rw [if_pos hbig]]
    go_wp2_with fail
    go_ret
    exact ⟨rfl, HB0.out.trans (HC.out.mono HB0.out.size)⟩
  obtain ⟨LF0, hLF⟩ : ∃ LF : Int, (1048576 : Int) - (n + sumD szD ds : Nat) = LF := ⟨_, rfl⟩
  rw [show lft11 1048576 (n + sumD szD ds) = LF0 by unfold lft11; rw [if_neg hbig, hLF]]
  have hq0 : ¬ LF0 < 0 := by omega
  have hLF0 : LF0 ≤ 1048576 := by omega
  have hn : n ≤ 1048576 := by omega
  have hsz : sumD szD ds ≤ 1048576 := by omega
  have HTx := hid (show ∀ i j, ((ds.getD i nd0).es.getD j en0).Z.length ≤ 2097152 from fun i j => Nat.le_trans (texts_small hsz i j) (by omega))
  have hnm := sumD_nm ds
  rw [hl] at hnm
  clear hbig hLF
  obtain ⟨u00, u01, u02, u03⟩ := HK1.out.box
  go_wp2_with fail
  clear u00 u01 u02 u03
  refine (szItem K1 N1 f1 ka1 zs1.length kc1 LF0 (by omega) (by omega) hLF0 _).mono ?_
  rintro e w2 ⟨rfl, b⟩
  replace HA := hid (HA.out.below b (Nat.le_refl _))
  replace HK1 := hid (HK1.out.below b (Nat.le_refl _))
  replace HC := hid (HC.out.trans (b.mono HC.out.size))
  have S2 := hid (b.size)
  clear b
  by_cases hbig : LF0 < zs1.length
  · rw [if_pos hbig]
    go_wp2_with fail
    go_ret
    exact ⟨rfl, HB0.out.trans (HC.out.mono HB0.out.size)⟩
  rw [if_neg hbig]
  have hz1 : zs1.length ≤ 1048576 := by omega
  obtain ⟨LF1, hLF⟩ : ∃ LF : Int, LF0 - (zs1.length : Int) = LF := ⟨_, rfl⟩
  rw [hLF]
  have hq1 : ¬ LF1 < 0 := by omega
  have hLF1 : LF1 ≤ 1048576 := by omega
  clear hbig hLF
  go_wp2_with fail
  clear hq0 hLF0 hq1 hLF1
  replace HA := hid (HA.out.below ((Still.drew w2).below _) (Nat.le_refl _))
  replace HK1 := hid (HK1.out.below ((Still.drew w2).below _) (Nat.le_refl _))
  replace HC := hid (HC.out.trans (((Still.drew w2).below _).mono HC.out.size))
  have S3 := hid ((Still.drew w2).size)
  refine region_K 99 (fun W => BoxTr W w.heap.size (.slice a n c) rt ∧ Box W (w.heap.size + 1) K1 N1 f1 ka1 zs1.length kc1) (by kernel_rfl) ?_ (fun hHeld => ?_)
  · exact ⟨HA.out.box, HK1.out.box⟩
  generalize w2.drew = v1x at *
  refine anyK_take2 (i := 0) (v := ?v1) rfl (by kernel_rfl) (by kernel_rfl) (by kernel_rfl) (by rfl) (fun _ _ _ h => h) (by rfl) hHeld ?hy1 (some 24) (by rfl) ?rest1
  case hy1 => (intro W hSw; obtain ⟨⟨r0, r1⟩, ⟨p10, p11, p12, p13⟩⟩ := hSw; go_simp; (try with_reducible rfl))
  try simp only [Act.put]
  try simp only [List.setIfInBounds_toArray]
  try simp only [List.set_cons_succ, List.set_cons_zero]
  refine anyK_take2 (i := 2) (v := ?v2) rfl (by kernel_rfl) (by kernel_rfl) (by kernel_rfl) (by rfl) (fun _ _ _ h => h) (by rfl) hHeld ?hy2 (some 26) (by rfl) ?rest2
  case hy2 => (intro W hSw; obtain ⟨⟨r0, r1⟩, ⟨p10, p11, p12, p13⟩⟩ := hSw; go_simp; (try with_reducible rfl))
  try simp only [Act.put]
  try simp only [List.setIfInBounds_toArray]
  try simp only [List.set_cons_succ, List.set_cons_zero]
  refine anyK_step (i := 1) (by kernel_rfl) rfl (fun KP hK => ?_)
  go_simp
  refine (toTree c rt HA.out.reads hl (by omega) (by omega)).mono ?_
  rintro e w3 ⟨gps, rfl, o, b⟩
  replace HA := hid (HA.out.below b (Nat.le_refl _))
  replace HK1 := hid (HK1.out.below b (Nat.le_refl _))
  replace HC := hid (HC.out.trans (b.mono HC.out.size))
  have S4 := hid (b.size)
  clear b
  have PS := hid o
  clear o
  go_wp2_with fail
  refine hK.out _ _ ?_ (fun hH2 => ?_)
  · exact ⟨HA.out.box, HK1.out.box⟩
  clear hK KP hHeld
  have hHeld := hH2
  clear hH2
  try simp only [Act.put]
  try simp only [List.setIfInBounds_toArray]
  try simp only [List.set_cons_succ, List.set_cons_zero]
  refine anyK_step (i := 3) (by kernel_rfl) rfl (fun KP hK => ?_)
  go_simp
  refine (toItem K1 N1 f1 kc1 HK1.out.reads (by omega)).mono ?_
  rintro e w4 ⟨gpi1, rfl, o, b⟩
  replace HA := hid (HA.out.below b (Nat.le_refl _))
  replace HK1 := hid (HK1.out.below b (Nat.le_refl _))
  replace PS := hid (PS.out.below b (by have := S0.out; have := S1.out; have := S2.out; have := S3.out; have := S4.out; omega))
  replace HC := hid (HC.out.trans (b.mono HC.out.size))
  have S5 := hid (b.size)
  clear b
  have PI1 := hid (show Reads w4 (some ⟨gpi1, 0, none⟩) zs1.length zs1 by obtain ⟨_, _, e, r, _⟩ := Reads.own o Zbd1.out; obtain ⟨rfl, _, _⟩ := Value.slice.inj e; exact r)
  clear o
  go_wp2_with fail
  refine hK.out _ _ ?_ (fun hH2 => ?_)
  · exact ⟨HA.out.box, HK1.out.box⟩
  clear hK KP hHeld
  have hHeld := hH2
  clear hH2
  try simp only [Act.put]
  try simp only [List.setIfInBounds_toArray]
  try simp only [List.set_cons_succ, List.set_cons_zero]
  refine anyK_step (i := 4) (by kernel_rfl) rfl (fun KP hK => ?_)
  go_simp
  refine (spec_TreeFind n rt PS.out.rd hl HTx.out ⟨K1, N1, f1, zs1⟩ zs1.length PI1.out hf1 (by simp only; omega)).mono ?_
  rintro e w5 ⟨v, rfl, o, b⟩
  replace HA := hid (HA.out.below b (Nat.le_refl _))
  replace HK1 := hid (HK1.out.below b (Nat.le_refl _))
  replace PS := hid (PS.out.below b (by have := S0.out; have := S1.out; have := S2.out; have := S3.out; have := S4.out; have := S5.out; omega))
  replace PI1 := hid (PI1.out.below b (Nat.le_refl _))
  replace HC := hid (HC.out.trans (b.mono HC.out.size))
  have S6 := hid (b.size)
  clear b
  clear PS PI1
  have hAS := findS_small ds rt ⟨K1, N1, f1, zs1⟩
  obtain ⟨RS, hRS⟩ : ∃ RS, findS ds rt ⟨K1, N1, f1, zs1⟩ = RS := ⟨_, rfl⟩
  rw [hRS] at o hAS
  have HRS := hid hRS
  obtain ⟨Nr, hN⟩ : ∃ N, RS.length = N := ⟨_, rfl⟩
  rw [hN] at hAS
  have HN := hid hN
  have hNN : Nr ≤ 1048576 := by omega
  obtain ⟨aQ, cQ, e1⟩ := o.slice
  rw [hN] at e1
  subst e1
  have HQ := hid o
  obtain ⟨KM, hKM⟩ : ∃ KM : Int, 1 + (sumD nmD ds : Int) = KM := ⟨_, rfl⟩
  have HKM := hid hKM
  have hKM0 : 0 ≤ KM := by omega
  have hKM1 : KM ≤ 10000000 := by omega
  have hMn : ¬ (1 + (Nr : Int)) < 0 := by omega
  have hMM : ((1 + (Nr : Int)) != (1 + (Nr : Int))) = false := by simp
  clear o hRS hN hKM hAS
  go_wp2_with fail
  refine hK.out _ _ ?_ (fun hH2 => ?_)
  · exact ⟨HA.out.box, HK1.out.box⟩
  clear hK KP hHeld
  have hHeld := hH2
  clear hH2
  try simp only [Act.put]
  try simp only [List.setIfInBounds_toArray]
  try simp only [List.set_cons_succ, List.set_cons_zero]
  refine anyK_step (i := 5) (by kernel_rfl) rfl (fun KP hK => ?_)
  go_simp
  refine hK.out _ _ ?_ (fun hH2 => ?_)
  · exact ⟨HA.out.box, HK1.out.box⟩
  clear hK KP hHeld
  have hHeld := hH2
  clear hH2
  try simp only [Act.put]
  try simp only [List.setIfInBounds_toArray]
  try simp only [List.set_cons_succ, List.set_cons_zero]
  refine anyK_done (by kernel_rfl) ?_ _
  clear hHeld
  have y0 := (HA.out.box).c0
  have yy0 := (HA.out.box).c1
  go_wp2_with fail
  clear y0 yy0
  refine (toTree c rt HA.out.reads hl (by omega) (by omega)).mono ?_
  rintro e w6 ⟨gx, rfl, o, b⟩
  replace HA := hid (HA.out.below b (Nat.le_refl _))
  replace HK1 := hid (HK1.out.below b (Nat.le_refl _))
  replace HQ := hid (HQ.out.below b (by have := S0.out; have := S1.out; have := S2.out; have := S3.out; have := S4.out; have := S5.out; have := S6.out; omega))
  replace HC := hid (HC.out.trans (b.mono HC.out.size))
  have S7 := hid (b.size)
  clear b
  have HX := hid o
  clear o
  have BX := hid (BoxTr.new w6 (.slice (some ⟨gx, 0, none⟩) n n) rt 26)
  have b := Below.alloc1 w6 (.cells #[(.slice (some ⟨gx, 0, none⟩) n n), .int .i64 rt] 26)
  replace HA := hid (HA.out.below b (Nat.le_refl _))
  replace HK1 := hid (HK1.out.below b (Nat.le_refl _))
  replace HQ := hid (HQ.out.below b (by have := S0.out; have := S1.out; have := S2.out; have := S3.out; have := S4.out; have := S5.out; have := S6.out; have := S7.out; omega))
  replace HX := hid (HX.out.below b (by have := S0.out; have := S1.out; have := S2.out; have := S3.out; have := S4.out; have := S5.out; have := S6.out; have := S7.out; omega))
  replace HC := hid (HC.out.trans (b.mono HC.out.size))
  have S8 := hid (alloc_size w6 (.cells #[(.slice (some ⟨gx, 0, none⟩) n n), .int .i64 rt] 26))
  clear b
  have w8 := BX.out.c0
  have w9 := BX.out.c1
  obtain ⟨u00, u01, u02, u03⟩ := HK1.out.box
  go_wp2_with fail
  clear u00 u01 u02 u03
  clear w8 w9
  generalize w6.alloc (.cells #[(.slice (some ⟨gx, 0, none⟩) n n), .int .i64 rt] 26) = t1 at *
  refine (toItem K1 N1 f1 kc1 HK1.out.reads (by omega)).mono ?_
  rintro e w7 ⟨xi1, rfl, o, b⟩
  replace HA := hid (HA.out.below b (Nat.le_refl _))
  replace HK1 := hid (HK1.out.below b (Nat.le_refl _))
  replace HQ := hid (HQ.out.below b (by have := S0.out; have := S1.out; have := S2.out; have := S3.out; have := S4.out; have := S5.out; have := S6.out; have := S7.out; have := S8.out; omega))
  replace HX := hid (HX.out.below b (by have := S0.out; have := S1.out; have := S2.out; have := S3.out; have := S4.out; have := S5.out; have := S6.out; have := S7.out; have := S8.out; omega))
  replace BX := hid (BX.out.below b (Nat.le_refl _))
  replace HC := hid (HC.out.trans (b.mono HC.out.size))
  have S9 := hid (b.size)
  clear b
  have OX := hid o
  clear o
  have XI1 := hid (BoxIt.new OX.out Zbd1.out K1 N1 f1 32)
  have b := Below.alloc1 w7 (.cells #[.int .i64 K1, .int .i64 N1, .float .f64 f1, .slice (some ⟨xi1, 0, none⟩) zs1.length zs1.length] 32)
  replace HA := hid (HA.out.below b (Nat.le_refl _))
  replace HK1 := hid (HK1.out.below b (Nat.le_refl _))
  replace HQ := hid (HQ.out.below b (by have := S0.out; have := S1.out; have := S2.out; have := S3.out; have := S4.out; have := S5.out; have := S6.out; have := S7.out; have := S8.out; have := S9.out; omega))
  replace HX := hid (HX.out.below b (by have := S0.out; have := S1.out; have := S2.out; have := S3.out; have := S4.out; have := S5.out; have := S6.out; have := S7.out; have := S8.out; have := S9.out; omega))
  replace BX := hid (BX.out.below b (Nat.le_refl _))
  replace HC := hid (HC.out.trans (b.mono HC.out.size))
  have S10 := hid (alloc_size w7 (.cells #[.int .i64 K1, .int .i64 N1, .float .f64 f1, .slice (some ⟨xi1, 0, none⟩) zs1.length zs1.length] 32))
  clear b
  have y0 := (BX.out).c0
  have yy0 := (BX.out).c1
  go_wp2_with fail
  clear y0 yy0
  generalize w7.alloc (.cells #[.int .i64 K1, .int .i64 N1, .float .f64 f1, .slice (some ⟨xi1, 0, none⟩) zs1.length zs1.length] 32) = t2 at *
  clear OX
  refine (impl_TreeFind n rt HX.out.rd hl HTx.out ⟨K1, N1, f1, zs1⟩ zs1.length XI1.out.rd hf1 (by simp only; omega)).mono ?_
  rintro e w8 ⟨v, rfl, o, b⟩
  replace HA := hid (HA.out.below b (Nat.le_refl _))
  replace HK1 := hid (HK1.out.below b (Nat.le_refl _))
  replace HQ := hid (HQ.out.below b (by have := S0.out; have := S1.out; have := S2.out; have := S3.out; have := S4.out; have := S5.out; have := S6.out; have := S7.out; have := S8.out; have := S9.out; have := S10.out; omega))
  replace HX := hid (HX.out.below b (by have := S0.out; have := S1.out; have := S2.out; have := S3.out; have := S4.out; have := S5.out; have := S6.out; have := S7.out; have := S8.out; have := S9.out; have := S10.out; omega))
  replace BX := hid (BX.out.below b (Nat.le_refl _))
  replace XI1 := hid (XI1.out.below b (Nat.le_refl _))
  replace HC := hid (HC.out.trans (b.mono HC.out.size))
  have S11 := hid (b.size)
  clear b
  rw [HRS.out] at o
  obtain ⟨aHG, cHG, e1⟩ := o.slice
  rw [HN.out] at e1
  subst e1
  have HG := hid o
  clear o
  go_wp2_with fail
  refine (eqIntS_any cHG cQ (n := Nr) (by have r := HG.out.rd; rw [HN.out] at r; exact r) (by have r := HQ.out.rd; rw [HN.out] at r; exact r) (by omega)).mono ?_
  rintro e w9 ⟨rfl, st⟩
  have b := st.below w8.heap.size
  clear st
  replace HA := hid (HA.out.below b (Nat.le_refl _))
  replace HK1 := hid (HK1.out.below b (Nat.le_refl _))
  replace HQ := hid (HQ.out.below b (by have := S0.out; have := S1.out; have := S2.out; have := S3.out; have := S4.out; have := S5.out; have := S6.out; have := S7.out; have := S8.out; have := S9.out; have := S10.out; have := S11.out; omega))
  replace HX := hid (HX.out.below b (by have := S0.out; have := S1.out; have := S2.out; have := S3.out; have := S4.out; have := S5.out; have := S6.out; have := S7.out; have := S8.out; have := S9.out; have := S10.out; have := S11.out; omega))
  replace BX := hid (BX.out.below b (Nat.le_refl _))
  replace XI1 := hid (XI1.out.below b (Nat.le_refl _))
  replace HG := hid (HG.out.below b (by have := S0.out; have := S1.out; have := S2.out; have := S3.out; have := S4.out; have := S5.out; have := S6.out; have := S7.out; have := S8.out; have := S9.out; have := S10.out; have := S11.out; omega))
  replace HC := hid (HC.out.trans (b.mono HC.out.size))
  have S12 := hid (b.size)
  clear b
  go_wp2_with fail
  replace HA := hid (HA.out.below ((Still.drew w9).below _) (Nat.le_refl _))
  replace HK1 := hid (HK1.out.below ((Still.drew w9).below _) (Nat.le_refl _))
  replace HQ := hid (HQ.out.below ((Still.drew w9).below w9.heap.size) (by have := S0.out; have := S1.out; have := S2.out; have := S3.out; have := S4.out; have := S5.out; have := S6.out; have := S7.out; have := S8.out; have := S9.out; have := S10.out; have := S11.out; have := S12.out; omega))
  replace HX := hid (HX.out.below ((Still.drew w9).below w9.heap.size) (by have := S0.out; have := S1.out; have := S2.out; have := S3.out; have := S4.out; have := S5.out; have := S6.out; have := S7.out; have := S8.out; have := S9.out; have := S10.out; have := S11.out; have := S12.out; omega))
  replace BX := hid (BX.out.below ((Still.drew w9).below _) (Nat.le_refl _))
  replace XI1 := hid (XI1.out.below ((Still.drew w9).below _) (Nat.le_refl _))
  replace HG := hid (HG.out.below ((Still.drew w9).below w9.heap.size) (by have := S0.out; have := S1.out; have := S2.out; have := S3.out; have := S4.out; have := S5.out; have := S6.out; have := S7.out; have := S8.out; have := S9.out; have := S10.out; have := S11.out; have := S12.out; omega))
  replace HC := hid (HC.out.trans (((Still.drew w9).below _).mono HC.out.size))
  have S13 := hid ((Still.drew w9).size)
  refine region_K 99 (fun W => BoxTr W w.heap.size (.slice a n c) rt ∧ BoxTr W w6.heap.size (.slice (some ⟨gx, 0, none⟩) n n) rt) (by kernel_rfl) ?_ (fun hHeld => ?_)
  · exact ⟨HA.out.box, BX.out⟩
  generalize w9.drew = v2x at *
  refine anyK_take2 (i := 0) (v := ?v3) rfl (by kernel_rfl) (by kernel_rfl) (by kernel_rfl) (by rfl) (fun _ _ _ h => h) (by rfl) hHeld ?hy3 (some 40) (by rfl) ?rest3
  case hy3 => (intro W hSw; obtain ⟨⟨r0, r1⟩, ⟨r2, r3⟩⟩ := hSw; go_simp; (try with_reducible rfl))
  try simp only [Act.put]
  try simp only [List.setIfInBounds_toArray]
  try simp only [List.set_cons_succ, List.set_cons_zero]
  refine anyK_take2 (i := 1) (v := ?v4) rfl (by kernel_rfl) (by kernel_rfl) (by kernel_rfl) (by rfl) (fun _ _ _ h => h) (by rfl) hHeld ?hy4 (some 41) (by rfl) ?rest4
  case hy4 => (intro W hSw; obtain ⟨⟨r0, r1⟩, ⟨r2, r3⟩⟩ := hSw; go_simp; (try with_reducible rfl))
  try simp only [Act.put]
  try simp only [List.setIfInBounds_toArray]
  try simp only [List.set_cons_succ, List.set_cons_zero]
  refine anyK_step (i := 2) (by kernel_rfl) rfl (fun KP hK => ?_)
  go_simp
  refine (toTree c rt HA.out.reads hl (by omega) (by omega)).mono ?_
  rintro e w10 ⟨gy, rfl, o, b⟩
  replace HA := hid (HA.out.below b (Nat.le_refl _))
  replace HK1 := hid (HK1.out.below b (Nat.le_refl _))
  replace HQ := hid (HQ.out.below b (by have := S0.out; have := S1.out; have := S2.out; have := S3.out; have := S4.out; have := S5.out; have := S6.out; have := S7.out; have := S8.out; have := S9.out; have := S10.out; have := S11.out; have := S12.out; have := S13.out; omega))
  replace HX := hid (HX.out.below b (by have := S0.out; have := S1.out; have := S2.out; have := S3.out; have := S4.out; have := S5.out; have := S6.out; have := S7.out; have := S8.out; have := S9.out; have := S10.out; have := S11.out; have := S12.out; have := S13.out; omega))
  replace BX := hid (BX.out.below b (Nat.le_refl _))
  replace XI1 := hid (XI1.out.below b (Nat.le_refl _))
  replace HG := hid (HG.out.below b (by have := S0.out; have := S1.out; have := S2.out; have := S3.out; have := S4.out; have := S5.out; have := S6.out; have := S7.out; have := S8.out; have := S9.out; have := S10.out; have := S11.out; have := S12.out; have := S13.out; omega))
  replace HC := hid (HC.out.trans (b.mono HC.out.size))
  have S14 := hid (b.size)
  clear b
  have PY := hid o
  clear o
  go_wp2_with fail
  refine hK.out _ _ ?_ (fun hH2 => ?_)
  · exact ⟨HA.out.box, BX.out⟩
  clear hK KP hHeld
  have hHeld := hH2
  clear hH2
  try simp only [Act.put]
  try simp only [List.setIfInBounds_toArray]
  try simp only [List.set_cons_succ, List.set_cons_zero]
  refine anyK_step (i := 3) (by kernel_rfl) rfl (fun KP hK => ?_)
  go_simp
  refine (eqTree n n rt HX.out.rd PY.out.rd hl (by omega) (by omega)).mono ?_
  rintro e w11 ⟨rfl, b⟩
  replace HA := hid (HA.out.below b (Nat.le_refl _))
  replace HK1 := hid (HK1.out.below b (Nat.le_refl _))
  replace HQ := hid (HQ.out.below b (by have := S0.out; have := S1.out; have := S2.out; have := S3.out; have := S4.out; have := S5.out; have := S6.out; have := S7.out; have := S8.out; have := S9.out; have := S10.out; have := S11.out; have := S12.out; have := S13.out; have := S14.out; omega))
  replace HX := hid (HX.out.below b (by have := S0.out; have := S1.out; have := S2.out; have := S3.out; have := S4.out; have := S5.out; have := S6.out; have := S7.out; have := S8.out; have := S9.out; have := S10.out; have := S11.out; have := S12.out; have := S13.out; have := S14.out; omega))
  replace BX := hid (BX.out.below b (Nat.le_refl _))
  replace XI1 := hid (XI1.out.below b (Nat.le_refl _))
  replace HG := hid (HG.out.below b (by have := S0.out; have := S1.out; have := S2.out; have := S3.out; have := S4.out; have := S5.out; have := S6.out; have := S7.out; have := S8.out; have := S9.out; have := S10.out; have := S11.out; have := S12.out; have := S13.out; have := S14.out; omega))
  replace PY := hid (PY.out.below b (by have := S0.out; have := S1.out; have := S2.out; have := S3.out; have := S4.out; have := S5.out; have := S6.out; have := S7.out; have := S8.out; have := S9.out; have := S10.out; have := S11.out; have := S12.out; have := S13.out; have := S14.out; omega))
  replace HC := hid (HC.out.trans (b.mono HC.out.size))
  have S15 := hid (b.size)
  clear b
  clear PY
  go_wp2_with fail
  refine hK.out _ _ ?_ (fun hH2 => ?_)
  · exact ⟨HA.out.box, BX.out⟩
  clear hK KP hHeld
  have hHeld := hH2
  clear hH2
  try simp only [Act.put]
  try simp only [List.setIfInBounds_toArray]
  try simp only [List.set_cons_succ, List.set_cons_zero]
  refine anyK_step (i := 4) (by kernel_rfl) rfl (fun KP hK => ?_)
  go_simp
  refine hK.out _ _ ?_ (fun hH2 => ?_)
  · exact ⟨HA.out.box, BX.out⟩
  clear hK KP hHeld
  have hHeld := hH2
  clear hH2
  try simp only [Act.put]
  try simp only [List.setIfInBounds_toArray]
  try simp only [List.set_cons_succ, List.set_cons_zero]
  refine anyK_done (by kernel_rfl) ?_ _
  clear hHeld
  go_wp2_with fail
  replace HA := hid (HA.out.below ((Still.drew w11).below _) (Nat.le_refl _))
  replace HK1 := hid (HK1.out.below ((Still.drew w11).below _) (Nat.le_refl _))
  replace HQ := hid (HQ.out.below ((Still.drew w11).below w11.heap.size) (by have := S0.out; have := S1.out; have := S2.out; have := S3.out; have := S4.out; have := S5.out; have := S6.out; have := S7.out; have := S8.out; have := S9.out; have := S10.out; have := S11.out; have := S12.out; have := S13.out; have := S14.out; have := S15.out; omega))
  replace HX := hid (HX.out.below ((Still.drew w11).below w11.heap.size) (by have := S0.out; have := S1.out; have := S2.out; have := S3.out; have := S4.out; have := S5.out; have := S6.out; have := S7.out; have := S8.out; have := S9.out; have := S10.out; have := S11.out; have := S12.out; have := S13.out; have := S14.out; have := S15.out; omega))
  replace BX := hid (BX.out.below ((Still.drew w11).below _) (Nat.le_refl _))
  replace XI1 := hid (XI1.out.below ((Still.drew w11).below _) (Nat.le_refl _))
  replace HG := hid (HG.out.below ((Still.drew w11).below w11.heap.size) (by have := S0.out; have := S1.out; have := S2.out; have := S3.out; have := S4.out; have := S5.out; have := S6.out; have := S7.out; have := S8.out; have := S9.out; have := S10.out; have := S11.out; have := S12.out; have := S13.out; have := S14.out; have := S15.out; omega))
  replace HC := hid (HC.out.trans (((Still.drew w11).below _).mono HC.out.size))
  have S16 := hid ((Still.drew w11).size)
  refine region_K 99 (fun W => Box W (w.heap.size + 1) K1 N1 f1 ka1 zs1.length kc1 ∧ Box W w7.heap.size K1 N1 f1 (some ⟨xi1, 0, none⟩) zs1.length zs1.length) (by kernel_rfl) ?_ (fun hHeld => ?_)
  · exact ⟨HK1.out.box, XI1.out.box⟩
  generalize w11.drew = v3x at *
  refine anyK_take2 (i := 0) (v := ?v5) rfl (by kernel_rfl) (by kernel_rfl) (by kernel_rfl) (by rfl) (fun _ _ _ h => h) (by rfl) hHeld ?hy5 (some 45) (by rfl) ?rest5
  case hy5 => (intro W hSw; obtain ⟨⟨r0, r1, r2, r3⟩, ⟨s0, s1, s2, s3⟩⟩ := hSw; go_simp; (try with_reducible rfl))
  try simp only [Act.put]
  try simp only [List.setIfInBounds_toArray]
  try simp only [List.set_cons_succ, List.set_cons_zero]
  refine anyK_take2 (i := 1) (v := ?v6) rfl (by kernel_rfl) (by kernel_rfl) (by kernel_rfl) (by rfl) (fun _ _ _ h => h) (by rfl) hHeld ?hy6 (some 46) (by rfl) ?rest6
  case hy6 => (intro W hSw; obtain ⟨⟨r0, r1, r2, r3⟩, ⟨s0, s1, s2, s3⟩⟩ := hSw; go_simp; (try with_reducible rfl))
  try simp only [Act.put]
  try simp only [List.setIfInBounds_toArray]
  try simp only [List.set_cons_succ, List.set_cons_zero]
  refine anyK_step (i := 2) (by kernel_rfl) rfl (fun KP hK => ?_)
  go_simp
  refine (toItem K1 N1 f1 kc1 HK1.out.reads (by omega)).mono ?_
  rintro e w12 ⟨gj1, rfl, o, b⟩
  replace HA := hid (HA.out.below b (Nat.le_refl _))
  replace HK1 := hid (HK1.out.below b (Nat.le_refl _))
  replace HQ := hid (HQ.out.below b (by have := S0.out; have := S1.out; have := S2.out; have := S3.out; have := S4.out; have := S5.out; have := S6.out; have := S7.out; have := S8.out; have := S9.out; have := S10.out; have := S11.out; have := S12.out; have := S13.out; have := S14.out; have := S15.out; have := S16.out; omega))
  replace HX := hid (HX.out.below b (by have := S0.out; have := S1.out; have := S2.out; have := S3.out; have := S4.out; have := S5.out; have := S6.out; have := S7.out; have := S8.out; have := S9.out; have := S10.out; have := S11.out; have := S12.out; have := S13.out; have := S14.out; have := S15.out; have := S16.out; omega))
  replace BX := hid (BX.out.below b (Nat.le_refl _))
  replace XI1 := hid (XI1.out.below b (Nat.le_refl _))
  replace HG := hid (HG.out.below b (by have := S0.out; have := S1.out; have := S2.out; have := S3.out; have := S4.out; have := S5.out; have := S6.out; have := S7.out; have := S8.out; have := S9.out; have := S10.out; have := S11.out; have := S12.out; have := S13.out; have := S14.out; have := S15.out; have := S16.out; omega))
  replace HC := hid (HC.out.trans (b.mono HC.out.size))
  have S17 := hid (b.size)
  clear b
  have PJ := hid (show Reads w12 (some ⟨gj1, 0, none⟩) zs1.length zs1 by obtain ⟨_, _, e, r, _⟩ := Reads.own o Zbd1.out; obtain ⟨rfl, _, _⟩ := Value.slice.inj e; exact r)
  clear o
  go_wp2_with fail
  refine hK.out _ _ ?_ (fun hH2 => ?_)
  · exact ⟨HK1.out.box, XI1.out.box⟩
  clear hK KP hHeld
  have hHeld := hH2
  clear hH2
  try simp only [Act.put]
  try simp only [List.setIfInBounds_toArray]
  try simp only [List.set_cons_succ, List.set_cons_zero]
  refine anyK_step (i := 3) (by kernel_rfl) rfl (fun KP hK => ?_)
  go_simp
  refine (eqItem K1 N1 f1 f1 zs1.length zs1.length hf1 hf1 (Same.refl f1) XI1.out.rd PJ.out (by omega)).mono ?_
  rintro e w13 ⟨rfl, b⟩
  replace HA := hid (HA.out.below b (Nat.le_refl _))
  replace HK1 := hid (HK1.out.below b (Nat.le_refl _))
  replace HQ := hid (HQ.out.below b (by have := S0.out; have := S1.out; have := S2.out; have := S3.out; have := S4.out; have := S5.out; have := S6.out; have := S7.out; have := S8.out; have := S9.out; have := S10.out; have := S11.out; have := S12.out; have := S13.out; have := S14.out; have := S15.out; have := S16.out; have := S17.out; omega))
  replace HX := hid (HX.out.below b (by have := S0.out; have := S1.out; have := S2.out; have := S3.out; have := S4.out; have := S5.out; have := S6.out; have := S7.out; have := S8.out; have := S9.out; have := S10.out; have := S11.out; have := S12.out; have := S13.out; have := S14.out; have := S15.out; have := S16.out; have := S17.out; omega))
  replace BX := hid (BX.out.below b (Nat.le_refl _))
  replace XI1 := hid (XI1.out.below b (Nat.le_refl _))
  replace HG := hid (HG.out.below b (by have := S0.out; have := S1.out; have := S2.out; have := S3.out; have := S4.out; have := S5.out; have := S6.out; have := S7.out; have := S8.out; have := S9.out; have := S10.out; have := S11.out; have := S12.out; have := S13.out; have := S14.out; have := S15.out; have := S16.out; have := S17.out; omega))
  replace PJ := hid (PJ.out.below b (Nat.le_refl _))
  replace HC := hid (HC.out.trans (b.mono HC.out.size))
  have S18 := hid (b.size)
  clear b
  clear PJ
  go_wp2_with fail
  refine hK.out _ _ ?_ (fun hH2 => ?_)
  · exact ⟨HK1.out.box, XI1.out.box⟩
  clear hK KP hHeld
  have hHeld := hH2
  clear hH2
  try simp only [Act.put]
  try simp only [List.setIfInBounds_toArray]
  try simp only [List.set_cons_succ, List.set_cons_zero]
  refine anyK_step (i := 4) (by kernel_rfl) rfl (fun KP hK => ?_)
  go_simp
  refine hK.out _ _ ?_ (fun hH2 => ?_)
  · exact ⟨HK1.out.box, XI1.out.box⟩
  clear hK KP hHeld
  have hHeld := hH2
  clear hH2
  try simp only [Act.put]
  try simp only [List.setIfInBounds_toArray]
  try simp only [List.set_cons_succ, List.set_cons_zero]
  refine anyK_done (by kernel_rfl) ?_ _
  clear hHeld
  have y0 := (BX.out).c0
  have yy0 := (BX.out).c1
  go_wp2_with fail
  clear y0 yy0
  refine (markTree n rt 1 HX.out (by have := S0.out; have := S1.out; have := S2.out; have := S3.out; have := S4.out; have := S5.out; have := S6.out; have := S7.out; have := S8.out; have := S9.out; have := S10.out; have := S11.out; have := S12.out; have := S13.out; have := S14.out; have := S15.out; have := S16.out; have := S17.out; have := S18.out; omega) hl (by omega) (by omega) (by omega) (by omega)).mono ?_
  rintro e w14 ⟨rfl, _, G⟩
  replace HC := hid (HC.out.trans ((G.below (by have := S0.out; have := S1.out; have := S2.out; have := S3.out; have := S4.out; have := S5.out; have := S6.out; have := S7.out; have := S8.out; have := S9.out; have := S10.out; have := S11.out; have := S12.out; have := S13.out; have := S14.out; have := S15.out; have := S16.out; have := S17.out; have := S18.out; omega)).mono (by have := S0.out; have := S1.out; have := S2.out; have := S3.out; have := S4.out; have := S5.out; have := S6.out; have := S7.out; have := S8.out; have := S9.out; have := S10.out; have := S11.out; have := S12.out; have := S13.out; have := S14.out; have := S15.out; have := S16.out; have := S17.out; have := S18.out; omega)))
  replace HA := hid (HA0.out.below HC.out (Nat.le_refl _))
  replace HK1 := hid (HK10.out.below HC.out (Nat.le_refl _))
  replace HQ := hid (HQ.out.agree (G.agree (by have := S0.out; have := S1.out; have := S2.out; have := S3.out; have := S4.out; have := S5.out; have := S6.out; have := S7.out; have := S8.out; have := S9.out; have := S10.out; have := S11.out; have := S12.out; have := S13.out; have := S14.out; have := S15.out; have := S16.out; have := S17.out; have := S18.out; omega) (by have := S0.out; have := S1.out; have := S2.out; have := S3.out; have := S4.out; have := S5.out; have := S6.out; have := S7.out; have := S8.out; have := S9.out; have := S10.out; have := S11.out; have := S12.out; have := S13.out; have := S14.out; have := S15.out; have := S16.out; have := S17.out; have := S18.out; omega)))
  replace BX := hid (BX.out.within G (by have := S0.out; have := S1.out; have := S2.out; have := S3.out; have := S4.out; have := S5.out; have := S6.out; have := S7.out; have := S8.out; have := S9.out; have := S10.out; have := S11.out; have := S12.out; have := S13.out; have := S14.out; have := S15.out; have := S16.out; have := S17.out; have := S18.out; omega))
  replace XI1 := hid (XI1.out.agree (G.agree (by have := S0.out; have := S1.out; have := S2.out; have := S3.out; have := S4.out; have := S5.out; have := S6.out; have := S7.out; have := S8.out; have := S9.out; have := S10.out; have := S11.out; have := S12.out; have := S13.out; have := S14.out; have := S15.out; have := S16.out; have := S17.out; have := S18.out; omega) (by have := S0.out; have := S1.out; have := S2.out; have := S3.out; have := S4.out; have := S5.out; have := S6.out; have := S7.out; have := S8.out; have := S9.out; have := S10.out; have := S11.out; have := S12.out; have := S13.out; have := S14.out; have := S15.out; have := S16.out; have := S17.out; have := S18.out; omega)))
  replace HG := hid (HG.out.agree (G.agree (by have := S0.out; have := S1.out; have := S2.out; have := S3.out; have := S4.out; have := S5.out; have := S6.out; have := S7.out; have := S8.out; have := S9.out; have := S10.out; have := S11.out; have := S12.out; have := S13.out; have := S14.out; have := S15.out; have := S16.out; have := S17.out; have := S18.out; omega) (by have := S0.out; have := S1.out; have := S2.out; have := S3.out; have := S4.out; have := S5.out; have := S6.out; have := S7.out; have := S8.out; have := S9.out; have := S10.out; have := S11.out; have := S12.out; have := S13.out; have := S14.out; have := S15.out; have := S16.out; have := S17.out; have := S18.out; omega)))
  have S19 := hid (G.size)
  clear G
  clear HX BX
  rw [HKM.out]
  obtain ⟨u00, u01, u02, u03⟩ := XI1.out.box
  go_wp2_with fail
  clear u00 u01 u02 u03
  refine (markItem K1 N1 f1 KM (by omega) (by omega) (by omega) XI1.out.o).mono ?_
  rintro e w15 ⟨rfl, _, g0⟩
  have G := XI1.out.within g0
  clear g0
  replace HC := hid (HC.out.trans ((G.below (by have := S0.out; have := S1.out; have := S2.out; have := S3.out; have := S4.out; have := S5.out; have := S6.out; have := S7.out; have := S8.out; have := S9.out; have := S10.out; have := S11.out; have := S12.out; have := S13.out; have := S14.out; have := S15.out; have := S16.out; have := S17.out; have := S18.out; have := S19.out; omega)).mono (by have := S0.out; have := S1.out; have := S2.out; have := S3.out; have := S4.out; have := S5.out; have := S6.out; have := S7.out; have := S8.out; have := S9.out; have := S10.out; have := S11.out; have := S12.out; have := S13.out; have := S14.out; have := S15.out; have := S16.out; have := S17.out; have := S18.out; have := S19.out; omega)))
  replace HA := hid (HA0.out.below HC.out (Nat.le_refl _))
  replace HK1 := hid (HK10.out.below HC.out (Nat.le_refl _))
  replace HQ := hid (HQ.out.agree (G.agree (by have := S0.out; have := S1.out; have := S2.out; have := S3.out; have := S4.out; have := S5.out; have := S6.out; have := S7.out; have := S8.out; have := S9.out; have := S10.out; have := S11.out; have := S12.out; have := S13.out; have := S14.out; have := S15.out; have := S16.out; have := S17.out; have := S18.out; have := S19.out; omega) (by have := S0.out; have := S1.out; have := S2.out; have := S3.out; have := S4.out; have := S5.out; have := S6.out; have := S7.out; have := S8.out; have := S9.out; have := S10.out; have := S11.out; have := S12.out; have := S13.out; have := S14.out; have := S15.out; have := S16.out; have := S17.out; have := S18.out; have := S19.out; omega)))
  replace HG := hid (HG.out.agree (G.agree (by have := S0.out; have := S1.out; have := S2.out; have := S3.out; have := S4.out; have := S5.out; have := S6.out; have := S7.out; have := S8.out; have := S9.out; have := S10.out; have := S11.out; have := S12.out; have := S13.out; have := S14.out; have := S15.out; have := S16.out; have := S17.out; have := S18.out; have := S19.out; omega) (by have := S0.out; have := S1.out; have := S2.out; have := S3.out; have := S4.out; have := S5.out; have := S6.out; have := S7.out; have := S8.out; have := S9.out; have := S10.out; have := S11.out; have := S12.out; have := S13.out; have := S14.out; have := S15.out; have := S16.out; have := S17.out; have := S18.out; have := S19.out; omega)))
  have S20 := hid (G.size)
  clear G
  clear XI1
  obtain ⟨KM1, hKM⟩ : ∃ K : Int, KM + (zs1.length : Int) = K := ⟨_, rfl⟩
  rw [hKM]
  have hKM10 : 0 ≤ KM1 := by omega
  have hKM11 : KM1 ≤ 30000000 := by omega
  have hKM1n : ¬ KM1 < 0 := by omega
  clear hKM
  go_wp2_with fail
  refine (eqIntS_any cHG cQ (n := Nr) (by have r := HG.out.rd; rw [HN.out] at r; exact r) (by have r := HQ.out.rd; rw [HN.out] at r; exact r) (by omega)).mono ?_
  rintro e w16 ⟨rfl, st⟩
  have b := st.below w15.heap.size
  clear st
  replace HA := hid (HA.out.below b (Nat.le_refl _))
  replace HK1 := hid (HK1.out.below b (Nat.le_refl _))
  replace HQ := hid (HQ.out.below b (by have := S0.out; have := S1.out; have := S2.out; have := S3.out; have := S4.out; have := S5.out; have := S6.out; have := S7.out; have := S8.out; have := S9.out; have := S10.out; have := S11.out; have := S12.out; have := S13.out; have := S14.out; have := S15.out; have := S16.out; have := S17.out; have := S18.out; have := S19.out; have := S20.out; omega))
  replace HG := hid (HG.out.below b (by have := S0.out; have := S1.out; have := S2.out; have := S3.out; have := S4.out; have := S5.out; have := S6.out; have := S7.out; have := S8.out; have := S9.out; have := S10.out; have := S11.out; have := S12.out; have := S13.out; have := S14.out; have := S15.out; have := S16.out; have := S17.out; have := S18.out; have := S19.out; have := S20.out; omega))
  replace HC := hid (HC.out.trans (b.mono HC.out.size))
  have S21 := hid (b.size)
  clear b
  go_wp2_with fail
  refine (markIntS_any 1 (n := Nr) (by omega) (by omega) (by omega) (by have r := HG.out.own; rw [HN.out] at r; exact r)).mono ?_
  rintro e w17 ⟨rfl, om, g0⟩
  obtain ⟨hgm, G⟩ := HG.out.marked (by omega) om g0
  clear g0 om
  replace HC := hid (HC.out.trans ((G.below (by have := S0.out; have := S1.out; have := S2.out; have := S3.out; have := S4.out; have := S5.out; have := S6.out; have := S7.out; have := S8.out; have := S9.out; have := S10.out; have := S11.out; have := S12.out; have := S13.out; have := S14.out; have := S15.out; have := S16.out; have := S17.out; have := S18.out; have := S19.out; have := S20.out; have := S21.out; omega)).mono (by have := S0.out; have := S1.out; have := S2.out; have := S3.out; have := S4.out; have := S5.out; have := S6.out; have := S7.out; have := S8.out; have := S9.out; have := S10.out; have := S11.out; have := S12.out; have := S13.out; have := S14.out; have := S15.out; have := S16.out; have := S17.out; have := S18.out; have := S19.out; have := S20.out; have := S21.out; omega)))
  replace HA := hid (HA0.out.below HC.out (Nat.le_refl _))
  replace HK1 := hid (HK10.out.below HC.out (Nat.le_refl _))
  replace HQ := hid (HQ.out.agree (G.agree (by have := S0.out; have := S1.out; have := S2.out; have := S3.out; have := S4.out; have := S5.out; have := S6.out; have := S7.out; have := S8.out; have := S9.out; have := S10.out; have := S11.out; have := S12.out; have := S13.out; have := S14.out; have := S15.out; have := S16.out; have := S17.out; have := S18.out; have := S19.out; have := S20.out; have := S21.out; omega) (by have := S0.out; have := S1.out; have := S2.out; have := S3.out; have := S4.out; have := S5.out; have := S6.out; have := S7.out; have := S8.out; have := S9.out; have := S10.out; have := S11.out; have := S12.out; have := S13.out; have := S14.out; have := S15.out; have := S16.out; have := S17.out; have := S18.out; have := S19.out; have := S20.out; have := S21.out; omega)))
  have S22 := hid (G.size)
  clear G
  replace HG := hid hgm
  clear hgm
  go_wp2_with fail
  refine (heldIntS_any cHG 1 (n := Nr) (by have r := HG.out.rd; rw [marksI_length] at r; exact r) (by omega) (by omega) (by omega)).mono ?_
  rintro e w18 ⟨rfl, e1⟩
  subst w18
  go_wp2_with fail
  replace HA := hid (HA.out.below ((Still.drew w17).below _) (Nat.le_refl _))
  replace HK1 := hid (HK1.out.below ((Still.drew w17).below _) (Nat.le_refl _))
  replace HQ := hid (HQ.out.below ((Still.drew w17).below w17.heap.size) (by have := S0.out; have := S1.out; have := S2.out; have := S3.out; have := S4.out; have := S5.out; have := S6.out; have := S7.out; have := S8.out; have := S9.out; have := S10.out; have := S11.out; have := S12.out; have := S13.out; have := S14.out; have := S15.out; have := S16.out; have := S17.out; have := S18.out; have := S19.out; have := S20.out; have := S21.out; have := S22.out; omega))
  replace HG := hid (HG.out.below ((Still.drew w17).below w17.heap.size) (by have := S0.out; have := S1.out; have := S2.out; have := S3.out; have := S4.out; have := S5.out; have := S6.out; have := S7.out; have := S8.out; have := S9.out; have := S10.out; have := S11.out; have := S12.out; have := S13.out; have := S14.out; have := S15.out; have := S16.out; have := S17.out; have := S18.out; have := S19.out; have := S20.out; have := S21.out; have := S22.out; omega))
  replace HC := hid (HC.out.trans (((Still.drew w17).below _).mono HC.out.size))
  have S23 := hid ((Still.drew w17).size)
  refine region_K 99 (fun W => BoxTr W w.heap.size (.slice a n c) rt ∧ Box W (w.heap.size + 1) K1 N1 f1 ka1 zs1.length kc1) (by kernel_rfl) ?_ (fun hHeld => ?_)
  · exact ⟨HA.out.box, HK1.out.box⟩
  generalize w17.drew = v4x at *
  refine anyK_take2 (i := 0) (v := ?v7) rfl (by kernel_rfl) (by kernel_rfl) (by kernel_rfl) (by rfl) (fun _ _ _ h => h) (by rfl) hHeld ?hy7 (some 75) (by rfl) ?rest7
  case hy7 => (intro W hSw; obtain ⟨⟨r0, r1⟩, ⟨p10, p11, p12, p13⟩⟩ := hSw; go_simp; (try with_reducible rfl))
  try simp only [Act.put]
  try simp only [List.setIfInBounds_toArray]
  try simp only [List.set_cons_succ, List.set_cons_zero]
  refine anyK_take2 (i := 2) (v := ?v8) rfl (by kernel_rfl) (by kernel_rfl) (by kernel_rfl) (by rfl) (fun _ _ _ h => h) (by rfl) hHeld ?hy8 (some 77) (by rfl) ?rest8
  case hy8 => (intro W hSw; obtain ⟨⟨r0, r1⟩, ⟨p10, p11, p12, p13⟩⟩ := hSw; go_simp; (try with_reducible rfl))
  try simp only [Act.put]
  try simp only [List.setIfInBounds_toArray]
  try simp only [List.set_cons_succ, List.set_cons_zero]
  refine anyK_step (i := 1) (by kernel_rfl) rfl (fun KP hK => ?_)
  go_simp
  refine (toTree c rt HA.out.reads hl (by omega) (by omega)).mono ?_
  rintro e w19 ⟨gpz, rfl, o, b⟩
  replace HA := hid (HA.out.below b (Nat.le_refl _))
  replace HK1 := hid (HK1.out.below b (Nat.le_refl _))
  replace HQ := hid (HQ.out.below b (by have := S0.out; have := S1.out; have := S2.out; have := S3.out; have := S4.out; have := S5.out; have := S6.out; have := S7.out; have := S8.out; have := S9.out; have := S10.out; have := S11.out; have := S12.out; have := S13.out; have := S14.out; have := S15.out; have := S16.out; have := S17.out; have := S18.out; have := S19.out; have := S20.out; have := S21.out; have := S22.out; have := S23.out; omega))
  replace HG := hid (HG.out.below b (by have := S0.out; have := S1.out; have := S2.out; have := S3.out; have := S4.out; have := S5.out; have := S6.out; have := S7.out; have := S8.out; have := S9.out; have := S10.out; have := S11.out; have := S12.out; have := S13.out; have := S14.out; have := S15.out; have := S16.out; have := S17.out; have := S18.out; have := S19.out; have := S20.out; have := S21.out; have := S22.out; have := S23.out; omega))
  replace HC := hid (HC.out.trans (b.mono HC.out.size))
  have S24 := hid (b.size)
  clear b
  have PZ := hid o
  clear o
  go_wp2_with fail
  refine hK.out _ _ ?_ (fun hH2 => ?_)
  · exact ⟨HA.out.box, HK1.out.box⟩
  clear hK KP hHeld
  have hHeld := hH2
  clear hH2
  try simp only [Act.put]
  try simp only [List.setIfInBounds_toArray]
  try simp only [List.set_cons_succ, List.set_cons_zero]
  refine anyK_step (i := 3) (by kernel_rfl) rfl (fun KP hK => ?_)
  go_simp
  refine (toItem K1 N1 f1 kc1 HK1.out.reads (by omega)).mono ?_
  rintro e w20 ⟨gpw1, rfl, o, b⟩
  replace HA := hid (HA.out.below b (Nat.le_refl _))
  replace HK1 := hid (HK1.out.below b (Nat.le_refl _))
  replace HQ := hid (HQ.out.below b (by have := S0.out; have := S1.out; have := S2.out; have := S3.out; have := S4.out; have := S5.out; have := S6.out; have := S7.out; have := S8.out; have := S9.out; have := S10.out; have := S11.out; have := S12.out; have := S13.out; have := S14.out; have := S15.out; have := S16.out; have := S17.out; have := S18.out; have := S19.out; have := S20.out; have := S21.out; have := S22.out; have := S23.out; have := S24.out; omega))
  replace HG := hid (HG.out.below b (by have := S0.out; have := S1.out; have := S2.out; have := S3.out; have := S4.out; have := S5.out; have := S6.out; have := S7.out; have := S8.out; have := S9.out; have := S10.out; have := S11.out; have := S12.out; have := S13.out; have := S14.out; have := S15.out; have := S16.out; have := S17.out; have := S18.out; have := S19.out; have := S20.out; have := S21.out; have := S22.out; have := S23.out; have := S24.out; omega))
  replace PZ := hid (PZ.out.below b (by have := S0.out; have := S1.out; have := S2.out; have := S3.out; have := S4.out; have := S5.out; have := S6.out; have := S7.out; have := S8.out; have := S9.out; have := S10.out; have := S11.out; have := S12.out; have := S13.out; have := S14.out; have := S15.out; have := S16.out; have := S17.out; have := S18.out; have := S19.out; have := S20.out; have := S21.out; have := S22.out; have := S23.out; have := S24.out; omega))
  replace HC := hid (HC.out.trans (b.mono HC.out.size))
  have S25 := hid (b.size)
  clear b
  have PW1 := hid (show Reads w20 (some ⟨gpw1, 0, none⟩) zs1.length zs1 by obtain ⟨_, _, e, r, _⟩ := Reads.own o Zbd1.out; obtain ⟨rfl, _, _⟩ := Value.slice.inj e; exact r)
  clear o
  go_wp2_with fail
  refine hK.out _ _ ?_ (fun hH2 => ?_)
  · exact ⟨HA.out.box, HK1.out.box⟩
  clear hK KP hHeld
  have hHeld := hH2
  clear hH2
  try simp only [Act.put]
  try simp only [List.setIfInBounds_toArray]
  try simp only [List.set_cons_succ, List.set_cons_zero]
  refine anyK_step (i := 4) (by kernel_rfl) rfl (fun KP hK => ?_)
  go_simp
  refine (impl_TreeFind n rt PZ.out.rd hl HTx.out ⟨K1, N1, f1, zs1⟩ zs1.length PW1.out hf1 (by simp only; omega)).mono ?_
  rintro e w21 ⟨v, rfl, o, b⟩
  replace HA := hid (HA.out.below b (Nat.le_refl _))
  replace HK1 := hid (HK1.out.below b (Nat.le_refl _))
  replace HQ := hid (HQ.out.below b (by have := S0.out; have := S1.out; have := S2.out; have := S3.out; have := S4.out; have := S5.out; have := S6.out; have := S7.out; have := S8.out; have := S9.out; have := S10.out; have := S11.out; have := S12.out; have := S13.out; have := S14.out; have := S15.out; have := S16.out; have := S17.out; have := S18.out; have := S19.out; have := S20.out; have := S21.out; have := S22.out; have := S23.out; have := S24.out; have := S25.out; omega))
  replace HG := hid (HG.out.below b (by have := S0.out; have := S1.out; have := S2.out; have := S3.out; have := S4.out; have := S5.out; have := S6.out; have := S7.out; have := S8.out; have := S9.out; have := S10.out; have := S11.out; have := S12.out; have := S13.out; have := S14.out; have := S15.out; have := S16.out; have := S17.out; have := S18.out; have := S19.out; have := S20.out; have := S21.out; have := S22.out; have := S23.out; have := S24.out; have := S25.out; omega))
  replace PZ := hid (PZ.out.below b (by have := S0.out; have := S1.out; have := S2.out; have := S3.out; have := S4.out; have := S5.out; have := S6.out; have := S7.out; have := S8.out; have := S9.out; have := S10.out; have := S11.out; have := S12.out; have := S13.out; have := S14.out; have := S15.out; have := S16.out; have := S17.out; have := S18.out; have := S19.out; have := S20.out; have := S21.out; have := S22.out; have := S23.out; have := S24.out; have := S25.out; omega))
  replace PW1 := hid (PW1.out.below b (Nat.le_refl _))
  replace HC := hid (HC.out.trans (b.mono HC.out.size))
  have S26 := hid (b.size)
  clear b
  rw [HRS.out] at o
  obtain ⟨aHH, cHH, e1⟩ := o.slice
  rw [HN.out] at e1
  subst e1
  have HH := hid o
  clear o
  go_wp2_with fail
  refine hK.out _ _ ?_ (fun hH2 => ?_)
  · exact ⟨HA.out.box, HK1.out.box⟩
  clear hK KP hHeld
  have hHeld := hH2
  clear hH2
  try simp only [Act.put]
  try simp only [List.setIfInBounds_toArray]
  try simp only [List.set_cons_succ, List.set_cons_zero]
  refine anyK_step (i := 5) (by kernel_rfl) rfl (fun KP hK => ?_)
  go_simp
  refine hK.out _ _ ?_ (fun hH2 => ?_)
  · exact ⟨HA.out.box, HK1.out.box⟩
  clear hK KP hHeld
  have hHeld := hH2
  clear hH2
  try simp only [Act.put]
  try simp only [List.setIfInBounds_toArray]
  try simp only [List.set_cons_succ, List.set_cons_zero]
  refine anyK_done (by kernel_rfl) ?_ _
  clear hHeld
  go_wp2_with fail
  refine (eqIntS_any cHH cQ (n := Nr) (by have r := HH.out.rd; rw [HN.out] at r; exact r) (by have r := HQ.out.rd; rw [HN.out] at r; exact r) (by omega)).mono ?_
  rintro e w22 ⟨rfl, st⟩
  have b := st.below w21.heap.size
  clear st
  replace HA := hid (HA.out.below b (Nat.le_refl _))
  replace HK1 := hid (HK1.out.below b (Nat.le_refl _))
  replace HQ := hid (HQ.out.below b (by have := S0.out; have := S1.out; have := S2.out; have := S3.out; have := S4.out; have := S5.out; have := S6.out; have := S7.out; have := S8.out; have := S9.out; have := S10.out; have := S11.out; have := S12.out; have := S13.out; have := S14.out; have := S15.out; have := S16.out; have := S17.out; have := S18.out; have := S19.out; have := S20.out; have := S21.out; have := S22.out; have := S23.out; have := S24.out; have := S25.out; have := S26.out; omega))
  replace HG := hid (HG.out.below b (by have := S0.out; have := S1.out; have := S2.out; have := S3.out; have := S4.out; have := S5.out; have := S6.out; have := S7.out; have := S8.out; have := S9.out; have := S10.out; have := S11.out; have := S12.out; have := S13.out; have := S14.out; have := S15.out; have := S16.out; have := S17.out; have := S18.out; have := S19.out; have := S20.out; have := S21.out; have := S22.out; have := S23.out; have := S24.out; have := S25.out; have := S26.out; omega))
  replace PZ := hid (PZ.out.below b (by have := S0.out; have := S1.out; have := S2.out; have := S3.out; have := S4.out; have := S5.out; have := S6.out; have := S7.out; have := S8.out; have := S9.out; have := S10.out; have := S11.out; have := S12.out; have := S13.out; have := S14.out; have := S15.out; have := S16.out; have := S17.out; have := S18.out; have := S19.out; have := S20.out; have := S21.out; have := S22.out; have := S23.out; have := S24.out; have := S25.out; have := S26.out; omega))
  replace PW1 := hid (PW1.out.below b (Nat.le_refl _))
  replace HH := hid (HH.out.below b (by have := S0.out; have := S1.out; have := S2.out; have := S3.out; have := S4.out; have := S5.out; have := S6.out; have := S7.out; have := S8.out; have := S9.out; have := S10.out; have := S11.out; have := S12.out; have := S13.out; have := S14.out; have := S15.out; have := S16.out; have := S17.out; have := S18.out; have := S19.out; have := S20.out; have := S21.out; have := S22.out; have := S23.out; have := S24.out; have := S25.out; have := S26.out; omega))
  replace HC := hid (HC.out.trans (b.mono HC.out.size))
  have S27 := hid (b.size)
  clear b
  go_wp2_with fail
  refine (heldIntS_any cHG 1 (n := Nr) (by have r := HG.out.rd; rw [marksI_length] at r; exact r) (by omega) (by omega) (by omega)).mono ?_
  rintro e w23 ⟨rfl, e1⟩
  subst w23
  go_wp2_with fail
  go_ret
  exact ⟨rfl, HB0.out.trans (HC.out.mono HB0.out.size)⟩
end Go.Proofs.Ytnjofaiekofamaa
