/- FnExactHeapVersions's walk, over a contract of the program's function. Conditions: none but what the arguments' types say. -/
import Derived.Test.YtebhipicfgnajaaGreatHv10
import Derived.Test.YtebhipicfgnajaaGreatHw10
import Derived.Test.YtebhipicfgnajaaGreatMga
import Derived.Test.YtebhipicfgnajaaGreatHn10
import Derived.Test.YtebhipicfgnajaaGreatHo10
import Derived.Test.YtebhipicfgnajaaGreatMgb
import Derived.Deep.RegionHeld3
namespace Go.Proofs.YtebhipicfgnajaaGreat
open Go.RowKit
set_option maxRecDepth 100000

theorem versH_small (ps : List Pg) (K N : Int) (f n : Nat) (zs : List Int) : smallR (versH ps K N f n zs) := by
  unfold versH
  split
  · exact fun r hr => rowsH_small ps r (List.mem_filter.1 hr).1
  · exact fun r hr => by cases hr

set_option maxHeartbeats 25600000 in
theorem exactHeapVersions (hI : ∀ (ad : Option Addr) (m cap : Nat) (qs : List Pg) (W : World), ReadsG W ad qs → qs.length = m → ∀ (K N : Int) (f : Nat) (ka : Option Addr) (kn kc : Nat) (zs : List Int), Reads W ka kn zs → f < 18446744073709551616 → kn ≤ 2097152 → Calls Tryz.prog 14 #[.agg #[.slice ad m cap], .agg #[.int .i64 K, .int .i64 N, .float .f64 f, .slice ka kn kc]] W fun e w' => ∃ v, e = .returned v ∧ OwnRw w' W.heap.size w'.heap.size v (versH qs K N f kn zs) ∧ Below W.heap.size W w') {a : Option Addr} {n : Nat} (c : Nat) {ps : List Pg} (K N : Int) {f : Nat} {ka : Option Addr} {kn : Nat} (kc : Nat) {zs : List Int} {w : World} (h : ReadsG w a ps) (hl : ps.length = n) (hn0 : n ≤ maxLen) (hk : Reads w ka kn zs) (hkn0 : kn ≤ maxLen) (hf : f < 18446744073709551616) :
    Calls Tryz.prog 5 #[.agg #[.slice a n c], .agg #[.int .i64 K, .int .i64 N, .float .f64 f, .slice ka kn kc]] w fun e w' => e = .returned (.bool true) ∧ Below w.heap.size w w' := by
  unfold maxLen at hn0 hkn0
  have hst := fun w a m => run_store Tryz.prog w a (.float .f64 f) m rfl
  have Zbd := hid hk.bd
  have b1 := Below.alloc1 w (.cells #[.slice a n c] 64)
  have z1 := alloc_size w (.cells #[.slice a n c] 64)
  have HA0 := hid ((ArgH.new n c h 64 w.heap.size rfl).below (Below.alloc1 _ (.cells #[.int .i64 K, .int .i64 N, .float .f64 f, .slice ka kn kc] 65)) (Nat.le_refl _))
  have HK0 := hid (Arg.new K N f kc (hk.below b1 (Nat.le_refl _)) 65 (w.heap.size + 1) z1.symm)
  have HB0 := hid (two w (.cells #[.slice a n c] 64) (.cells #[.int .i64 K, .int .i64 N, .float .f64 f, .slice ka kn kc] 65))
  have HII := hid hI
  have S0 := hid (show ((w.alloc (.cells #[.slice a n c] 64)).alloc (.cells #[.int .i64 K, .int .i64 N, .float .f64 f, .slice ka kn kc] 65)).heap.size = w.heap.size + 1 + 1 by rw [alloc_size, z1])
  have HA := HA0
  have HK := HK0
  clear h hI hk b1 z1
  have y0 := HA.out.box.c0
  go_enter Tryz.func5, Tryz.ntmps5
  go_wp2_with fail
  clear y0
  generalize (w.alloc (.cells #[.slice a n c] 64)).alloc (.cells #[.int .i64 K, .int .i64 N, .float .f64 f, .slice ka kn kc] 65) = W0 at *
  have HC := hid (Below.refl W0.heap.size W0)
  refine (szHeap c HA.out.reads hl (by omega) 1048576 (by omega) (by omega)).mono ?_
  rintro e w1 ⟨rfl, b⟩
  replace HA := hid (HA.out.below b (Nat.le_refl _))
  replace HK := hid (HK.out.below b (Nat.le_refl _))
  replace HC := hid (HC.out.trans (b.mono HC.out.size))
  have S1 := hid (b.size)
  clear b
  by_cases hbig : (1048576 : Int) < (n + sumG szP ps : Nat)
  · rw [show lft 1048576 (n + sumG szP ps) = -1 by unfold lft; rw [if_pos hbig]]
    go_wp2_with fail
    go_ret
    exact ⟨rfl, HB0.out.trans (HC.out.mono HB0.out.size)⟩
  obtain ⟨LF, hLF⟩ : ∃ LF : Int, (1048576 : Int) - (n + sumG szP ps : Nat) = LF := ⟨_, rfl⟩
  rw [show lft 1048576 (n + sumG szP ps) = LF by unfold lft; rw [if_neg hbig, hLF]]
  have hq0 : ¬ LF < 0 := by omega
  have hLF1 : LF ≤ 1048576 := by omega
  have hn : n ≤ 1048576 := by omega
  have hsz : sumG szP ps ≤ 1048576 := by omega
  have hnm := nm_le ps
  rw [hl] at hnm
  clear hbig hLF
  obtain ⟨u00, u01, u02, u03⟩ := HK.out.box
  go_wp2_with fail
  clear u00 u01 u02 u03
  refine (szItem K N f ka kn kc LF (by omega) (by omega) hLF1 _).mono ?_
  rintro e w2 ⟨rfl, b⟩
  replace HA := hid (HA.out.below b (Nat.le_refl _))
  replace HK := hid (HK.out.below b (Nat.le_refl _))
  replace HC := hid (HC.out.trans (b.mono HC.out.size))
  have S2 := hid (b.size)
  clear b
  by_cases hbig : LF < kn
  · rw [if_pos hbig]
    go_wp2_with fail
    go_ret
    exact ⟨rfl, HB0.out.trans (HC.out.mono HB0.out.size)⟩
  rw [if_neg hbig]
  have hkn : kn ≤ 1048576 := by omega
  have hq1 : ¬ LF - (kn : Int) < 0 := by omega
  clear hbig
  go_wp2_with fail
  clear hq0 hq1 hLF1
  replace HA := hid (HA.out.below ((Still.drew w2).below _) (Nat.le_refl _))
  replace HK := hid (HK.out.below ((Still.drew w2).below _) (Nat.le_refl _))
  replace HC := hid (HC.out.trans (((Still.drew w2).below _).mono HC.out.size))
  have S3 := hid ((Still.drew w2).size)
  refine region_K 99 (fun W => BoxH W w.heap.size (.slice a n c) ∧ Box W (w.heap.size + 1) K N f ka kn kc) (by kernel_rfl) ?_ (fun hHeld => ?_)
  · exact ⟨HA.out.box, HK.out.box⟩
  generalize w2.drew = v1x at *
  refine anyK_take2 (i := 0) (v := ?v1) rfl (by kernel_rfl) (by kernel_rfl) (by kernel_rfl) (by rfl) (fun _ _ _ h => h) (by rfl) hHeld ?hy1 (some 24) (by rfl) ?rest1
  case hy1 => (intro W hSw; obtain ⟨⟨r0⟩, ⟨r1, r2, r3, r4⟩⟩ := hSw; go_simp; (try with_reducible rfl))
  try simp only [Act.put]
  try simp only [List.setIfInBounds_toArray]
  try simp only [List.set_cons_succ, List.set_cons_zero]
  refine anyK_take2 (i := 2) (v := ?v2) rfl (by kernel_rfl) (by kernel_rfl) (by kernel_rfl) (by rfl) (fun _ _ _ h => h) (by rfl) hHeld ?hy2 (some 26) (by rfl) ?rest2
  case hy2 => (intro W hSw; obtain ⟨⟨r0⟩, ⟨r1, r2, r3, r4⟩⟩ := hSw; go_simp; (try with_reducible rfl))
  try simp only [Act.put]
  try simp only [List.setIfInBounds_toArray]
  try simp only [List.set_cons_succ, List.set_cons_zero]
  refine anyK_step (i := 1) (by kernel_rfl) rfl (fun KP hK => ?_)
  go_simp
  refine (toHeap c HA.out.reads hl (by omega) (by omega)).mono ?_
  rintro e w3 ⟨gp, rfl, o, b⟩
  replace HA := hid (HA.out.below b (Nat.le_refl _))
  replace HK := hid (HK.out.below b (Nat.le_refl _))
  replace HC := hid (HC.out.trans (b.mono HC.out.size))
  have S4 := hid (b.size)
  clear b
  have PS := hid o
  clear o
  go_wp2_with fail
  refine hK.out _ _ ?_ (fun hH2 => ?_)
  · exact ⟨HA.out.box, HK.out.box⟩
  clear hK KP hHeld
  have hHeld := hH2
  clear hH2
  try simp only [Act.put]
  try simp only [List.setIfInBounds_toArray]
  try simp only [List.set_cons_succ, List.set_cons_zero]
  refine anyK_step (i := 3) (by kernel_rfl) rfl (fun KP hK => ?_)
  go_simp
  refine (toItem K N f kc HK.out.reads (by omega)).mono ?_
  rintro e w4 ⟨gi, rfl, o, b⟩
  replace HA := hid (HA.out.below b (Nat.le_refl _))
  replace HK := hid (HK.out.below b (Nat.le_refl _))
  replace PS := hid (PS.out.below b (by have := S0.out; have := S1.out; have := S2.out; have := S3.out; have := S4.out; omega))
  replace HC := hid (HC.out.trans (b.mono HC.out.size))
  have S5 := hid (b.size)
  clear b
  have PI := hid (show Reads w4 (some ⟨gi, 0, none⟩) kn zs by obtain ⟨_, _, e, r, _⟩ := Reads.own o Zbd.out; obtain ⟨rfl, _, _⟩ := Value.slice.inj e; exact r)
  clear o
  go_wp2_with fail
  refine hK.out _ _ ?_ (fun hH2 => ?_)
  · exact ⟨HA.out.box, HK.out.box⟩
  clear hK KP hHeld
  have hHeld := hH2
  clear hH2
  try simp only [Act.put]
  try simp only [List.setIfInBounds_toArray]
  try simp only [List.set_cons_succ, List.set_cons_zero]
  refine anyK_step (i := 4) (by kernel_rfl) rfl (fun KP hK => ?_)
  go_simp
  refine (spec_HeapVersions n K N kn PS.out.rd hl PI.out hf (by omega)).mono ?_
  rintro e w5 ⟨v, rfl, o, hr6, b⟩
  replace HA := hid (HA.out.below b (Nat.le_refl _))
  replace HK := hid (HK.out.below b (Nat.le_refl _))
  replace PS := hid (PS.out.below b (by have := S0.out; have := S1.out; have := S2.out; have := S3.out; have := S4.out; have := S5.out; omega))
  replace PI := hid (PI.out.below b (Nat.le_refl _))
  replace HC := hid (HC.out.trans (b.mono HC.out.size))
  have S6 := hid (b.size)
  clear b
  clear PS PI
  have HSm := hid (versH_small ps K N f kn zs)
  have hsum := sumR_small _ HSm.out
  obtain ⟨RS, hRS⟩ : ∃ RS, versH ps K N f kn zs = RS := ⟨_, rfl⟩
  rw [hRS] at o hr6 hsum HSm
  have HRS := hid hRS
  obtain ⟨Nr, hN⟩ : ∃ N, RS.length = N := ⟨_, rfl⟩
  rw [hN] at hr6 hsum
  have HN := hid hN
  have HTx := hid (fun i (hi : i < Nr) => smallR_at HSm.out (i := i) (by rw [HN.out]; exact hi))
  obtain ⟨aQ, cQ, e1⟩ := o.slice
  rw [hN] at e1
  subst e1
  have HQ := hid o
  have hsm2 : sumR RS ≤ 2097152 := by omega
  obtain ⟨M, hM⟩ : ∃ M : Int, 1 + (sumR RS : Int) = M := ⟨_, rfl⟩
  have HM := hid hM
  have hMn : ¬ M < 0 := by omega
  have hMM : (M != M) = false := by simp
  obtain ⟨KM, hKM⟩ : ∃ KM : Int, 1 + (sumG nmP ps : Int) = KM := ⟨_, rfl⟩
  have HKM := hid hKM
  have hKM0 : 0 ≤ KM := by omega
  have hKM1 : KM ≤ 10000000 := by omega
  have hKMn : ¬ KM + (kn : Int) < 0 := by omega
  clear o hRS hN hM hKM hsum
  go_wp2_with fail
  refine hK.out _ _ ?_ (fun hH2 => ?_)
  · exact ⟨HA.out.box, HK.out.box⟩
  clear hK KP hHeld
  have hHeld := hH2
  clear hH2
  try simp only [Act.put]
  try simp only [List.setIfInBounds_toArray]
  try simp only [List.set_cons_succ, List.set_cons_zero]
  refine anyK_step (i := 5) (by kernel_rfl) rfl (fun KP hK => ?_)
  go_simp
  refine hK.out _ _ ?_ (fun hH2 => ?_)
  · exact ⟨HA.out.box, HK.out.box⟩
  clear hK KP hHeld
  have hHeld := hH2
  clear hH2
  try simp only [Act.put]
  try simp only [List.setIfInBounds_toArray]
  try simp only [List.set_cons_succ, List.set_cons_zero]
  refine anyK_done (by kernel_rfl) ?_ _
  clear hHeld
  have y0 := (HA.out.box).c0
  go_wp2_with fail
  clear y0
  refine (toHeap c HA.out.reads hl (by omega) (by omega)).mono ?_
  rintro e w6 ⟨gx, rfl, o, b⟩
  replace HA := hid (HA.out.below b (Nat.le_refl _))
  replace HK := hid (HK.out.below b (Nat.le_refl _))
  replace HQ := hid (HQ.out.below b (by have := S0.out; have := S1.out; have := S2.out; have := S3.out; have := S4.out; have := S5.out; have := S6.out; omega))
  replace HC := hid (HC.out.trans (b.mono HC.out.size))
  have S7 := hid (b.size)
  clear b
  have HX := hid o
  clear o
  have BX := hid (BoxH.mk (box1 w6 (.slice (some ⟨gx, 0, none⟩) n n) 26))
  have b := Below.alloc1 w6 (.cells #[.slice (some ⟨gx, 0, none⟩) n n] 26)
  replace HA := hid (HA.out.below b (Nat.le_refl _))
  replace HK := hid (HK.out.below b (Nat.le_refl _))
  replace HQ := hid (HQ.out.below b (by have := S0.out; have := S1.out; have := S2.out; have := S3.out; have := S4.out; have := S5.out; have := S6.out; have := S7.out; omega))
  replace HX := hid (HX.out.below b (by have := S0.out; have := S1.out; have := S2.out; have := S3.out; have := S4.out; have := S5.out; have := S6.out; have := S7.out; omega))
  replace HC := hid (HC.out.trans (b.mono HC.out.size))
  have S8 := hid (alloc_size w6 (.cells #[.slice (some ⟨gx, 0, none⟩) n n] 26))
  clear b
  obtain ⟨u00, u01, u02, u03⟩ := HK.out.box
  go_wp2_with fail
  clear u00 u01 u02 u03
  generalize w6.alloc (.cells #[.slice (some ⟨gx, 0, none⟩) n n] 26) = t1 at *
  refine (toItem K N f kc HK.out.reads (by omega)).mono ?_
  rintro e w7 ⟨xi, rfl, o, b⟩
  replace HA := hid (HA.out.below b (Nat.le_refl _))
  replace HK := hid (HK.out.below b (Nat.le_refl _))
  replace HQ := hid (HQ.out.below b (by have := S0.out; have := S1.out; have := S2.out; have := S3.out; have := S4.out; have := S5.out; have := S6.out; have := S7.out; have := S8.out; omega))
  replace HX := hid (HX.out.below b (by have := S0.out; have := S1.out; have := S2.out; have := S3.out; have := S4.out; have := S5.out; have := S6.out; have := S7.out; have := S8.out; omega))
  replace BX := hid (BX.out.below b (Nat.le_refl _))
  replace HC := hid (HC.out.trans (b.mono HC.out.size))
  have S9 := hid (b.size)
  clear b
  have OX := hid o
  clear o
  have XI := hid (BoxIt.new OX.out Zbd.out K N f 29)
  have b := Below.alloc1 w7 (.cells #[.int .i64 K, .int .i64 N, .float .f64 f, .slice (some ⟨xi, 0, none⟩) kn kn] 29)
  replace HA := hid (HA.out.below b (Nat.le_refl _))
  replace HK := hid (HK.out.below b (Nat.le_refl _))
  replace HQ := hid (HQ.out.below b (by have := S0.out; have := S1.out; have := S2.out; have := S3.out; have := S4.out; have := S5.out; have := S6.out; have := S7.out; have := S8.out; have := S9.out; omega))
  replace HX := hid (HX.out.below b (by have := S0.out; have := S1.out; have := S2.out; have := S3.out; have := S4.out; have := S5.out; have := S6.out; have := S7.out; have := S8.out; have := S9.out; omega))
  replace BX := hid (BX.out.below b (Nat.le_refl _))
  replace HC := hid (HC.out.trans (b.mono HC.out.size))
  have S10 := hid (alloc_size w7 (.cells #[.int .i64 K, .int .i64 N, .float .f64 f, .slice (some ⟨xi, 0, none⟩) kn kn] 29))
  clear b
  have y0 := (BX.out).c0
  go_wp2_with fail
  clear y0
  generalize w7.alloc (.cells #[.int .i64 K, .int .i64 N, .float .f64 f, .slice (some ⟨xi, 0, none⟩) kn kn] 29) = t2 at *
  clear OX
  refine (HII.out _ _ n _ _ HX.out.rd hl K N f _ kn kn _ XI.out.rd hf (by omega)).mono ?_
  rintro e w8 ⟨v, rfl, o, b⟩
  replace HA := hid (HA.out.below b (Nat.le_refl _))
  replace HK := hid (HK.out.below b (Nat.le_refl _))
  replace HQ := hid (HQ.out.below b (by have := S0.out; have := S1.out; have := S2.out; have := S3.out; have := S4.out; have := S5.out; have := S6.out; have := S7.out; have := S8.out; have := S9.out; have := S10.out; omega))
  replace HX := hid (HX.out.below b (by have := S0.out; have := S1.out; have := S2.out; have := S3.out; have := S4.out; have := S5.out; have := S6.out; have := S7.out; have := S8.out; have := S9.out; have := S10.out; omega))
  replace BX := hid (BX.out.below b (Nat.le_refl _))
  replace XI := hid (XI.out.below b (Nat.le_refl _))
  replace HC := hid (HC.out.trans (b.mono HC.out.size))
  have S11 := hid (b.size)
  clear b
  rw [HRS.out] at o
  obtain ⟨aHG, cHG, e1⟩ := o.slice
  rw [HN.out] at e1
  subst e1
  have HG := hid o
  clear o
  go_wp2_with fail
  refine (eqRowS cHG cQ HG.out.rd HQ.out.rd HN.out (by omega) HTx.out).mono ?_
  rintro e w9 ⟨rfl, b⟩
  replace HA := hid (HA.out.below b (Nat.le_refl _))
  replace HK := hid (HK.out.below b (Nat.le_refl _))
  replace HQ := hid (HQ.out.below b (by have := S0.out; have := S1.out; have := S2.out; have := S3.out; have := S4.out; have := S5.out; have := S6.out; have := S7.out; have := S8.out; have := S9.out; have := S10.out; have := S11.out; omega))
  replace HX := hid (HX.out.below b (by have := S0.out; have := S1.out; have := S2.out; have := S3.out; have := S4.out; have := S5.out; have := S6.out; have := S7.out; have := S8.out; have := S9.out; have := S10.out; have := S11.out; omega))
  replace BX := hid (BX.out.below b (Nat.le_refl _))
  replace XI := hid (XI.out.below b (Nat.le_refl _))
  replace HG := hid (HG.out.below b (by have := S0.out; have := S1.out; have := S2.out; have := S3.out; have := S4.out; have := S5.out; have := S6.out; have := S7.out; have := S8.out; have := S9.out; have := S10.out; have := S11.out; omega))
  replace HC := hid (HC.out.trans (b.mono HC.out.size))
  have S12 := hid (b.size)
  clear b
  go_wp2_with fail
  replace HA := hid (HA.out.below ((Still.drew w9).below _) (Nat.le_refl _))
  replace HK := hid (HK.out.below ((Still.drew w9).below _) (Nat.le_refl _))
  replace HQ := hid (HQ.out.below ((Still.drew w9).below w9.heap.size) (by have := S0.out; have := S1.out; have := S2.out; have := S3.out; have := S4.out; have := S5.out; have := S6.out; have := S7.out; have := S8.out; have := S9.out; have := S10.out; have := S11.out; have := S12.out; omega))
  replace HX := hid (HX.out.below ((Still.drew w9).below w9.heap.size) (by have := S0.out; have := S1.out; have := S2.out; have := S3.out; have := S4.out; have := S5.out; have := S6.out; have := S7.out; have := S8.out; have := S9.out; have := S10.out; have := S11.out; have := S12.out; omega))
  replace BX := hid (BX.out.below ((Still.drew w9).below _) (Nat.le_refl _))
  replace XI := hid (XI.out.below ((Still.drew w9).below _) (Nat.le_refl _))
  replace HG := hid (HG.out.below ((Still.drew w9).below w9.heap.size) (by have := S0.out; have := S1.out; have := S2.out; have := S3.out; have := S4.out; have := S5.out; have := S6.out; have := S7.out; have := S8.out; have := S9.out; have := S10.out; have := S11.out; have := S12.out; omega))
  replace HC := hid (HC.out.trans (((Still.drew w9).below _).mono HC.out.size))
  have S13 := hid ((Still.drew w9).size)
  refine region_K 99 (fun W => BoxH W w.heap.size (.slice a n c) ∧ BoxH W w6.heap.size (.slice (some ⟨gx, 0, none⟩) n n)) (by kernel_rfl) ?_ (fun hHeld => ?_)
  · exact ⟨HA.out.box, BX.out⟩
  generalize w9.drew = v2x at *
  refine anyK_take2 (i := 0) (v := ?v3) rfl (by kernel_rfl) (by kernel_rfl) (by kernel_rfl) (by rfl) (fun _ _ _ h => h) (by rfl) hHeld ?hy3 (some 40) (by rfl) ?rest3
  case hy3 => (intro W hSw; obtain ⟨⟨r0⟩, ⟨r2⟩⟩ := hSw; go_simp; (try with_reducible rfl))
  try simp only [Act.put]
  try simp only [List.setIfInBounds_toArray]
  try simp only [List.set_cons_succ, List.set_cons_zero]
  refine anyK_take2 (i := 1) (v := ?v4) rfl (by kernel_rfl) (by kernel_rfl) (by kernel_rfl) (by rfl) (fun _ _ _ h => h) (by rfl) hHeld ?hy4 (some 41) (by rfl) ?rest4
  case hy4 => (intro W hSw; obtain ⟨⟨r0⟩, ⟨r2⟩⟩ := hSw; go_simp; (try with_reducible rfl))
  try simp only [Act.put]
  try simp only [List.setIfInBounds_toArray]
  try simp only [List.set_cons_succ, List.set_cons_zero]
  refine anyK_step (i := 2) (by kernel_rfl) rfl (fun KP hK => ?_)
  go_simp
  refine (toHeap c HA.out.reads hl (by omega) (by omega)).mono ?_
  rintro e w10 ⟨gy, rfl, o, b⟩
  replace HA := hid (HA.out.below b (Nat.le_refl _))
  replace HK := hid (HK.out.below b (Nat.le_refl _))
  replace HQ := hid (HQ.out.below b (by have := S0.out; have := S1.out; have := S2.out; have := S3.out; have := S4.out; have := S5.out; have := S6.out; have := S7.out; have := S8.out; have := S9.out; have := S10.out; have := S11.out; have := S12.out; have := S13.out; omega))
  replace HX := hid (HX.out.below b (by have := S0.out; have := S1.out; have := S2.out; have := S3.out; have := S4.out; have := S5.out; have := S6.out; have := S7.out; have := S8.out; have := S9.out; have := S10.out; have := S11.out; have := S12.out; have := S13.out; omega))
  replace BX := hid (BX.out.below b (Nat.le_refl _))
  replace XI := hid (XI.out.below b (Nat.le_refl _))
  replace HG := hid (HG.out.below b (by have := S0.out; have := S1.out; have := S2.out; have := S3.out; have := S4.out; have := S5.out; have := S6.out; have := S7.out; have := S8.out; have := S9.out; have := S10.out; have := S11.out; have := S12.out; have := S13.out; omega))
  replace HC := hid (HC.out.trans (b.mono HC.out.size))
  have S14 := hid (b.size)
  clear b
  have PY := hid o
  clear o
  go_wp2_with fail
  refine hK.out _ _ ?_ (fun hH2 => ?_)
  · exact ⟨HA.out.box, BX.out⟩
  clear hK KP hHeld
  have hHeld := hH2
  clear hH2
  try simp only [Act.put]
  try simp only [List.setIfInBounds_toArray]
  try simp only [List.set_cons_succ, List.set_cons_zero]
  refine anyK_step (i := 3) (by kernel_rfl) rfl (fun KP hK => ?_)
  go_simp
  refine (eqHeap n n HX.out.rd PY.out.rd hl (by omega) (by omega)).mono ?_
  rintro e w11 ⟨rfl, b⟩
  replace HA := hid (HA.out.below b (Nat.le_refl _))
  replace HK := hid (HK.out.below b (Nat.le_refl _))
  replace HQ := hid (HQ.out.below b (by have := S0.out; have := S1.out; have := S2.out; have := S3.out; have := S4.out; have := S5.out; have := S6.out; have := S7.out; have := S8.out; have := S9.out; have := S10.out; have := S11.out; have := S12.out; have := S13.out; have := S14.out; omega))
  replace HX := hid (HX.out.below b (by have := S0.out; have := S1.out; have := S2.out; have := S3.out; have := S4.out; have := S5.out; have := S6.out; have := S7.out; have := S8.out; have := S9.out; have := S10.out; have := S11.out; have := S12.out; have := S13.out; have := S14.out; omega))
  replace BX := hid (BX.out.below b (Nat.le_refl _))
  replace XI := hid (XI.out.below b (Nat.le_refl _))
  replace HG := hid (HG.out.below b (by have := S0.out; have := S1.out; have := S2.out; have := S3.out; have := S4.out; have := S5.out; have := S6.out; have := S7.out; have := S8.out; have := S9.out; have := S10.out; have := S11.out; have := S12.out; have := S13.out; have := S14.out; omega))
  replace PY := hid (PY.out.below b (by have := S0.out; have := S1.out; have := S2.out; have := S3.out; have := S4.out; have := S5.out; have := S6.out; have := S7.out; have := S8.out; have := S9.out; have := S10.out; have := S11.out; have := S12.out; have := S13.out; have := S14.out; omega))
  replace HC := hid (HC.out.trans (b.mono HC.out.size))
  have S15 := hid (b.size)
  clear b
  clear PY
  go_wp2_with fail
  refine hK.out _ _ ?_ (fun hH2 => ?_)
  · exact ⟨HA.out.box, BX.out⟩
  clear hK KP hHeld
  have hHeld := hH2
  clear hH2
  try simp only [Act.put]
  try simp only [List.setIfInBounds_toArray]
  try simp only [List.set_cons_succ, List.set_cons_zero]
  refine anyK_step (i := 4) (by kernel_rfl) rfl (fun KP hK => ?_)
  go_simp
  refine hK.out _ _ ?_ (fun hH2 => ?_)
  · exact ⟨HA.out.box, BX.out⟩
  clear hK KP hHeld
  have hHeld := hH2
  clear hH2
  try simp only [Act.put]
  try simp only [List.setIfInBounds_toArray]
  try simp only [List.set_cons_succ, List.set_cons_zero]
  refine anyK_done (by kernel_rfl) ?_ _
  clear hHeld
  go_wp2_with fail
  replace HA := hid (HA.out.below ((Still.drew w11).below _) (Nat.le_refl _))
  replace HK := hid (HK.out.below ((Still.drew w11).below _) (Nat.le_refl _))
  replace HQ := hid (HQ.out.below ((Still.drew w11).below w11.heap.size) (by have := S0.out; have := S1.out; have := S2.out; have := S3.out; have := S4.out; have := S5.out; have := S6.out; have := S7.out; have := S8.out; have := S9.out; have := S10.out; have := S11.out; have := S12.out; have := S13.out; have := S14.out; have := S15.out; omega))
  replace HX := hid (HX.out.below ((Still.drew w11).below w11.heap.size) (by have := S0.out; have := S1.out; have := S2.out; have := S3.out; have := S4.out; have := S5.out; have := S6.out; have := S7.out; have := S8.out; have := S9.out; have := S10.out; have := S11.out; have := S12.out; have := S13.out; have := S14.out; have := S15.out; omega))
  replace BX := hid (BX.out.below ((Still.drew w11).below _) (Nat.le_refl _))
  replace XI := hid (XI.out.below ((Still.drew w11).below _) (Nat.le_refl _))
  replace HG := hid (HG.out.below ((Still.drew w11).below w11.heap.size) (by have := S0.out; have := S1.out; have := S2.out; have := S3.out; have := S4.out; have := S5.out; have := S6.out; have := S7.out; have := S8.out; have := S9.out; have := S10.out; have := S11.out; have := S12.out; have := S13.out; have := S14.out; have := S15.out; omega))
  replace HC := hid (HC.out.trans (((Still.drew w11).below _).mono HC.out.size))
  have S16 := hid ((Still.drew w11).size)
  refine region_K 99 (fun W => Box W (w.heap.size + 1) K N f ka kn kc ∧ Box W w7.heap.size K N f (some ⟨xi, 0, none⟩) kn kn) (by kernel_rfl) ?_ (fun hHeld => ?_)
  · exact ⟨HK.out.box, XI.out.box⟩
  generalize w11.drew = v3x at *
  refine anyK_take2 (i := 0) (v := ?v5) rfl (by kernel_rfl) (by kernel_rfl) (by kernel_rfl) (by rfl) (fun _ _ _ h => h) (by rfl) hHeld ?hy5 (some 45) (by rfl) ?rest5
  case hy5 => (intro W hSw; obtain ⟨⟨r0, r1, r2, r3⟩, ⟨s0, s1, s2, s3⟩⟩ := hSw; go_simp; (try with_reducible rfl))
  try simp only [Act.put]
  try simp only [List.setIfInBounds_toArray]
  try simp only [List.set_cons_succ, List.set_cons_zero]
  refine anyK_take2 (i := 1) (v := ?v6) rfl (by kernel_rfl) (by kernel_rfl) (by kernel_rfl) (by rfl) (fun _ _ _ h => h) (by rfl) hHeld ?hy6 (some 46) (by rfl) ?rest6
  case hy6 => (intro W hSw; obtain ⟨⟨r0, r1, r2, r3⟩, ⟨s0, s1, s2, s3⟩⟩ := hSw; go_simp; (try with_reducible rfl))
  try simp only [Act.put]
  try simp only [List.setIfInBounds_toArray]
  try simp only [List.set_cons_succ, List.set_cons_zero]
  refine anyK_step (i := 2) (by kernel_rfl) rfl (fun KP hK => ?_)
  go_simp
  refine (toItem K N f kc HK.out.reads (by omega)).mono ?_
  rintro e w12 ⟨gj, rfl, o, b⟩
  replace HA := hid (HA.out.below b (Nat.le_refl _))
  replace HK := hid (HK.out.below b (Nat.le_refl _))
  replace HQ := hid (HQ.out.below b (by have := S0.out; have := S1.out; have := S2.out; have := S3.out; have := S4.out; have := S5.out; have := S6.out; have := S7.out; have := S8.out; have := S9.out; have := S10.out; have := S11.out; have := S12.out; have := S13.out; have := S14.out; have := S15.out; have := S16.out; omega))
  replace HX := hid (HX.out.below b (by have := S0.out; have := S1.out; have := S2.out; have := S3.out; have := S4.out; have := S5.out; have := S6.out; have := S7.out; have := S8.out; have := S9.out; have := S10.out; have := S11.out; have := S12.out; have := S13.out; have := S14.out; have := S15.out; have := S16.out; omega))
  replace BX := hid (BX.out.below b (Nat.le_refl _))
  replace XI := hid (XI.out.below b (Nat.le_refl _))
  replace HG := hid (HG.out.below b (by have := S0.out; have := S1.out; have := S2.out; have := S3.out; have := S4.out; have := S5.out; have := S6.out; have := S7.out; have := S8.out; have := S9.out; have := S10.out; have := S11.out; have := S12.out; have := S13.out; have := S14.out; have := S15.out; have := S16.out; omega))
  replace HC := hid (HC.out.trans (b.mono HC.out.size))
  have S17 := hid (b.size)
  clear b
  have PJ := hid (show Reads w12 (some ⟨gj, 0, none⟩) kn zs by obtain ⟨_, _, e, r, _⟩ := Reads.own o Zbd.out; obtain ⟨rfl, _, _⟩ := Value.slice.inj e; exact r)
  clear o
  go_wp2_with fail
  refine hK.out _ _ ?_ (fun hH2 => ?_)
  · exact ⟨HK.out.box, XI.out.box⟩
  clear hK KP hHeld
  have hHeld := hH2
  clear hH2
  try simp only [Act.put]
  try simp only [List.setIfInBounds_toArray]
  try simp only [List.set_cons_succ, List.set_cons_zero]
  refine anyK_step (i := 3) (by kernel_rfl) rfl (fun KP hK => ?_)
  go_simp
  refine (eqItem K N f f kn kn hf hf (Same.refl f) XI.out.rd PJ.out (by omega)).mono ?_
  rintro e w13 ⟨rfl, b⟩
  replace HA := hid (HA.out.below b (Nat.le_refl _))
  replace HK := hid (HK.out.below b (Nat.le_refl _))
  replace HQ := hid (HQ.out.below b (by have := S0.out; have := S1.out; have := S2.out; have := S3.out; have := S4.out; have := S5.out; have := S6.out; have := S7.out; have := S8.out; have := S9.out; have := S10.out; have := S11.out; have := S12.out; have := S13.out; have := S14.out; have := S15.out; have := S16.out; have := S17.out; omega))
  replace HX := hid (HX.out.below b (by have := S0.out; have := S1.out; have := S2.out; have := S3.out; have := S4.out; have := S5.out; have := S6.out; have := S7.out; have := S8.out; have := S9.out; have := S10.out; have := S11.out; have := S12.out; have := S13.out; have := S14.out; have := S15.out; have := S16.out; have := S17.out; omega))
  replace BX := hid (BX.out.below b (Nat.le_refl _))
  replace XI := hid (XI.out.below b (Nat.le_refl _))
  replace HG := hid (HG.out.below b (by have := S0.out; have := S1.out; have := S2.out; have := S3.out; have := S4.out; have := S5.out; have := S6.out; have := S7.out; have := S8.out; have := S9.out; have := S10.out; have := S11.out; have := S12.out; have := S13.out; have := S14.out; have := S15.out; have := S16.out; have := S17.out; omega))
  replace PJ := hid (PJ.out.below b (Nat.le_refl _))
  replace HC := hid (HC.out.trans (b.mono HC.out.size))
  have S18 := hid (b.size)
  clear b
  clear PJ
  go_wp2_with fail
  refine hK.out _ _ ?_ (fun hH2 => ?_)
  · exact ⟨HK.out.box, XI.out.box⟩
  clear hK KP hHeld
  have hHeld := hH2
  clear hH2
  try simp only [Act.put]
  try simp only [List.setIfInBounds_toArray]
  try simp only [List.set_cons_succ, List.set_cons_zero]
  refine anyK_step (i := 4) (by kernel_rfl) rfl (fun KP hK => ?_)
  go_simp
  refine hK.out _ _ ?_ (fun hH2 => ?_)
  · exact ⟨HK.out.box, XI.out.box⟩
  clear hK KP hHeld
  have hHeld := hH2
  clear hH2
  try simp only [Act.put]
  try simp only [List.setIfInBounds_toArray]
  try simp only [List.set_cons_succ, List.set_cons_zero]
  refine anyK_done (by kernel_rfl) ?_ _
  clear hHeld
  have y0 := (BX.out).c0
  go_wp2_with fail
  clear y0
  refine (markHeap n 1 HX.out (by have := S0.out; have := S1.out; have := S2.out; have := S3.out; have := S4.out; have := S5.out; have := S6.out; have := S7.out; have := S8.out; have := S9.out; have := S10.out; have := S11.out; have := S12.out; have := S13.out; have := S14.out; have := S15.out; have := S16.out; have := S17.out; have := S18.out; omega) hl (by omega) (by omega) (by omega) (by omega)).mono ?_
  rintro e w14 ⟨rfl, _, G⟩
  replace HC := hid (HC.out.trans ((G.below (by have := S0.out; have := S1.out; have := S2.out; have := S3.out; have := S4.out; have := S5.out; have := S6.out; have := S7.out; have := S8.out; have := S9.out; have := S10.out; have := S11.out; have := S12.out; have := S13.out; have := S14.out; have := S15.out; have := S16.out; have := S17.out; have := S18.out; omega)).mono (by have := S0.out; have := S1.out; have := S2.out; have := S3.out; have := S4.out; have := S5.out; have := S6.out; have := S7.out; have := S8.out; have := S9.out; have := S10.out; have := S11.out; have := S12.out; have := S13.out; have := S14.out; have := S15.out; have := S16.out; have := S17.out; have := S18.out; omega)))
  replace HA := hid (HA0.out.below HC.out (Nat.le_refl _))
  replace HK := hid (HK0.out.below HC.out (Nat.le_refl _))
  replace HQ := hid (HQ.out.agree (G.agree (by have := S0.out; have := S1.out; have := S2.out; have := S3.out; have := S4.out; have := S5.out; have := S6.out; have := S7.out; have := S8.out; have := S9.out; have := S10.out; have := S11.out; have := S12.out; have := S13.out; have := S14.out; have := S15.out; have := S16.out; have := S17.out; have := S18.out; omega) (by have := S0.out; have := S1.out; have := S2.out; have := S3.out; have := S4.out; have := S5.out; have := S6.out; have := S7.out; have := S8.out; have := S9.out; have := S10.out; have := S11.out; have := S12.out; have := S13.out; have := S14.out; have := S15.out; have := S16.out; have := S17.out; have := S18.out; omega)))
  replace BX := hid (BX.out.within G (by have := S0.out; have := S1.out; have := S2.out; have := S3.out; have := S4.out; have := S5.out; have := S6.out; have := S7.out; have := S8.out; have := S9.out; have := S10.out; have := S11.out; have := S12.out; have := S13.out; have := S14.out; have := S15.out; have := S16.out; have := S17.out; have := S18.out; omega))
  replace XI := hid (XI.out.agree (G.agree (by have := S0.out; have := S1.out; have := S2.out; have := S3.out; have := S4.out; have := S5.out; have := S6.out; have := S7.out; have := S8.out; have := S9.out; have := S10.out; have := S11.out; have := S12.out; have := S13.out; have := S14.out; have := S15.out; have := S16.out; have := S17.out; have := S18.out; omega) (by have := S0.out; have := S1.out; have := S2.out; have := S3.out; have := S4.out; have := S5.out; have := S6.out; have := S7.out; have := S8.out; have := S9.out; have := S10.out; have := S11.out; have := S12.out; have := S13.out; have := S14.out; have := S15.out; have := S16.out; have := S17.out; have := S18.out; omega)))
  replace HG := hid (HG.out.agree (G.agree (by have := S0.out; have := S1.out; have := S2.out; have := S3.out; have := S4.out; have := S5.out; have := S6.out; have := S7.out; have := S8.out; have := S9.out; have := S10.out; have := S11.out; have := S12.out; have := S13.out; have := S14.out; have := S15.out; have := S16.out; have := S17.out; have := S18.out; omega) (by have := S0.out; have := S1.out; have := S2.out; have := S3.out; have := S4.out; have := S5.out; have := S6.out; have := S7.out; have := S8.out; have := S9.out; have := S10.out; have := S11.out; have := S12.out; have := S13.out; have := S14.out; have := S15.out; have := S16.out; have := S17.out; have := S18.out; omega)))
  have S19 := hid (G.size)
  clear G
  clear HX BX
  rw [HKM.out]
  obtain ⟨u00, u01, u02, u03⟩ := XI.out.box
  go_wp2_with fail
  clear u00 u01 u02 u03
  refine (markItem K N f KM (by omega) hKM0 (by omega) XI.out.o).mono ?_
  rintro e w15 ⟨rfl, _, g0⟩
  have G := XI.out.within g0
  clear g0
  replace HC := hid (HC.out.trans ((G.below (by have := S0.out; have := S1.out; have := S2.out; have := S3.out; have := S4.out; have := S5.out; have := S6.out; have := S7.out; have := S8.out; have := S9.out; have := S10.out; have := S11.out; have := S12.out; have := S13.out; have := S14.out; have := S15.out; have := S16.out; have := S17.out; have := S18.out; have := S19.out; omega)).mono (by have := S0.out; have := S1.out; have := S2.out; have := S3.out; have := S4.out; have := S5.out; have := S6.out; have := S7.out; have := S8.out; have := S9.out; have := S10.out; have := S11.out; have := S12.out; have := S13.out; have := S14.out; have := S15.out; have := S16.out; have := S17.out; have := S18.out; have := S19.out; omega)))
  replace HA := hid (HA0.out.below HC.out (Nat.le_refl _))
  replace HK := hid (HK0.out.below HC.out (Nat.le_refl _))
  replace HQ := hid (HQ.out.agree (G.agree (by have := S0.out; have := S1.out; have := S2.out; have := S3.out; have := S4.out; have := S5.out; have := S6.out; have := S7.out; have := S8.out; have := S9.out; have := S10.out; have := S11.out; have := S12.out; have := S13.out; have := S14.out; have := S15.out; have := S16.out; have := S17.out; have := S18.out; have := S19.out; omega) (by have := S0.out; have := S1.out; have := S2.out; have := S3.out; have := S4.out; have := S5.out; have := S6.out; have := S7.out; have := S8.out; have := S9.out; have := S10.out; have := S11.out; have := S12.out; have := S13.out; have := S14.out; have := S15.out; have := S16.out; have := S17.out; have := S18.out; have := S19.out; omega)))
  replace HG := hid (HG.out.agree (G.agree (by have := S0.out; have := S1.out; have := S2.out; have := S3.out; have := S4.out; have := S5.out; have := S6.out; have := S7.out; have := S8.out; have := S9.out; have := S10.out; have := S11.out; have := S12.out; have := S13.out; have := S14.out; have := S15.out; have := S16.out; have := S17.out; have := S18.out; have := S19.out; omega) (by have := S0.out; have := S1.out; have := S2.out; have := S3.out; have := S4.out; have := S5.out; have := S6.out; have := S7.out; have := S8.out; have := S9.out; have := S10.out; have := S11.out; have := S12.out; have := S13.out; have := S14.out; have := S15.out; have := S16.out; have := S17.out; have := S18.out; have := S19.out; omega)))
  have S20 := hid (G.size)
  clear G
  clear XI
  go_wp2_with fail
  refine (eqRowS cHG cQ HG.out.rd HQ.out.rd HN.out (by omega) HTx.out).mono ?_
  rintro e w16 ⟨rfl, b⟩
  replace HA := hid (HA.out.below b (Nat.le_refl _))
  replace HK := hid (HK.out.below b (Nat.le_refl _))
  replace HQ := hid (HQ.out.below b (by have := S0.out; have := S1.out; have := S2.out; have := S3.out; have := S4.out; have := S5.out; have := S6.out; have := S7.out; have := S8.out; have := S9.out; have := S10.out; have := S11.out; have := S12.out; have := S13.out; have := S14.out; have := S15.out; have := S16.out; have := S17.out; have := S18.out; have := S19.out; have := S20.out; omega))
  replace HG := hid (HG.out.below b (by have := S0.out; have := S1.out; have := S2.out; have := S3.out; have := S4.out; have := S5.out; have := S6.out; have := S7.out; have := S8.out; have := S9.out; have := S10.out; have := S11.out; have := S12.out; have := S13.out; have := S14.out; have := S15.out; have := S16.out; have := S17.out; have := S18.out; have := S19.out; have := S20.out; omega))
  replace HC := hid (HC.out.trans (b.mono HC.out.size))
  have S21 := hid (b.size)
  clear b
  go_wp2_with fail
  refine (markRowS cHG 1 HG.out HN.out (by omega) hsm2 (by omega) (by omega)).mono ?_
  rintro e w17 ⟨rfl, o, G⟩
  replace HC := hid (HC.out.trans ((G.below (by have := S0.out; have := S1.out; have := S2.out; have := S3.out; have := S4.out; have := S5.out; have := S6.out; have := S7.out; have := S8.out; have := S9.out; have := S10.out; have := S11.out; have := S12.out; have := S13.out; have := S14.out; have := S15.out; have := S16.out; have := S17.out; have := S18.out; have := S19.out; have := S20.out; have := S21.out; omega)).mono (by have := S0.out; have := S1.out; have := S2.out; have := S3.out; have := S4.out; have := S5.out; have := S6.out; have := S7.out; have := S8.out; have := S9.out; have := S10.out; have := S11.out; have := S12.out; have := S13.out; have := S14.out; have := S15.out; have := S16.out; have := S17.out; have := S18.out; have := S19.out; have := S20.out; have := S21.out; omega)))
  replace HA := hid (HA0.out.below HC.out (Nat.le_refl _))
  replace HK := hid (HK0.out.below HC.out (Nat.le_refl _))
  replace HQ := hid (HQ.out.agree (G.agree (by have := S0.out; have := S1.out; have := S2.out; have := S3.out; have := S4.out; have := S5.out; have := S6.out; have := S7.out; have := S8.out; have := S9.out; have := S10.out; have := S11.out; have := S12.out; have := S13.out; have := S14.out; have := S15.out; have := S16.out; have := S17.out; have := S18.out; have := S19.out; have := S20.out; have := S21.out; omega) (by have := S0.out; have := S1.out; have := S2.out; have := S3.out; have := S4.out; have := S5.out; have := S6.out; have := S7.out; have := S8.out; have := S9.out; have := S10.out; have := S11.out; have := S12.out; have := S13.out; have := S14.out; have := S15.out; have := S16.out; have := S17.out; have := S18.out; have := S19.out; have := S20.out; have := S21.out; omega)))
  have S22 := hid (G.size)
  clear G
  rw [HM.out]
  replace HG := hid o
  clear o
  go_wp2_with fail
  refine (heldRowS cHG 1 HG.out.rd HN.out (by omega) hsm2 (by omega) (by omega)).mono ?_
  rintro e w18 ⟨rfl, e1⟩
  subst w18
  rw [HM.out]
  go_wp2_with fail
  replace HA := hid (HA.out.below ((Still.drew w17).below _) (Nat.le_refl _))
  replace HK := hid (HK.out.below ((Still.drew w17).below _) (Nat.le_refl _))
  replace HQ := hid (HQ.out.below ((Still.drew w17).below w17.heap.size) (by have := S0.out; have := S1.out; have := S2.out; have := S3.out; have := S4.out; have := S5.out; have := S6.out; have := S7.out; have := S8.out; have := S9.out; have := S10.out; have := S11.out; have := S12.out; have := S13.out; have := S14.out; have := S15.out; have := S16.out; have := S17.out; have := S18.out; have := S19.out; have := S20.out; have := S21.out; have := S22.out; omega))
  replace HG := hid (HG.out.below ((Still.drew w17).below w17.heap.size) (by have := S0.out; have := S1.out; have := S2.out; have := S3.out; have := S4.out; have := S5.out; have := S6.out; have := S7.out; have := S8.out; have := S9.out; have := S10.out; have := S11.out; have := S12.out; have := S13.out; have := S14.out; have := S15.out; have := S16.out; have := S17.out; have := S18.out; have := S19.out; have := S20.out; have := S21.out; have := S22.out; omega))
  replace HC := hid (HC.out.trans (((Still.drew w17).below _).mono HC.out.size))
  have S23 := hid ((Still.drew w17).size)
  refine region_K 99 (fun W => BoxH W w.heap.size (.slice a n c) ∧ Box W (w.heap.size + 1) K N f ka kn kc) (by kernel_rfl) ?_ (fun hHeld => ?_)
  · exact ⟨HA.out.box, HK.out.box⟩
  generalize w17.drew = v4x at *
  refine anyK_take2 (i := 0) (v := ?v7) rfl (by kernel_rfl) (by kernel_rfl) (by kernel_rfl) (by rfl) (fun _ _ _ h => h) (by rfl) hHeld ?hy7 (some 75) (by rfl) ?rest7
  case hy7 => (intro W hSw; obtain ⟨⟨r0⟩, ⟨r1, r2, r3, r4⟩⟩ := hSw; go_simp; (try with_reducible rfl))
  try simp only [Act.put]
  try simp only [List.setIfInBounds_toArray]
  try simp only [List.set_cons_succ, List.set_cons_zero]
  refine anyK_take2 (i := 2) (v := ?v8) rfl (by kernel_rfl) (by kernel_rfl) (by kernel_rfl) (by rfl) (fun _ _ _ h => h) (by rfl) hHeld ?hy8 (some 77) (by rfl) ?rest8
  case hy8 => (intro W hSw; obtain ⟨⟨r0⟩, ⟨r1, r2, r3, r4⟩⟩ := hSw; go_simp; (try with_reducible rfl))
  try simp only [Act.put]
  try simp only [List.setIfInBounds_toArray]
  try simp only [List.set_cons_succ, List.set_cons_zero]
  refine anyK_step (i := 1) (by kernel_rfl) rfl (fun KP hK => ?_)
  go_simp
  refine (toHeap c HA.out.reads hl (by omega) (by omega)).mono ?_
  rintro e w19 ⟨gz, rfl, o, b⟩
  replace HA := hid (HA.out.below b (Nat.le_refl _))
  replace HK := hid (HK.out.below b (Nat.le_refl _))
  replace HQ := hid (HQ.out.below b (by have := S0.out; have := S1.out; have := S2.out; have := S3.out; have := S4.out; have := S5.out; have := S6.out; have := S7.out; have := S8.out; have := S9.out; have := S10.out; have := S11.out; have := S12.out; have := S13.out; have := S14.out; have := S15.out; have := S16.out; have := S17.out; have := S18.out; have := S19.out; have := S20.out; have := S21.out; have := S22.out; have := S23.out; omega))
  replace HG := hid (HG.out.below b (by have := S0.out; have := S1.out; have := S2.out; have := S3.out; have := S4.out; have := S5.out; have := S6.out; have := S7.out; have := S8.out; have := S9.out; have := S10.out; have := S11.out; have := S12.out; have := S13.out; have := S14.out; have := S15.out; have := S16.out; have := S17.out; have := S18.out; have := S19.out; have := S20.out; have := S21.out; have := S22.out; have := S23.out; omega))
  replace HC := hid (HC.out.trans (b.mono HC.out.size))
  have S24 := hid (b.size)
  clear b
  have PZ := hid o
  clear o
  go_wp2_with fail
  refine hK.out _ _ ?_ (fun hH2 => ?_)
  · exact ⟨HA.out.box, HK.out.box⟩
  clear hK KP hHeld
  have hHeld := hH2
  clear hH2
  try simp only [Act.put]
  try simp only [List.setIfInBounds_toArray]
  try simp only [List.set_cons_succ, List.set_cons_zero]
  refine anyK_step (i := 3) (by kernel_rfl) rfl (fun KP hK => ?_)
  go_simp
  refine (toItem K N f kc HK.out.reads (by omega)).mono ?_
  rintro e w20 ⟨gk, rfl, o, b⟩
  replace HA := hid (HA.out.below b (Nat.le_refl _))
  replace HK := hid (HK.out.below b (Nat.le_refl _))
  replace HQ := hid (HQ.out.below b (by have := S0.out; have := S1.out; have := S2.out; have := S3.out; have := S4.out; have := S5.out; have := S6.out; have := S7.out; have := S8.out; have := S9.out; have := S10.out; have := S11.out; have := S12.out; have := S13.out; have := S14.out; have := S15.out; have := S16.out; have := S17.out; have := S18.out; have := S19.out; have := S20.out; have := S21.out; have := S22.out; have := S23.out; have := S24.out; omega))
  replace HG := hid (HG.out.below b (by have := S0.out; have := S1.out; have := S2.out; have := S3.out; have := S4.out; have := S5.out; have := S6.out; have := S7.out; have := S8.out; have := S9.out; have := S10.out; have := S11.out; have := S12.out; have := S13.out; have := S14.out; have := S15.out; have := S16.out; have := S17.out; have := S18.out; have := S19.out; have := S20.out; have := S21.out; have := S22.out; have := S23.out; have := S24.out; omega))
  replace PZ := hid (PZ.out.below b (by have := S0.out; have := S1.out; have := S2.out; have := S3.out; have := S4.out; have := S5.out; have := S6.out; have := S7.out; have := S8.out; have := S9.out; have := S10.out; have := S11.out; have := S12.out; have := S13.out; have := S14.out; have := S15.out; have := S16.out; have := S17.out; have := S18.out; have := S19.out; have := S20.out; have := S21.out; have := S22.out; have := S23.out; have := S24.out; omega))
  replace HC := hid (HC.out.trans (b.mono HC.out.size))
  have S25 := hid (b.size)
  clear b
  have PW := hid (show Reads w20 (some ⟨gk, 0, none⟩) kn zs by obtain ⟨_, _, e, r, _⟩ := Reads.own o Zbd.out; obtain ⟨rfl, _, _⟩ := Value.slice.inj e; exact r)
  clear o
  go_wp2_with fail
  refine hK.out _ _ ?_ (fun hH2 => ?_)
  · exact ⟨HA.out.box, HK.out.box⟩
  clear hK KP hHeld
  have hHeld := hH2
  clear hH2
  try simp only [Act.put]
  try simp only [List.setIfInBounds_toArray]
  try simp only [List.set_cons_succ, List.set_cons_zero]
  refine anyK_step (i := 4) (by kernel_rfl) rfl (fun KP hK => ?_)
  go_simp
  refine (HII.out _ _ n _ _ PZ.out.rd hl K N f _ kn kn _ PW.out hf (by omega)).mono ?_
  rintro e w21 ⟨v, rfl, o, b⟩
  replace HA := hid (HA.out.below b (Nat.le_refl _))
  replace HK := hid (HK.out.below b (Nat.le_refl _))
  replace HQ := hid (HQ.out.below b (by have := S0.out; have := S1.out; have := S2.out; have := S3.out; have := S4.out; have := S5.out; have := S6.out; have := S7.out; have := S8.out; have := S9.out; have := S10.out; have := S11.out; have := S12.out; have := S13.out; have := S14.out; have := S15.out; have := S16.out; have := S17.out; have := S18.out; have := S19.out; have := S20.out; have := S21.out; have := S22.out; have := S23.out; have := S24.out; have := S25.out; omega))
  replace HG := hid (HG.out.below b (by have := S0.out; have := S1.out; have := S2.out; have := S3.out; have := S4.out; have := S5.out; have := S6.out; have := S7.out; have := S8.out; have := S9.out; have := S10.out; have := S11.out; have := S12.out; have := S13.out; have := S14.out; have := S15.out; have := S16.out; have := S17.out; have := S18.out; have := S19.out; have := S20.out; have := S21.out; have := S22.out; have := S23.out; have := S24.out; have := S25.out; omega))
  replace PZ := hid (PZ.out.below b (by have := S0.out; have := S1.out; have := S2.out; have := S3.out; have := S4.out; have := S5.out; have := S6.out; have := S7.out; have := S8.out; have := S9.out; have := S10.out; have := S11.out; have := S12.out; have := S13.out; have := S14.out; have := S15.out; have := S16.out; have := S17.out; have := S18.out; have := S19.out; have := S20.out; have := S21.out; have := S22.out; have := S23.out; have := S24.out; have := S25.out; omega))
  replace PW := hid (PW.out.below b (Nat.le_refl _))
  replace HC := hid (HC.out.trans (b.mono HC.out.size))
  have S26 := hid (b.size)
  clear b
  rw [HRS.out] at o
  obtain ⟨aHH, cHH, e1⟩ := o.slice
  rw [HN.out] at e1
  subst e1
  have HH := hid o
  clear o
  go_wp2_with fail
  refine hK.out _ _ ?_ (fun hH2 => ?_)
  · exact ⟨HA.out.box, HK.out.box⟩
  clear hK KP hHeld
  have hHeld := hH2
  clear hH2
  try simp only [Act.put]
  try simp only [List.setIfInBounds_toArray]
  try simp only [List.set_cons_succ, List.set_cons_zero]
  refine anyK_step (i := 5) (by kernel_rfl) rfl (fun KP hK => ?_)
  go_simp
  refine hK.out _ _ ?_ (fun hH2 => ?_)
  · exact ⟨HA.out.box, HK.out.box⟩
  clear hK KP hHeld
  have hHeld := hH2
  clear hH2
  try simp only [Act.put]
  try simp only [List.setIfInBounds_toArray]
  try simp only [List.set_cons_succ, List.set_cons_zero]
  refine anyK_done (by kernel_rfl) ?_ _
  clear hHeld
  go_wp2_with fail
  refine (eqRowS cHH cQ HH.out.rd HQ.out.rd HN.out (by omega) HTx.out).mono ?_
  rintro e w22 ⟨rfl, b⟩
  replace HA := hid (HA.out.below b (Nat.le_refl _))
  replace HK := hid (HK.out.below b (Nat.le_refl _))
  replace HQ := hid (HQ.out.below b (by have := S0.out; have := S1.out; have := S2.out; have := S3.out; have := S4.out; have := S5.out; have := S6.out; have := S7.out; have := S8.out; have := S9.out; have := S10.out; have := S11.out; have := S12.out; have := S13.out; have := S14.out; have := S15.out; have := S16.out; have := S17.out; have := S18.out; have := S19.out; have := S20.out; have := S21.out; have := S22.out; have := S23.out; have := S24.out; have := S25.out; have := S26.out; omega))
  replace HG := hid (HG.out.below b (by have := S0.out; have := S1.out; have := S2.out; have := S3.out; have := S4.out; have := S5.out; have := S6.out; have := S7.out; have := S8.out; have := S9.out; have := S10.out; have := S11.out; have := S12.out; have := S13.out; have := S14.out; have := S15.out; have := S16.out; have := S17.out; have := S18.out; have := S19.out; have := S20.out; have := S21.out; have := S22.out; have := S23.out; have := S24.out; have := S25.out; have := S26.out; omega))
  replace PZ := hid (PZ.out.below b (by have := S0.out; have := S1.out; have := S2.out; have := S3.out; have := S4.out; have := S5.out; have := S6.out; have := S7.out; have := S8.out; have := S9.out; have := S10.out; have := S11.out; have := S12.out; have := S13.out; have := S14.out; have := S15.out; have := S16.out; have := S17.out; have := S18.out; have := S19.out; have := S20.out; have := S21.out; have := S22.out; have := S23.out; have := S24.out; have := S25.out; have := S26.out; omega))
  replace PW := hid (PW.out.below b (Nat.le_refl _))
  replace HH := hid (HH.out.below b (by have := S0.out; have := S1.out; have := S2.out; have := S3.out; have := S4.out; have := S5.out; have := S6.out; have := S7.out; have := S8.out; have := S9.out; have := S10.out; have := S11.out; have := S12.out; have := S13.out; have := S14.out; have := S15.out; have := S16.out; have := S17.out; have := S18.out; have := S19.out; have := S20.out; have := S21.out; have := S22.out; have := S23.out; have := S24.out; have := S25.out; have := S26.out; omega))
  replace HC := hid (HC.out.trans (b.mono HC.out.size))
  have S27 := hid (b.size)
  clear b
  go_wp2_with fail
  refine (heldRowS cHG 1 HG.out.rd HN.out (by omega) hsm2 (by omega) (by omega)).mono ?_
  rintro e w23 ⟨rfl, e1⟩
  subst w23
  rw [HM.out]
  go_wp2_with fail
  go_ret
  exact ⟨rfl, HB0.out.trans (HC.out.mono HB0.out.size)⟩
end Go.Proofs.YtebhipicfgnajaaGreat
