/- FnExactHeapMark's walk, over a contract of the program's function. Conditions: none but what the arguments' types say. -/
import Derived.Test.YtebhipicfgnajaaGreatIv10
import Derived.Test.YtebhipicfgnajaaGreatIo10
import Derived.Test.YtebhipicfgnajaaGreatHv10
import Derived.Test.YtebhipicfgnajaaGreatMga
import Derived.Test.YtebhipicfgnajaaGreatHe10
import Derived.Test.YtebhipicfgnajaaGreatHq10
import Derived.Deep.RegionHeld3
namespace Go.Proofs.YtebhipicfgnajaaGreat
open Go.RowKit
set_option maxRecDepth 100000

set_option maxHeartbeats 25600000 in
theorem exactHeapMark (hI : ∀ (ad : Option Addr) (m cap : Nat) (qs : List Pg) (W : World), ReadsG W ad qs → qs.length = m → ∀ x y xm z : Int, Calls Tryz.prog 32 #[.agg #[.slice ad m cap], .int .i64 x, .int .i64 y, .int .i64 xm, .int .i64 z] W fun e w' => AnsH (markHp qs x y xm z) (markOk qs x y xm z) W e w') {a : Option Addr} {n : Nat} (c : Nat) {ps : List Pg}  {w : World} (h : ReadsG w a ps) (hl : ps.length = n) (hn0 : n ≤ maxLen)  (x : Int) (y : Int) (xm : Int) (z : Int) :
    Calls Tryz.prog 7 #[.agg #[.slice a n c], .int .i64 x, .int .i64 y, .int .i64 xm, .int .i64 z] w fun e w' => e = .returned (.bool true) ∧ Below w.heap.size w w' := by
  unfold maxLen at hn0
  have HA0 := hid (ArgH.new n c h 64 w.heap.size rfl)
  have HA := hid (ArgH.new n c h 64 w.heap.size rfl)
  have HB0 := hid (Below.alloc1 w (.cells #[.slice a n c] 64))
  have HII := hid hI
  clear h hI
  have y0 := HA.out.box.c0
  go_enter Tryz.func7, Tryz.ntmps7
  go_wp2_with fail
  clear y0
  have S0 := hid (alloc_size w (.cells #[.slice a n c] 64))
  generalize w.alloc (.cells #[.slice a n c] 64) = W0 at *
  have HC := hid (Below.refl W0.heap.size W0)
  refine (szHeap c HA.out.reads hl (by omega) 1048576 (by omega) (by omega)).mono ?_
  rintro e w1 ⟨rfl, b⟩
  replace HA := hid (HA.out.below b (Nat.le_refl _))
  replace HC := hid (HC.out.trans (b.mono HC.out.size))
  have S1 := hid (b.size)
  clear b
  by_cases hbig : (1048576 : Int) < (n + sumG szP ps : Nat)
  · rw [show lft 1048576 (n + sumG szP ps) = -1 by unfold lft; rw [if_pos hbig]]
    go_wp2_with fail
    go_ret
    exact ⟨rfl, HB0.out.trans (HC.out.mono HB0.out.size)⟩
  obtain ⟨LF, hLF⟩ : ∃ LF : Int, (1048576 : Int) - (n + sumG szP ps : Nat) = LF := ⟨_, rfl⟩
  rw [show lft 1048576 (n + sumG szP ps) = LF by unfold lft; rw [if_neg hbig, hLF]]
  have hq0 : ¬ LF < 0 := by omega
  have hLF1 : LF ≤ 1048576 := by omega
  have hn : n ≤ 1048576 := by omega
  have hsz : sumG szP ps ≤ 1048576 := by omega
  have hnm := nm_le ps
  rw [hl] at hnm
  clear hbig hLF
  have y0 := (HA.out.box).c0
  go_wp2_with fail
  clear y0
  clear hq0 hLF1
  refine (toHeap c HA.out.reads hl (by omega) (by omega)).mono ?_
  rintro e w2 ⟨gp, rfl, o, b⟩
  replace HA := hid (HA.out.below b (Nat.le_refl _))
  replace HC := hid (HC.out.trans (b.mono HC.out.size))
  have S2 := hid (b.size)
  clear b
  have PS := hid o
  clear o
  go_wp2_with fail
  refine (spec_HeapMark n PS.out.rd hl x y xm z).mono ?_
  rintro e w3 ⟨⟨vQ, cQ, rfl, o, b⟩⟩
  replace HA := hid (HA.out.below b (Nat.le_refl _))
  replace PS := hid (PS.out.below b (by have := S0.out; have := S1.out; have := S2.out; omega))
  replace HC := hid (HC.out.trans (b.mono HC.out.size))
  have S3 := hid (b.size)
  clear b
  clear PS
  obtain ⟨QS, hQS⟩ : ∃ QS, markHp ps x y xm z = QS := ⟨_, rfl⟩
  have hsm := markH_small ps x y xm z
  rw [hQS] at o hsm ⊢
  have hsz2 := sz_small QS hsm.2
  have hln := hsm.1
  obtain ⟨N, hNN⟩ : ∃ N, QS.length = N := ⟨_, rfl⟩
  rw [hNN] at o hsz2 hln ⊢
  obtain ⟨OKb, hOKb⟩ : ∃ OKb, markOk ps x y xm z = OKb := ⟨_, rfl⟩
  rw [hOKb]
  have HQS := hid hQS
  have HNN := hid hNN
  have HOKb := hid hOKb
  have hob : (OKb != OKb) = false := by cases OKb <;> rfl
  have HQ := hid o
  have hszb : sumG szP QS ≤ 2097152 := by omega
  have hnm2 := nm_le QS
  rw [hNN] at hnm2
  obtain ⟨M, hMM⟩ : ∃ M : Int, 1 + (sumG nmP QS : Int) = M := ⟨_, rfl⟩
  have HM := hid hMM
  have hMn : ¬ M < 0 := by omega
  have hMq : (M != M) = false := by simp
  obtain ⟨KM, hKM⟩ : ∃ KM : Int, 1 + (sumG nmP ps : Int) = KM := ⟨_, rfl⟩
  have HKM := hid hKM
  have hKM0 : 0 ≤ KM := by omega
  have hKM1 : KM ≤ 10000000 := by omega
  have hKMn : ¬ KM < 0 := by omega
  clear o hQS hNN hOKb hMM hKM hsm
  have BQ := hid (BoxH.mk (box1 w3 (.slice vQ N cQ) 26))
  have b := Below.alloc1 w3 (.cells #[.slice vQ N cQ] 26)
  replace HA := hid (HA.out.below b (Nat.le_refl _))
  replace HQ := hid (HQ.out.below b (by have := S0.out; have := S1.out; have := S2.out; have := S3.out; omega))
  replace HC := hid (HC.out.trans (b.mono HC.out.size))
  have S4 := hid (alloc_size w3 (.cells #[.slice vQ N cQ] 26))
  clear b
  have y0 := (HA.out.box).c0
  go_wp2_with fail
  clear y0
  generalize w3.alloc (.cells #[.slice vQ N cQ] 26) = t1 at *
  refine (toHeap c HA.out.reads hl (by omega) (by omega)).mono ?_
  rintro e w4 ⟨gx, rfl, o, b⟩
  replace HA := hid (HA.out.below b (Nat.le_refl _))
  replace HQ := hid (HQ.out.below b (by have := S0.out; have := S1.out; have := S2.out; have := S3.out; have := S4.out; omega))
  replace BQ := hid (BQ.out.below b (Nat.le_refl _))
  replace HC := hid (HC.out.trans (b.mono HC.out.size))
  have S5 := hid (b.size)
  clear b
  have HX := hid o
  clear o
  have BX := hid (BoxH.mk (box1 w4 (.slice (some ⟨gx, 0, none⟩) n n) 26))
  have b := Below.alloc1 w4 (.cells #[.slice (some ⟨gx, 0, none⟩) n n] 26)
  replace HA := hid (HA.out.below b (Nat.le_refl _))
  replace HQ := hid (HQ.out.below b (by have := S0.out; have := S1.out; have := S2.out; have := S3.out; have := S4.out; have := S5.out; omega))
  replace BQ := hid (BQ.out.below b (Nat.le_refl _))
  replace HX := hid (HX.out.below b (by have := S0.out; have := S1.out; have := S2.out; have := S3.out; have := S4.out; have := S5.out; omega))
  replace HC := hid (HC.out.trans (b.mono HC.out.size))
  have S6 := hid (alloc_size w4 (.cells #[.slice (some ⟨gx, 0, none⟩) n n] 26))
  clear b
  go_wp2_with fail
  generalize w4.alloc (.cells #[.slice (some ⟨gx, 0, none⟩) n n] 26) = t2 at *
  refine (HII.out _ _ n _ _ HX.out.rd hl x y xm z).mono ?_
  rintro e w5 ⟨⟨vHG, cHG, rfl, o, b⟩⟩
  replace HA := hid (HA.out.below b (Nat.le_refl _))
  replace HQ := hid (HQ.out.below b (by have := S0.out; have := S1.out; have := S2.out; have := S3.out; have := S4.out; have := S5.out; have := S6.out; omega))
  replace BQ := hid (BQ.out.below b (Nat.le_refl _))
  replace HX := hid (HX.out.below b (by have := S0.out; have := S1.out; have := S2.out; have := S3.out; have := S4.out; have := S5.out; have := S6.out; omega))
  replace BX := hid (BX.out.below b (Nat.le_refl _))
  replace HC := hid (HC.out.trans (b.mono HC.out.size))
  have S7 := hid (b.size)
  clear b
  rw [HQS.out, HNN.out] at o
  rw [HQS.out, HNN.out, HOKb.out]
  have HG := hid o
  clear o
  have BG := hid (BoxH.mk (box1 w5 (.slice vHG N cHG) 26))
  have b := Below.alloc1 w5 (.cells #[.slice vHG N cHG] 26)
  replace HA := hid (HA.out.below b (Nat.le_refl _))
  replace HQ := hid (HQ.out.below b (by have := S0.out; have := S1.out; have := S2.out; have := S3.out; have := S4.out; have := S5.out; have := S6.out; have := S7.out; omega))
  replace BQ := hid (BQ.out.below b (Nat.le_refl _))
  replace HX := hid (HX.out.below b (by have := S0.out; have := S1.out; have := S2.out; have := S3.out; have := S4.out; have := S5.out; have := S6.out; have := S7.out; omega))
  replace BX := hid (BX.out.below b (Nat.le_refl _))
  replace HG := hid (HG.out.below b (by have := S0.out; have := S1.out; have := S2.out; have := S3.out; have := S4.out; have := S5.out; have := S6.out; have := S7.out; omega))
  replace HC := hid (HC.out.trans (b.mono HC.out.size))
  have S8 := hid (alloc_size w5 (.cells #[.slice vHG N cHG] 26))
  clear b
  have y0 := (BQ.out).c0
  go_wp2_with fail
  clear y0
  generalize w5.alloc (.cells #[.slice vHG N cHG] 26) = t3 at *
  refine (eqHeap cHG cQ HG.out.rd HQ.out.rd HNN.out (by omega) hszb).mono ?_
  rintro e w6 ⟨rfl, b⟩
  replace HA := hid (HA.out.below b (Nat.le_refl _))
  replace HQ := hid (HQ.out.below b (by have := S0.out; have := S1.out; have := S2.out; have := S3.out; have := S4.out; have := S5.out; have := S6.out; have := S7.out; have := S8.out; omega))
  replace BQ := hid (BQ.out.below b (Nat.le_refl _))
  replace HX := hid (HX.out.below b (by have := S0.out; have := S1.out; have := S2.out; have := S3.out; have := S4.out; have := S5.out; have := S6.out; have := S7.out; have := S8.out; omega))
  replace BX := hid (BX.out.below b (Nat.le_refl _))
  replace HG := hid (HG.out.below b (by have := S0.out; have := S1.out; have := S2.out; have := S3.out; have := S4.out; have := S5.out; have := S6.out; have := S7.out; have := S8.out; omega))
  replace BG := hid (BG.out.below b (Nat.le_refl _))
  replace HC := hid (HC.out.trans (b.mono HC.out.size))
  have S9 := hid (b.size)
  clear b
  go_wp2_with fail
  replace HA := hid (HA.out.below ((Still.drew w6).below _) (Nat.le_refl _))
  replace HQ := hid (HQ.out.below ((Still.drew w6).below w6.heap.size) (by have := S0.out; have := S1.out; have := S2.out; have := S3.out; have := S4.out; have := S5.out; have := S6.out; have := S7.out; have := S8.out; have := S9.out; omega))
  replace BQ := hid (BQ.out.below ((Still.drew w6).below _) (Nat.le_refl _))
  replace HX := hid (HX.out.below ((Still.drew w6).below w6.heap.size) (by have := S0.out; have := S1.out; have := S2.out; have := S3.out; have := S4.out; have := S5.out; have := S6.out; have := S7.out; have := S8.out; have := S9.out; omega))
  replace BX := hid (BX.out.below ((Still.drew w6).below _) (Nat.le_refl _))
  replace HG := hid (HG.out.below ((Still.drew w6).below w6.heap.size) (by have := S0.out; have := S1.out; have := S2.out; have := S3.out; have := S4.out; have := S5.out; have := S6.out; have := S7.out; have := S8.out; have := S9.out; omega))
  replace BG := hid (BG.out.below ((Still.drew w6).below _) (Nat.le_refl _))
  replace HC := hid (HC.out.trans (((Still.drew w6).below _).mono HC.out.size))
  have S10 := hid ((Still.drew w6).size)
  refine region_K 99 (fun W => BoxH W w.heap.size (.slice a n c) ∧ BoxH W w4.heap.size (.slice (some ⟨gx, 0, none⟩) n n)) (by kernel_rfl) ?_ (fun hHeld => ?_)
  · exact ⟨HA.out.box, BX.out⟩
  generalize w6.drew = v1x at *
  refine anyK_take2 (i := 0) (v := ?v1) rfl (by kernel_rfl) (by kernel_rfl) (by kernel_rfl) (by rfl) (fun _ _ _ h => h) (by rfl) hHeld ?hy1 (some 57) (by rfl) ?rest1
  case hy1 => (intro W hSw; obtain ⟨⟨r0⟩, ⟨r2⟩⟩ := hSw; go_simp; (try with_reducible rfl))
  try simp only [Act.put]
  try simp only [List.setIfInBounds_toArray]
  try simp only [List.set_cons_succ, List.set_cons_zero]
  refine anyK_take2 (i := 1) (v := ?v2) rfl (by kernel_rfl) (by kernel_rfl) (by kernel_rfl) (by rfl) (fun _ _ _ h => h) (by rfl) hHeld ?hy2 (some 58) (by rfl) ?rest2
  case hy2 => (intro W hSw; obtain ⟨⟨r0⟩, ⟨r2⟩⟩ := hSw; go_simp; (try with_reducible rfl))
  try simp only [Act.put]
  try simp only [List.setIfInBounds_toArray]
  try simp only [List.set_cons_succ, List.set_cons_zero]
  refine anyK_step (i := 2) (by kernel_rfl) rfl (fun KP hK => ?_)
  go_simp
  refine (toHeap c HA.out.reads hl (by omega) (by omega)).mono ?_
  rintro e w7 ⟨gy, rfl, o, b⟩
  replace HA := hid (HA.out.below b (Nat.le_refl _))
  replace HQ := hid (HQ.out.below b (by have := S0.out; have := S1.out; have := S2.out; have := S3.out; have := S4.out; have := S5.out; have := S6.out; have := S7.out; have := S8.out; have := S9.out; have := S10.out; omega))
  replace BQ := hid (BQ.out.below b (Nat.le_refl _))
  replace HX := hid (HX.out.below b (by have := S0.out; have := S1.out; have := S2.out; have := S3.out; have := S4.out; have := S5.out; have := S6.out; have := S7.out; have := S8.out; have := S9.out; have := S10.out; omega))
  replace BX := hid (BX.out.below b (Nat.le_refl _))
  replace HG := hid (HG.out.below b (by have := S0.out; have := S1.out; have := S2.out; have := S3.out; have := S4.out; have := S5.out; have := S6.out; have := S7.out; have := S8.out; have := S9.out; have := S10.out; omega))
  replace BG := hid (BG.out.below b (Nat.le_refl _))
  replace HC := hid (HC.out.trans (b.mono HC.out.size))
  have S11 := hid (b.size)
  clear b
  have PY := hid o
  clear o
  go_wp2_with fail
  refine hK.out _ _ ?_ (fun hH2 => ?_)
  · exact ⟨HA.out.box, BX.out⟩
  clear hK KP hHeld
  have hHeld := hH2
  clear hH2
  try simp only [Act.put]
  try simp only [List.setIfInBounds_toArray]
  try simp only [List.set_cons_succ, List.set_cons_zero]
  refine anyK_step (i := 3) (by kernel_rfl) rfl (fun KP hK => ?_)
  go_simp
  refine (eqHeap n n HX.out.rd PY.out.rd hl (by omega) (by omega)).mono ?_
  rintro e w8 ⟨rfl, b⟩
  replace HA := hid (HA.out.below b (Nat.le_refl _))
  replace HQ := hid (HQ.out.below b (by have := S0.out; have := S1.out; have := S2.out; have := S3.out; have := S4.out; have := S5.out; have := S6.out; have := S7.out; have := S8.out; have := S9.out; have := S10.out; have := S11.out; omega))
  replace BQ := hid (BQ.out.below b (Nat.le_refl _))
  replace HX := hid (HX.out.below b (by have := S0.out; have := S1.out; have := S2.out; have := S3.out; have := S4.out; have := S5.out; have := S6.out; have := S7.out; have := S8.out; have := S9.out; have := S10.out; have := S11.out; omega))
  replace BX := hid (BX.out.below b (Nat.le_refl _))
  replace HG := hid (HG.out.below b (by have := S0.out; have := S1.out; have := S2.out; have := S3.out; have := S4.out; have := S5.out; have := S6.out; have := S7.out; have := S8.out; have := S9.out; have := S10.out; have := S11.out; omega))
  replace BG := hid (BG.out.below b (Nat.le_refl _))
  replace PY := hid (PY.out.below b (by have := S0.out; have := S1.out; have := S2.out; have := S3.out; have := S4.out; have := S5.out; have := S6.out; have := S7.out; have := S8.out; have := S9.out; have := S10.out; have := S11.out; omega))
  replace HC := hid (HC.out.trans (b.mono HC.out.size))
  have S12 := hid (b.size)
  clear b
  clear PY
  go_wp2_with fail
  refine hK.out _ _ ?_ (fun hH2 => ?_)
  · exact ⟨HA.out.box, BX.out⟩
  clear hK KP hHeld
  have hHeld := hH2
  clear hH2
  try simp only [Act.put]
  try simp only [List.setIfInBounds_toArray]
  try simp only [List.set_cons_succ, List.set_cons_zero]
  refine anyK_step (i := 4) (by kernel_rfl) rfl (fun KP hK => ?_)
  go_simp
  refine hK.out _ _ ?_ (fun hH2 => ?_)
  · exact ⟨HA.out.box, BX.out⟩
  clear hK KP hHeld
  have hHeld := hH2
  clear hH2
  try simp only [Act.put]
  try simp only [List.setIfInBounds_toArray]
  try simp only [List.set_cons_succ, List.set_cons_zero]
  refine anyK_done (by kernel_rfl) ?_ _
  clear hHeld
  have y0 := (BX.out).c0
  go_wp2_with fail
  clear y0
  refine (markHeap n 1 HX.out (by have := S0.out; have := S1.out; have := S2.out; have := S3.out; have := S4.out; have := S5.out; have := S6.out; have := S7.out; have := S8.out; have := S9.out; have := S10.out; have := S11.out; have := S12.out; omega) hl (by omega) (by omega) (by omega) (by omega)).mono ?_
  rintro e w9 ⟨rfl, _, G⟩
  replace HC := hid (HC.out.trans ((G.below (by have := S0.out; have := S1.out; have := S2.out; have := S3.out; have := S4.out; have := S5.out; have := S6.out; have := S7.out; have := S8.out; have := S9.out; have := S10.out; have := S11.out; have := S12.out; omega)).mono (by have := S0.out; have := S1.out; have := S2.out; have := S3.out; have := S4.out; have := S5.out; have := S6.out; have := S7.out; have := S8.out; have := S9.out; have := S10.out; have := S11.out; have := S12.out; omega)))
  replace HA := hid (HA0.out.below HC.out (Nat.le_refl _))
  replace HQ := hid (HQ.out.agree (G.agree (by have := S0.out; have := S1.out; have := S2.out; have := S3.out; have := S4.out; have := S5.out; have := S6.out; have := S7.out; have := S8.out; have := S9.out; have := S10.out; have := S11.out; have := S12.out; omega) (by have := S0.out; have := S1.out; have := S2.out; have := S3.out; have := S4.out; have := S5.out; have := S6.out; have := S7.out; have := S8.out; have := S9.out; have := S10.out; have := S11.out; have := S12.out; omega)))
  replace BQ := hid (BQ.out.within G (by have := S0.out; have := S1.out; have := S2.out; have := S3.out; have := S4.out; have := S5.out; have := S6.out; have := S7.out; have := S8.out; have := S9.out; have := S10.out; have := S11.out; have := S12.out; omega))
  replace BX := hid (BX.out.within G (by have := S0.out; have := S1.out; have := S2.out; have := S3.out; have := S4.out; have := S5.out; have := S6.out; have := S7.out; have := S8.out; have := S9.out; have := S10.out; have := S11.out; have := S12.out; omega))
  replace HG := hid (HG.out.agree (G.agree (by have := S0.out; have := S1.out; have := S2.out; have := S3.out; have := S4.out; have := S5.out; have := S6.out; have := S7.out; have := S8.out; have := S9.out; have := S10.out; have := S11.out; have := S12.out; omega) (by have := S0.out; have := S1.out; have := S2.out; have := S3.out; have := S4.out; have := S5.out; have := S6.out; have := S7.out; have := S8.out; have := S9.out; have := S10.out; have := S11.out; have := S12.out; omega)))
  replace BG := hid (BG.out.within G (by have := S0.out; have := S1.out; have := S2.out; have := S3.out; have := S4.out; have := S5.out; have := S6.out; have := S7.out; have := S8.out; have := S9.out; have := S10.out; have := S11.out; have := S12.out; omega))
  have S13 := hid (G.size)
  clear G
  clear HX BX
  rw [HKM.out]
  have y0 := (BG.out).c0
  have y1 := (BQ.out).c0
  go_wp2_with fail
  clear y0 y1
  refine (eqHeap cHG cQ HG.out.rd HQ.out.rd HNN.out (by omega) hszb).mono ?_
  rintro e w10 ⟨rfl, b⟩
  replace HA := hid (HA.out.below b (Nat.le_refl _))
  replace HQ := hid (HQ.out.below b (by have := S0.out; have := S1.out; have := S2.out; have := S3.out; have := S4.out; have := S5.out; have := S6.out; have := S7.out; have := S8.out; have := S9.out; have := S10.out; have := S11.out; have := S12.out; have := S13.out; omega))
  replace BQ := hid (BQ.out.below b (Nat.le_refl _))
  replace HG := hid (HG.out.below b (by have := S0.out; have := S1.out; have := S2.out; have := S3.out; have := S4.out; have := S5.out; have := S6.out; have := S7.out; have := S8.out; have := S9.out; have := S10.out; have := S11.out; have := S12.out; have := S13.out; omega))
  replace BG := hid (BG.out.below b (Nat.le_refl _))
  replace HC := hid (HC.out.trans (b.mono HC.out.size))
  have S14 := hid (b.size)
  clear b
  have y0 := (BG.out).c0
  go_wp2_with fail
  clear y0
  refine (markHeap cHG 1 HG.out (by have := S0.out; have := S1.out; have := S2.out; have := S3.out; have := S4.out; have := S5.out; have := S6.out; have := S7.out; have := S8.out; have := S9.out; have := S10.out; have := S11.out; have := S12.out; have := S13.out; have := S14.out; omega) HNN.out (by omega) hszb (by omega) (by omega)).mono ?_
  rintro e w11 ⟨rfl, o, G⟩
  replace HC := hid (HC.out.trans ((G.below (by have := S0.out; have := S1.out; have := S2.out; have := S3.out; have := S4.out; have := S5.out; have := S6.out; have := S7.out; have := S8.out; have := S9.out; have := S10.out; have := S11.out; have := S12.out; have := S13.out; have := S14.out; omega)).mono (by have := S0.out; have := S1.out; have := S2.out; have := S3.out; have := S4.out; have := S5.out; have := S6.out; have := S7.out; have := S8.out; have := S9.out; have := S10.out; have := S11.out; have := S12.out; have := S13.out; have := S14.out; omega)))
  replace HA := hid (HA0.out.below HC.out (Nat.le_refl _))
  replace HQ := hid (HQ.out.agree (G.agree (by have := S0.out; have := S1.out; have := S2.out; have := S3.out; have := S4.out; have := S5.out; have := S6.out; have := S7.out; have := S8.out; have := S9.out; have := S10.out; have := S11.out; have := S12.out; have := S13.out; have := S14.out; omega) (by have := S0.out; have := S1.out; have := S2.out; have := S3.out; have := S4.out; have := S5.out; have := S6.out; have := S7.out; have := S8.out; have := S9.out; have := S10.out; have := S11.out; have := S12.out; have := S13.out; have := S14.out; omega)))
  replace BQ := hid (BQ.out.within G (by have := S0.out; have := S1.out; have := S2.out; have := S3.out; have := S4.out; have := S5.out; have := S6.out; have := S7.out; have := S8.out; have := S9.out; have := S10.out; have := S11.out; have := S12.out; have := S13.out; have := S14.out; omega))
  replace BG := hid (BG.out.within G (by have := S0.out; have := S1.out; have := S2.out; have := S3.out; have := S4.out; have := S5.out; have := S6.out; have := S7.out; have := S8.out; have := S9.out; have := S10.out; have := S11.out; have := S12.out; have := S13.out; have := S14.out; omega))
  have S15 := hid (G.size)
  clear G
  rw [HM.out]
  replace HG := hid o
  clear o
  have y0 := (BG.out).c0
  go_wp2_with fail
  clear y0
  refine (heldHeap cHG 1 HG.out.rd HNN.out (by omega) hszb (by omega) (by omega)).mono ?_
  rintro e w12 ⟨rfl, b⟩
  replace HA := hid (HA.out.below b (Nat.le_refl _))
  replace HQ := hid (HQ.out.below b (by have := S0.out; have := S1.out; have := S2.out; have := S3.out; have := S4.out; have := S5.out; have := S6.out; have := S7.out; have := S8.out; have := S9.out; have := S10.out; have := S11.out; have := S12.out; have := S13.out; have := S14.out; have := S15.out; omega))
  replace BQ := hid (BQ.out.below b (Nat.le_refl _))
  replace HG := hid (HG.out.below b (by have := S0.out; have := S1.out; have := S2.out; have := S3.out; have := S4.out; have := S5.out; have := S6.out; have := S7.out; have := S8.out; have := S9.out; have := S10.out; have := S11.out; have := S12.out; have := S13.out; have := S14.out; have := S15.out; omega))
  replace BG := hid (BG.out.below b (Nat.le_refl _))
  replace HC := hid (HC.out.trans (b.mono HC.out.size))
  have S16 := hid (b.size)
  clear b
  rw [HM.out]
  have y0 := (HA.out.box).c0
  go_wp2_with fail
  clear y0
  refine (toHeap c HA.out.reads hl (by omega) (by omega)).mono ?_
  rintro e w13 ⟨gz, rfl, o, b⟩
  replace HA := hid (HA.out.below b (Nat.le_refl _))
  replace HQ := hid (HQ.out.below b (by have := S0.out; have := S1.out; have := S2.out; have := S3.out; have := S4.out; have := S5.out; have := S6.out; have := S7.out; have := S8.out; have := S9.out; have := S10.out; have := S11.out; have := S12.out; have := S13.out; have := S14.out; have := S15.out; have := S16.out; omega))
  replace BQ := hid (BQ.out.below b (Nat.le_refl _))
  replace HG := hid (HG.out.below b (by have := S0.out; have := S1.out; have := S2.out; have := S3.out; have := S4.out; have := S5.out; have := S6.out; have := S7.out; have := S8.out; have := S9.out; have := S10.out; have := S11.out; have := S12.out; have := S13.out; have := S14.out; have := S15.out; have := S16.out; omega))
  replace BG := hid (BG.out.below b (Nat.le_refl _))
  replace HC := hid (HC.out.trans (b.mono HC.out.size))
  have S17 := hid (b.size)
  clear b
  have PZ := hid o
  clear o
  go_wp2_with fail
  refine (HII.out _ _ n _ _ PZ.out.rd hl x y xm z).mono ?_
  rintro e w14 ⟨⟨vHH, cHH, rfl, o, b⟩⟩
  replace HA := hid (HA.out.below b (Nat.le_refl _))
  replace HQ := hid (HQ.out.below b (by have := S0.out; have := S1.out; have := S2.out; have := S3.out; have := S4.out; have := S5.out; have := S6.out; have := S7.out; have := S8.out; have := S9.out; have := S10.out; have := S11.out; have := S12.out; have := S13.out; have := S14.out; have := S15.out; have := S16.out; have := S17.out; omega))
  replace BQ := hid (BQ.out.below b (Nat.le_refl _))
  replace HG := hid (HG.out.below b (by have := S0.out; have := S1.out; have := S2.out; have := S3.out; have := S4.out; have := S5.out; have := S6.out; have := S7.out; have := S8.out; have := S9.out; have := S10.out; have := S11.out; have := S12.out; have := S13.out; have := S14.out; have := S15.out; have := S16.out; have := S17.out; omega))
  replace BG := hid (BG.out.below b (Nat.le_refl _))
  replace PZ := hid (PZ.out.below b (by have := S0.out; have := S1.out; have := S2.out; have := S3.out; have := S4.out; have := S5.out; have := S6.out; have := S7.out; have := S8.out; have := S9.out; have := S10.out; have := S11.out; have := S12.out; have := S13.out; have := S14.out; have := S15.out; have := S16.out; have := S17.out; omega))
  replace HC := hid (HC.out.trans (b.mono HC.out.size))
  have S18 := hid (b.size)
  clear b
  rw [HQS.out, HNN.out] at o
  rw [HQS.out, HNN.out, HOKb.out]
  have HH := hid o
  clear o
  clear PZ
  have BH := hid (BoxH.mk (box1 w14 (.slice vHH N cHH) 26))
  have b := Below.alloc1 w14 (.cells #[.slice vHH N cHH] 26)
  replace HA := hid (HA.out.below b (Nat.le_refl _))
  replace HQ := hid (HQ.out.below b (by have := S0.out; have := S1.out; have := S2.out; have := S3.out; have := S4.out; have := S5.out; have := S6.out; have := S7.out; have := S8.out; have := S9.out; have := S10.out; have := S11.out; have := S12.out; have := S13.out; have := S14.out; have := S15.out; have := S16.out; have := S17.out; have := S18.out; omega))
  replace BQ := hid (BQ.out.below b (Nat.le_refl _))
  replace HG := hid (HG.out.below b (by have := S0.out; have := S1.out; have := S2.out; have := S3.out; have := S4.out; have := S5.out; have := S6.out; have := S7.out; have := S8.out; have := S9.out; have := S10.out; have := S11.out; have := S12.out; have := S13.out; have := S14.out; have := S15.out; have := S16.out; have := S17.out; have := S18.out; omega))
  replace BG := hid (BG.out.below b (Nat.le_refl _))
  replace HH := hid (HH.out.below b (by have := S0.out; have := S1.out; have := S2.out; have := S3.out; have := S4.out; have := S5.out; have := S6.out; have := S7.out; have := S8.out; have := S9.out; have := S10.out; have := S11.out; have := S12.out; have := S13.out; have := S14.out; have := S15.out; have := S16.out; have := S17.out; have := S18.out; omega))
  replace HC := hid (HC.out.trans (b.mono HC.out.size))
  have S19 := hid (alloc_size w14 (.cells #[.slice vHH N cHH] 26))
  clear b
  have y0 := (BQ.out).c0
  go_wp2_with fail
  clear y0
  generalize w14.alloc (.cells #[.slice vHH N cHH] 26) = t4 at *
  refine (eqHeap cHH cQ HH.out.rd HQ.out.rd HNN.out (by omega) hszb).mono ?_
  rintro e w15 ⟨rfl, b⟩
  replace HA := hid (HA.out.below b (Nat.le_refl _))
  replace HQ := hid (HQ.out.below b (by have := S0.out; have := S1.out; have := S2.out; have := S3.out; have := S4.out; have := S5.out; have := S6.out; have := S7.out; have := S8.out; have := S9.out; have := S10.out; have := S11.out; have := S12.out; have := S13.out; have := S14.out; have := S15.out; have := S16.out; have := S17.out; have := S18.out; have := S19.out; omega))
  replace BQ := hid (BQ.out.below b (Nat.le_refl _))
  replace HG := hid (HG.out.below b (by have := S0.out; have := S1.out; have := S2.out; have := S3.out; have := S4.out; have := S5.out; have := S6.out; have := S7.out; have := S8.out; have := S9.out; have := S10.out; have := S11.out; have := S12.out; have := S13.out; have := S14.out; have := S15.out; have := S16.out; have := S17.out; have := S18.out; have := S19.out; omega))
  replace BG := hid (BG.out.below b (Nat.le_refl _))
  replace HH := hid (HH.out.below b (by have := S0.out; have := S1.out; have := S2.out; have := S3.out; have := S4.out; have := S5.out; have := S6.out; have := S7.out; have := S8.out; have := S9.out; have := S10.out; have := S11.out; have := S12.out; have := S13.out; have := S14.out; have := S15.out; have := S16.out; have := S17.out; have := S18.out; have := S19.out; omega))
  replace BH := hid (BH.out.below b (Nat.le_refl _))
  replace HC := hid (HC.out.trans (b.mono HC.out.size))
  have S20 := hid (b.size)
  clear b
  have y0 := (BG.out).c0
  go_wp2_with fail
  clear y0
  refine (heldHeap cHG 1 HG.out.rd HNN.out (by omega) hszb (by omega) (by omega)).mono ?_
  rintro e w16 ⟨rfl, b⟩
  replace HA := hid (HA.out.below b (Nat.le_refl _))
  replace HQ := hid (HQ.out.below b (by have := S0.out; have := S1.out; have := S2.out; have := S3.out; have := S4.out; have := S5.out; have := S6.out; have := S7.out; have := S8.out; have := S9.out; have := S10.out; have := S11.out; have := S12.out; have := S13.out; have := S14.out; have := S15.out; have := S16.out; have := S17.out; have := S18.out; have := S19.out; have := S20.out; omega))
  replace BQ := hid (BQ.out.below b (Nat.le_refl _))
  replace HG := hid (HG.out.below b (by have := S0.out; have := S1.out; have := S2.out; have := S3.out; have := S4.out; have := S5.out; have := S6.out; have := S7.out; have := S8.out; have := S9.out; have := S10.out; have := S11.out; have := S12.out; have := S13.out; have := S14.out; have := S15.out; have := S16.out; have := S17.out; have := S18.out; have := S19.out; have := S20.out; omega))
  replace BG := hid (BG.out.below b (Nat.le_refl _))
  replace HH := hid (HH.out.below b (by have := S0.out; have := S1.out; have := S2.out; have := S3.out; have := S4.out; have := S5.out; have := S6.out; have := S7.out; have := S8.out; have := S9.out; have := S10.out; have := S11.out; have := S12.out; have := S13.out; have := S14.out; have := S15.out; have := S16.out; have := S17.out; have := S18.out; have := S19.out; have := S20.out; omega))
  replace BH := hid (BH.out.below b (Nat.le_refl _))
  replace HC := hid (HC.out.trans (b.mono HC.out.size))
  have S21 := hid (b.size)
  clear b
  rw [HM.out]
  go_wp2_with fail
  go_ret
  exact ⟨rfl, HB0.out.trans (HC.out.mono HB0.out.size)⟩
end Go.Proofs.YtebhipicfgnajaaGreat
