/- FnExactHeapDead's walk, over a contract of the program's function. Conditions: none but what the arguments' types say. -/
import Derived.Test.YtebhipicfgnajaaGreatHv10
import Derived.Test.YtebhipicfgnajaaGreatHu10
import Derived.Test.YtebhipicfgnajaaGreatMga
import Derived.Test.YtebhipicfgnajaaGreatHn10
import Derived.Test.YtebhipicfgnajaaGreatHo10
import Derived.Deep.RegionHeld3
namespace Go.Proofs.YtebhipicfgnajaaGreat
open Go.RowKit
set_option maxRecDepth 100000

theorem deadH_small (ps : List Pg) (l : List Int) (x : Int) : smallR (deadH ps l x) := fun r hr => rowsH_small ps r (List.mem_filter.1 hr).1

set_option maxHeartbeats 12800000 in
theorem exactHeapDead (hI : ∀ (ad : Option Addr) (m cap : Nat) (qs : List Pg) (W : World), ReadsG W ad qs → qs.length = m → ∀ (al : Option Addr) (nl cl : Nat) (l : List Int), ReadsI W al nl l → nl ≤ 1048576 → ∀ x : Int, Calls Tryz.prog 15 #[.agg #[.slice ad m cap], .slice al nl cl, .int .i64 x] W fun e w' => ∃ v, e = .returned v ∧ OwnRw w' W.heap.size w'.heap.size v (deadH qs l x) ∧ Below W.heap.size W w') {a : Option Addr} {n : Nat} (c : Nat) {ps : List Pg} {al : Option Addr} {nl : Nat} (cl : Nat) {l : List Int} {w : World} (h : ReadsG w a ps) (hl : ps.length = n) (hn0 : n ≤ maxLen) (hL : ReadsI w al nl l) (hnl0 : nl ≤ maxLen) (x : Int) :
    Calls Tryz.prog 9 #[.agg #[.slice a n c], .slice al nl cl, .int .i64 x] w fun e w' => e = .returned (.bool true) ∧ Below w.heap.size w w' := by
  unfold maxLen at hn0 hnl0
  have HA0 := hid (ArgH.new n c h 64 w.heap.size rfl)
  have HA := hid (ArgH.new n c h 64 w.heap.size rfl)
  have HB0 := hid (Below.alloc1 w (.cells #[.slice a n c] 64))
  have HL0 := hid (hL.below HB0.out (Nat.le_refl _))
  have HL := hid (hL.below HB0.out (Nat.le_refl _))
  have HII := hid hI
  clear h hI hL
  by_cases hbigD : 1048576 < nl
  · have hbigD' : (1048576 : Int) < (nl : Int) := by omega
    go_enter Tryz.func9, Tryz.ntmps9
    go_wp2_with fail
    go_ret
    exact ⟨rfl, HB0.out⟩
  have hnD : nl ≤ 1048576 := by omega
  have hnD' : ¬ (1048576 : Int) < (nl : Int) := by omega
  clear hbigD
  have y0 := HA.out.box.c0
  go_enter Tryz.func9, Tryz.ntmps9
  go_wp2_with fail
  clear y0
  have S0 := hid (alloc_size w (.cells #[.slice a n c] 64))
  generalize w.alloc (.cells #[.slice a n c] 64) = W0 at *
  have HC := hid (Below.refl W0.heap.size W0)
  refine (szHeap c HA.out.reads hl (by omega) 1048576 (by omega) (by omega)).mono ?_
  rintro e w1 ⟨rfl, b⟩
  replace HA := hid (HA.out.below b (Nat.le_refl _))
  replace HL := hid (HL.out.below b (Nat.le_refl _))
  replace HC := hid (HC.out.trans (b.mono HC.out.size))
  have S1 := hid (b.size)
  clear b
  by_cases hbig : (1048576 : Int) < (n + sumG szP ps : Nat)
  · rw [show lft 1048576 (n + sumG szP ps) = -1 by unfold lft; rw [if_pos hbig]]
    go_wp2_with fail
    go_ret
    exact ⟨rfl, HB0.out.trans (HC.out.mono HB0.out.size)⟩
  obtain ⟨LF, hLF⟩ : ∃ LF : Int, (1048576 : Int) - (n + sumG szP ps : Nat) = LF := ⟨_, rfl⟩
  rw [show lft 1048576 (n + sumG szP ps) = LF by unfold lft; rw [if_neg hbig, hLF]]
  have hq0 : ¬ LF < 0 := by omega
  have hn : n ≤ 1048576 := by omega
  have hsz : sumG szP ps ≤ 1048576 := by omega
  have hnm := nm_le ps
  rw [hl] at hnm
  clear hbig hLF
  have y0 := (HA.out.box).c0
  go_wp2_with fail
  clear y0
  clear hq0
  refine (toHeap c HA.out.reads hl (by omega) (by omega)).mono ?_
  rintro e w2 ⟨gp, rfl, o, b⟩
  replace HA := hid (HA.out.below b (Nat.le_refl _))
  replace HL := hid (HL.out.below b (Nat.le_refl _))
  replace HC := hid (HC.out.trans (b.mono HC.out.size))
  have S2 := hid (b.size)
  clear b
  have PS := hid o
  clear o
  go_wp2_with fail
  refine (toIntS_any cl HL.out (by omega)).mono ?_
  rintro e w3 ⟨rfl, o, b⟩
  replace HA := hid (HA.out.below b (Nat.le_refl _))
  replace HL := hid (HL.out.below b (Nat.le_refl _))
  replace PS := hid (PS.out.below b (by have := S0.out; have := S1.out; have := S2.out; omega))
  replace HC := hid (HC.out.trans (b.mono HC.out.size))
  have S3 := hid (b.size)
  clear b
  have PL := hid (OwnL.mk o HL0.out.bd)
  clear o
  have S4 := hid (PL.out.lt.2)
  go_wp2_with fail
  refine (spec_HeapDead n nl PS.out.rd hl PL.out.rd x).mono ?_
  rintro e w4 ⟨v, rfl, o, hr6, b⟩
  replace HA := hid (HA.out.below b (Nat.le_refl _))
  replace HL := hid (HL.out.below b (Nat.le_refl _))
  replace PS := hid (PS.out.below b (by have := S0.out; have := S1.out; have := S2.out; have := S3.out; have := S4.out; omega))
  replace PL := hid (PL.out.below b (Nat.le_refl _))
  replace HC := hid (HC.out.trans (b.mono HC.out.size))
  have S5 := hid (b.size)
  clear b
  clear PS PL
  have HSm := hid (deadH_small ps l x)
  have hsum := sumR_small _ HSm.out
  obtain ⟨RS, hRS⟩ : ∃ RS, deadH ps l x = RS := ⟨_, rfl⟩
  rw [hRS] at o hr6 hsum HSm
  have HRS := hid hRS
  obtain ⟨N, hN⟩ : ∃ N, RS.length = N := ⟨_, rfl⟩
  rw [hN] at hr6 hsum
  have HN := hid hN
  have HTx := hid (fun i (hi : i < N) => smallR_at HSm.out (i := i) (by rw [HN.out]; exact hi))
  obtain ⟨aQ, cQ, e1⟩ := o.slice
  rw [hN] at e1
  subst e1
  have HQ := hid o
  have hsm2 : sumR RS ≤ 2097152 := by omega
  obtain ⟨M, hM⟩ : ∃ M : Int, 1 + (sumR RS : Int) = M := ⟨_, rfl⟩
  have HM := hid hM
  have hMn : ¬ M < 0 := by omega
  have hMM : (M != M) = false := by simp
  obtain ⟨KM, hKM⟩ : ∃ KM : Int, 1 + (sumG nmP ps : Int) = KM := ⟨_, rfl⟩
  have HKM := hid hKM
  have hKM0 : 0 ≤ KM := by omega
  have hKM1 : KM ≤ 10000000 := by omega
  have hKMn : ¬ KM + (nl : Int) < 0 := by omega
  clear o hRS hN hM hKM hsum
  have y0 := (HA.out.box).c0
  go_wp2_with fail
  clear y0
  refine (toHeap c HA.out.reads hl (by omega) (by omega)).mono ?_
  rintro e w5 ⟨gx, rfl, o, b⟩
  replace HA := hid (HA.out.below b (Nat.le_refl _))
  replace HL := hid (HL.out.below b (Nat.le_refl _))
  replace HQ := hid (HQ.out.below b (by have := S0.out; have := S1.out; have := S2.out; have := S3.out; have := S4.out; have := S5.out; omega))
  replace HC := hid (HC.out.trans (b.mono HC.out.size))
  have S6 := hid (b.size)
  clear b
  have HX := hid o
  clear o
  go_wp2_with fail
  have BX := hid (BoxH.mk (box1 w5 (.slice (some ⟨gx, 0, none⟩) n n) 26))
  have b := Below.alloc1 w5 (.cells #[.slice (some ⟨gx, 0, none⟩) n n] 26)
  replace HA := hid (HA.out.below b (Nat.le_refl _))
  replace HL := hid (HL.out.below b (Nat.le_refl _))
  replace HQ := hid (HQ.out.below b (by have := S0.out; have := S1.out; have := S2.out; have := S3.out; have := S4.out; have := S5.out; have := S6.out; omega))
  replace HX := hid (HX.out.below b (by have := S0.out; have := S1.out; have := S2.out; have := S3.out; have := S4.out; have := S5.out; have := S6.out; omega))
  replace HC := hid (HC.out.trans (b.mono HC.out.size))
  have S7 := hid (alloc_size w5 (.cells #[.slice (some ⟨gx, 0, none⟩) n n] 26))
  clear b
  generalize w5.alloc (.cells #[.slice (some ⟨gx, 0, none⟩) n n] 26) = t1 at *
  refine (toIntS_any cl HL.out (by omega)).mono ?_
  rintro e w6 ⟨rfl, o, b⟩
  replace HA := hid (HA.out.below b (Nat.le_refl _))
  replace HL := hid (HL.out.below b (Nat.le_refl _))
  replace HQ := hid (HQ.out.below b (by have := S0.out; have := S1.out; have := S2.out; have := S3.out; have := S4.out; have := S5.out; have := S6.out; have := S7.out; omega))
  replace HX := hid (HX.out.below b (by have := S0.out; have := S1.out; have := S2.out; have := S3.out; have := S4.out; have := S5.out; have := S6.out; have := S7.out; omega))
  replace BX := hid (BX.out.below b (Nat.le_refl _))
  replace HC := hid (HC.out.trans (b.mono HC.out.size))
  have S8 := hid (b.size)
  clear b
  have XL := hid (OwnL.mk o HL0.out.bd)
  clear o
  have S9 := hid (XL.out.lt.2)
  have y0 := (BX.out).c0
  go_wp2_with fail
  clear y0
  refine (HII.out _ _ n _ _ HX.out.rd hl _ _ nl _ XL.out.rd hnD x).mono ?_
  rintro e w7 ⟨v, rfl, o, b⟩
  replace HA := hid (HA.out.below b (Nat.le_refl _))
  replace HL := hid (HL.out.below b (Nat.le_refl _))
  replace HQ := hid (HQ.out.below b (by have := S0.out; have := S1.out; have := S2.out; have := S3.out; have := S4.out; have := S5.out; have := S6.out; have := S7.out; have := S8.out; have := S9.out; omega))
  replace HX := hid (HX.out.below b (by have := S0.out; have := S1.out; have := S2.out; have := S3.out; have := S4.out; have := S5.out; have := S6.out; have := S7.out; have := S8.out; have := S9.out; omega))
  replace BX := hid (BX.out.below b (Nat.le_refl _))
  replace XL := hid (XL.out.below b (Nat.le_refl _))
  replace HC := hid (HC.out.trans (b.mono HC.out.size))
  have S10 := hid (b.size)
  clear b
  rw [HRS.out] at o
  obtain ⟨aHG, cHG, e1⟩ := o.slice
  rw [HN.out] at e1
  subst e1
  have HG := hid o
  clear o
  go_wp2_with fail
  refine (eqRowS cHG cQ HG.out.rd HQ.out.rd HN.out (by omega) HTx.out).mono ?_
  rintro e w8 ⟨rfl, b⟩
  replace HA := hid (HA.out.below b (Nat.le_refl _))
  replace HL := hid (HL.out.below b (Nat.le_refl _))
  replace HQ := hid (HQ.out.below b (by have := S0.out; have := S1.out; have := S2.out; have := S3.out; have := S4.out; have := S5.out; have := S6.out; have := S7.out; have := S8.out; have := S9.out; have := S10.out; omega))
  replace HX := hid (HX.out.below b (by have := S0.out; have := S1.out; have := S2.out; have := S3.out; have := S4.out; have := S5.out; have := S6.out; have := S7.out; have := S8.out; have := S9.out; have := S10.out; omega))
  replace BX := hid (BX.out.below b (Nat.le_refl _))
  replace XL := hid (XL.out.below b (Nat.le_refl _))
  replace HG := hid (HG.out.below b (by have := S0.out; have := S1.out; have := S2.out; have := S3.out; have := S4.out; have := S5.out; have := S6.out; have := S7.out; have := S8.out; have := S9.out; have := S10.out; omega))
  replace HC := hid (HC.out.trans (b.mono HC.out.size))
  have S11 := hid (b.size)
  clear b
  go_wp2_with fail
  replace HA := hid (HA.out.below ((Still.drew w8).below _) (Nat.le_refl _))
  replace HL := hid (HL.out.below ((Still.drew w8).below _) (Nat.le_refl _))
  replace HQ := hid (HQ.out.below ((Still.drew w8).below w8.heap.size) (by have := S0.out; have := S1.out; have := S2.out; have := S3.out; have := S4.out; have := S5.out; have := S6.out; have := S7.out; have := S8.out; have := S9.out; have := S10.out; have := S11.out; omega))
  replace HX := hid (HX.out.below ((Still.drew w8).below w8.heap.size) (by have := S0.out; have := S1.out; have := S2.out; have := S3.out; have := S4.out; have := S5.out; have := S6.out; have := S7.out; have := S8.out; have := S9.out; have := S10.out; have := S11.out; omega))
  replace BX := hid (BX.out.below ((Still.drew w8).below _) (Nat.le_refl _))
  replace XL := hid (XL.out.below ((Still.drew w8).below _) (Nat.le_refl _))
  replace HG := hid (HG.out.below ((Still.drew w8).below w8.heap.size) (by have := S0.out; have := S1.out; have := S2.out; have := S3.out; have := S4.out; have := S5.out; have := S6.out; have := S7.out; have := S8.out; have := S9.out; have := S10.out; have := S11.out; omega))
  replace HC := hid (HC.out.trans (((Still.drew w8).below _).mono HC.out.size))
  have S12 := hid ((Still.drew w8).size)
  refine region_K 99 (fun W => BoxH W w.heap.size (.slice a n c) ∧ BoxH W w5.heap.size (.slice (some ⟨gx, 0, none⟩) n n)) (by kernel_rfl) ?_ (fun hHeld => ?_)
  · exact ⟨HA.out.box, BX.out⟩
  generalize w8.drew = v1x at *
  refine anyK_take2 (i := 0) (v := ?v1) rfl (by kernel_rfl) (by kernel_rfl) (by kernel_rfl) (by rfl) (fun _ _ _ h => h) (by rfl) hHeld ?hy1 (some 42) (by rfl) ?rest1
  case hy1 => (intro W hSw; obtain ⟨⟨r0⟩, ⟨r2⟩⟩ := hSw; go_simp; (try with_reducible rfl))
  try simp only [Act.put]
  try simp only [List.setIfInBounds_toArray]
  try simp only [List.set_cons_succ, List.set_cons_zero]
  refine anyK_take2 (i := 1) (v := ?v2) rfl (by kernel_rfl) (by kernel_rfl) (by kernel_rfl) (by rfl) (fun _ _ _ h => h) (by rfl) hHeld ?hy2 (some 43) (by rfl) ?rest2
  case hy2 => (intro W hSw; obtain ⟨⟨r0⟩, ⟨r2⟩⟩ := hSw; go_simp; (try with_reducible rfl))
  try simp only [Act.put]
  try simp only [List.setIfInBounds_toArray]
  try simp only [List.set_cons_succ, List.set_cons_zero]
  refine anyK_step (i := 2) (by kernel_rfl) rfl (fun KP hK => ?_)
  go_simp
  refine (toHeap c HA.out.reads hl (by omega) (by omega)).mono ?_
  rintro e w9 ⟨gy, rfl, o, b⟩
  replace HA := hid (HA.out.below b (Nat.le_refl _))
  replace HL := hid (HL.out.below b (Nat.le_refl _))
  replace HQ := hid (HQ.out.below b (by have := S0.out; have := S1.out; have := S2.out; have := S3.out; have := S4.out; have := S5.out; have := S6.out; have := S7.out; have := S8.out; have := S9.out; have := S10.out; have := S11.out; have := S12.out; omega))
  replace HX := hid (HX.out.below b (by have := S0.out; have := S1.out; have := S2.out; have := S3.out; have := S4.out; have := S5.out; have := S6.out; have := S7.out; have := S8.out; have := S9.out; have := S10.out; have := S11.out; have := S12.out; omega))
  replace BX := hid (BX.out.below b (Nat.le_refl _))
  replace XL := hid (XL.out.below b (Nat.le_refl _))
  replace HG := hid (HG.out.below b (by have := S0.out; have := S1.out; have := S2.out; have := S3.out; have := S4.out; have := S5.out; have := S6.out; have := S7.out; have := S8.out; have := S9.out; have := S10.out; have := S11.out; have := S12.out; omega))
  replace HC := hid (HC.out.trans (b.mono HC.out.size))
  have S13 := hid (b.size)
  clear b
  have PY := hid o
  clear o
  go_wp2_with fail
  refine hK.out _ _ ?_ (fun hH2 => ?_)
  · exact ⟨HA.out.box, BX.out⟩
  clear hK KP hHeld
  have hHeld := hH2
  clear hH2
  try simp only [Act.put]
  try simp only [List.setIfInBounds_toArray]
  try simp only [List.set_cons_succ, List.set_cons_zero]
  refine anyK_step (i := 3) (by kernel_rfl) rfl (fun KP hK => ?_)
  go_simp
  refine (eqHeap n n HX.out.rd PY.out.rd hl (by omega) (by omega)).mono ?_
  rintro e w10 ⟨rfl, b⟩
  replace HA := hid (HA.out.below b (Nat.le_refl _))
  replace HL := hid (HL.out.below b (Nat.le_refl _))
  replace HQ := hid (HQ.out.below b (by have := S0.out; have := S1.out; have := S2.out; have := S3.out; have := S4.out; have := S5.out; have := S6.out; have := S7.out; have := S8.out; have := S9.out; have := S10.out; have := S11.out; have := S12.out; have := S13.out; omega))
  replace HX := hid (HX.out.below b (by have := S0.out; have := S1.out; have := S2.out; have := S3.out; have := S4.out; have := S5.out; have := S6.out; have := S7.out; have := S8.out; have := S9.out; have := S10.out; have := S11.out; have := S12.out; have := S13.out; omega))
  replace BX := hid (BX.out.below b (Nat.le_refl _))
  replace XL := hid (XL.out.below b (Nat.le_refl _))
  replace HG := hid (HG.out.below b (by have := S0.out; have := S1.out; have := S2.out; have := S3.out; have := S4.out; have := S5.out; have := S6.out; have := S7.out; have := S8.out; have := S9.out; have := S10.out; have := S11.out; have := S12.out; have := S13.out; omega))
  replace PY := hid (PY.out.below b (by have := S0.out; have := S1.out; have := S2.out; have := S3.out; have := S4.out; have := S5.out; have := S6.out; have := S7.out; have := S8.out; have := S9.out; have := S10.out; have := S11.out; have := S12.out; have := S13.out; omega))
  replace HC := hid (HC.out.trans (b.mono HC.out.size))
  have S14 := hid (b.size)
  clear b
  clear PY
  go_wp2_with fail
  refine hK.out _ _ ?_ (fun hH2 => ?_)
  · exact ⟨HA.out.box, BX.out⟩
  clear hK KP hHeld
  have hHeld := hH2
  clear hH2
  try simp only [Act.put]
  try simp only [List.setIfInBounds_toArray]
  try simp only [List.set_cons_succ, List.set_cons_zero]
  refine anyK_step (i := 4) (by kernel_rfl) rfl (fun KP hK => ?_)
  go_simp
  refine hK.out _ _ ?_ (fun hH2 => ?_)
  · exact ⟨HA.out.box, BX.out⟩
  clear hK KP hHeld
  have hHeld := hH2
  clear hH2
  try simp only [Act.put]
  try simp only [List.setIfInBounds_toArray]
  try simp only [List.set_cons_succ, List.set_cons_zero]
  refine anyK_done (by kernel_rfl) ?_ _
  clear hHeld
  go_wp2_with fail
  refine (toIntS_any cl HL.out (by omega)).mono ?_
  rintro e w11 ⟨rfl, o, b⟩
  replace HA := hid (HA.out.below b (Nat.le_refl _))
  replace HL := hid (HL.out.below b (Nat.le_refl _))
  replace HQ := hid (HQ.out.below b (by have := S0.out; have := S1.out; have := S2.out; have := S3.out; have := S4.out; have := S5.out; have := S6.out; have := S7.out; have := S8.out; have := S9.out; have := S10.out; have := S11.out; have := S12.out; have := S13.out; have := S14.out; omega))
  replace HX := hid (HX.out.below b (by have := S0.out; have := S1.out; have := S2.out; have := S3.out; have := S4.out; have := S5.out; have := S6.out; have := S7.out; have := S8.out; have := S9.out; have := S10.out; have := S11.out; have := S12.out; have := S13.out; have := S14.out; omega))
  replace BX := hid (BX.out.below b (Nat.le_refl _))
  replace XL := hid (XL.out.below b (Nat.le_refl _))
  replace HG := hid (HG.out.below b (by have := S0.out; have := S1.out; have := S2.out; have := S3.out; have := S4.out; have := S5.out; have := S6.out; have := S7.out; have := S8.out; have := S9.out; have := S10.out; have := S11.out; have := S12.out; have := S13.out; have := S14.out; omega))
  replace HC := hid (HC.out.trans (b.mono HC.out.size))
  have S15 := hid (b.size)
  clear b
  have PZ := hid (OwnL.mk o HL0.out.bd)
  clear o
  have S16 := hid (PZ.out.lt.2)
  go_wp2_with fail
  refine (eqIntS_any nl nl XL.out.rd PZ.out.rd (by omega)).mono ?_
  rintro e w12 ⟨rfl, st⟩
  have b := st.below w11.heap.size
  clear st
  replace HA := hid (HA.out.below b (Nat.le_refl _))
  replace HL := hid (HL.out.below b (Nat.le_refl _))
  replace HQ := hid (HQ.out.below b (by have := S0.out; have := S1.out; have := S2.out; have := S3.out; have := S4.out; have := S5.out; have := S6.out; have := S7.out; have := S8.out; have := S9.out; have := S10.out; have := S11.out; have := S12.out; have := S13.out; have := S14.out; have := S15.out; have := S16.out; omega))
  replace HX := hid (HX.out.below b (by have := S0.out; have := S1.out; have := S2.out; have := S3.out; have := S4.out; have := S5.out; have := S6.out; have := S7.out; have := S8.out; have := S9.out; have := S10.out; have := S11.out; have := S12.out; have := S13.out; have := S14.out; have := S15.out; have := S16.out; omega))
  replace BX := hid (BX.out.below b (Nat.le_refl _))
  replace XL := hid (XL.out.below b (Nat.le_refl _))
  replace HG := hid (HG.out.below b (by have := S0.out; have := S1.out; have := S2.out; have := S3.out; have := S4.out; have := S5.out; have := S6.out; have := S7.out; have := S8.out; have := S9.out; have := S10.out; have := S11.out; have := S12.out; have := S13.out; have := S14.out; have := S15.out; have := S16.out; omega))
  replace PZ := hid (PZ.out.below b (Nat.le_refl _))
  replace HC := hid (HC.out.trans (b.mono HC.out.size))
  have S17 := hid (b.size)
  clear b
  clear PZ
  have y0 := (BX.out).c0
  go_wp2_with fail
  clear y0
  refine (markHeap n 1 HX.out (by have := S0.out; have := S1.out; have := S2.out; have := S3.out; have := S4.out; have := S5.out; have := S6.out; have := S7.out; have := S8.out; have := S9.out; have := S10.out; have := S11.out; have := S12.out; have := S13.out; have := S14.out; have := S15.out; have := S16.out; have := S17.out; omega) hl (by omega) (by omega) (by omega) (by omega)).mono ?_
  rintro e w13 ⟨rfl, _, G⟩
  replace HC := hid (HC.out.trans ((G.below (by have := S0.out; have := S1.out; have := S2.out; have := S3.out; have := S4.out; have := S5.out; have := S6.out; have := S7.out; have := S8.out; have := S9.out; have := S10.out; have := S11.out; have := S12.out; have := S13.out; have := S14.out; have := S15.out; have := S16.out; have := S17.out; omega)).mono (by have := S0.out; have := S1.out; have := S2.out; have := S3.out; have := S4.out; have := S5.out; have := S6.out; have := S7.out; have := S8.out; have := S9.out; have := S10.out; have := S11.out; have := S12.out; have := S13.out; have := S14.out; have := S15.out; have := S16.out; have := S17.out; omega)))
  replace HA := hid (HA0.out.below HC.out (Nat.le_refl _))
  replace HL := hid (HL0.out.below HC.out (Nat.le_refl _))
  replace HQ := hid (HQ.out.agree (G.agree (by have := S0.out; have := S1.out; have := S2.out; have := S3.out; have := S4.out; have := S5.out; have := S6.out; have := S7.out; have := S8.out; have := S9.out; have := S10.out; have := S11.out; have := S12.out; have := S13.out; have := S14.out; have := S15.out; have := S16.out; have := S17.out; omega) (by have := S0.out; have := S1.out; have := S2.out; have := S3.out; have := S4.out; have := S5.out; have := S6.out; have := S7.out; have := S8.out; have := S9.out; have := S10.out; have := S11.out; have := S12.out; have := S13.out; have := S14.out; have := S15.out; have := S16.out; have := S17.out; omega)))
  replace BX := hid (BX.out.within G (by have := S0.out; have := S1.out; have := S2.out; have := S3.out; have := S4.out; have := S5.out; have := S6.out; have := S7.out; have := S8.out; have := S9.out; have := S10.out; have := S11.out; have := S12.out; have := S13.out; have := S14.out; have := S15.out; have := S16.out; have := S17.out; omega))
  replace XL := hid (XL.out.agree (G.agree (by have := S0.out; have := S1.out; have := S2.out; have := S3.out; have := S4.out; have := S5.out; have := S6.out; have := S7.out; have := S8.out; have := S9.out; have := S10.out; have := S11.out; have := S12.out; have := S13.out; have := S14.out; have := S15.out; have := S16.out; have := S17.out; omega) (by have := S0.out; have := S1.out; have := S2.out; have := S3.out; have := S4.out; have := S5.out; have := S6.out; have := S7.out; have := S8.out; have := S9.out; have := S10.out; have := S11.out; have := S12.out; have := S13.out; have := S14.out; have := S15.out; have := S16.out; have := S17.out; omega)))
  replace HG := hid (HG.out.agree (G.agree (by have := S0.out; have := S1.out; have := S2.out; have := S3.out; have := S4.out; have := S5.out; have := S6.out; have := S7.out; have := S8.out; have := S9.out; have := S10.out; have := S11.out; have := S12.out; have := S13.out; have := S14.out; have := S15.out; have := S16.out; have := S17.out; omega) (by have := S0.out; have := S1.out; have := S2.out; have := S3.out; have := S4.out; have := S5.out; have := S6.out; have := S7.out; have := S8.out; have := S9.out; have := S10.out; have := S11.out; have := S12.out; have := S13.out; have := S14.out; have := S15.out; have := S16.out; have := S17.out; omega)))
  have S18 := hid (G.size)
  clear G
  clear HX BX
  rw [HKM.out]
  go_wp2_with fail
  refine (markIntS_any KM (by omega) hKM0 (by omega) XL.out.o).mono ?_
  rintro e w14 ⟨rfl, _, g0⟩
  have G := OwnL.within (g := t1.heap.size) rfl g0
  clear g0
  replace HC := hid (HC.out.trans ((G.below (by have := S0.out; have := S1.out; have := S2.out; have := S3.out; have := S4.out; have := S5.out; have := S6.out; have := S7.out; have := S8.out; have := S9.out; have := S10.out; have := S11.out; have := S12.out; have := S13.out; have := S14.out; have := S15.out; have := S16.out; have := S17.out; have := S18.out; omega)).mono (by have := S0.out; have := S1.out; have := S2.out; have := S3.out; have := S4.out; have := S5.out; have := S6.out; have := S7.out; have := S8.out; have := S9.out; have := S10.out; have := S11.out; have := S12.out; have := S13.out; have := S14.out; have := S15.out; have := S16.out; have := S17.out; have := S18.out; omega)))
  replace HA := hid (HA0.out.below HC.out (Nat.le_refl _))
  replace HL := hid (HL0.out.below HC.out (Nat.le_refl _))
  replace HQ := hid (HQ.out.agree (G.agree (by have := S0.out; have := S1.out; have := S2.out; have := S3.out; have := S4.out; have := S5.out; have := S6.out; have := S7.out; have := S8.out; have := S9.out; have := S10.out; have := S11.out; have := S12.out; have := S13.out; have := S14.out; have := S15.out; have := S16.out; have := S17.out; have := S18.out; omega) (by have := S0.out; have := S1.out; have := S2.out; have := S3.out; have := S4.out; have := S5.out; have := S6.out; have := S7.out; have := S8.out; have := S9.out; have := S10.out; have := S11.out; have := S12.out; have := S13.out; have := S14.out; have := S15.out; have := S16.out; have := S17.out; have := S18.out; omega)))
  replace HG := hid (HG.out.agree (G.agree (by have := S0.out; have := S1.out; have := S2.out; have := S3.out; have := S4.out; have := S5.out; have := S6.out; have := S7.out; have := S8.out; have := S9.out; have := S10.out; have := S11.out; have := S12.out; have := S13.out; have := S14.out; have := S15.out; have := S16.out; have := S17.out; have := S18.out; omega) (by have := S0.out; have := S1.out; have := S2.out; have := S3.out; have := S4.out; have := S5.out; have := S6.out; have := S7.out; have := S8.out; have := S9.out; have := S10.out; have := S11.out; have := S12.out; have := S13.out; have := S14.out; have := S15.out; have := S16.out; have := S17.out; have := S18.out; omega)))
  have S19 := hid (G.size)
  clear G
  clear XL
  go_wp2_with fail
  refine (eqRowS cHG cQ HG.out.rd HQ.out.rd HN.out (by omega) HTx.out).mono ?_
  rintro e w15 ⟨rfl, b⟩
  replace HA := hid (HA.out.below b (Nat.le_refl _))
  replace HL := hid (HL.out.below b (Nat.le_refl _))
  replace HQ := hid (HQ.out.below b (by have := S0.out; have := S1.out; have := S2.out; have := S3.out; have := S4.out; have := S5.out; have := S6.out; have := S7.out; have := S8.out; have := S9.out; have := S10.out; have := S11.out; have := S12.out; have := S13.out; have := S14.out; have := S15.out; have := S16.out; have := S17.out; have := S18.out; have := S19.out; omega))
  replace HG := hid (HG.out.below b (by have := S0.out; have := S1.out; have := S2.out; have := S3.out; have := S4.out; have := S5.out; have := S6.out; have := S7.out; have := S8.out; have := S9.out; have := S10.out; have := S11.out; have := S12.out; have := S13.out; have := S14.out; have := S15.out; have := S16.out; have := S17.out; have := S18.out; have := S19.out; omega))
  replace HC := hid (HC.out.trans (b.mono HC.out.size))
  have S20 := hid (b.size)
  clear b
  go_wp2_with fail
  refine (markRowS cHG 1 HG.out HN.out (by omega) hsm2 (by omega) (by omega)).mono ?_
  rintro e w16 ⟨rfl, o, G⟩
  replace HC := hid (HC.out.trans ((G.below (by have := S0.out; have := S1.out; have := S2.out; have := S3.out; have := S4.out; have := S5.out; have := S6.out; have := S7.out; have := S8.out; have := S9.out; have := S10.out; have := S11.out; have := S12.out; have := S13.out; have := S14.out; have := S15.out; have := S16.out; have := S17.out; have := S18.out; have := S19.out; have := S20.out; omega)).mono (by have := S0.out; have := S1.out; have := S2.out; have := S3.out; have := S4.out; have := S5.out; have := S6.out; have := S7.out; have := S8.out; have := S9.out; have := S10.out; have := S11.out; have := S12.out; have := S13.out; have := S14.out; have := S15.out; have := S16.out; have := S17.out; have := S18.out; have := S19.out; have := S20.out; omega)))
  replace HA := hid (HA0.out.below HC.out (Nat.le_refl _))
  replace HL := hid (HL0.out.below HC.out (Nat.le_refl _))
  replace HQ := hid (HQ.out.agree (G.agree (by have := S0.out; have := S1.out; have := S2.out; have := S3.out; have := S4.out; have := S5.out; have := S6.out; have := S7.out; have := S8.out; have := S9.out; have := S10.out; have := S11.out; have := S12.out; have := S13.out; have := S14.out; have := S15.out; have := S16.out; have := S17.out; have := S18.out; have := S19.out; have := S20.out; omega) (by have := S0.out; have := S1.out; have := S2.out; have := S3.out; have := S4.out; have := S5.out; have := S6.out; have := S7.out; have := S8.out; have := S9.out; have := S10.out; have := S11.out; have := S12.out; have := S13.out; have := S14.out; have := S15.out; have := S16.out; have := S17.out; have := S18.out; have := S19.out; have := S20.out; omega)))
  have S21 := hid (G.size)
  clear G
  rw [HM.out]
  replace HG := hid o
  clear o
  go_wp2_with fail
  refine (heldRowS cHG 1 HG.out.rd HN.out (by omega) hsm2 (by omega) (by omega)).mono ?_
  rintro e w17 ⟨rfl, e1⟩
  subst w17
  rw [HM.out]
  have y0 := (HA.out.box).c0
  go_wp2_with fail
  clear y0
  refine (toHeap c HA.out.reads hl (by omega) (by omega)).mono ?_
  rintro e w18 ⟨gz, rfl, o, b⟩
  replace HA := hid (HA.out.below b (Nat.le_refl _))
  replace HL := hid (HL.out.below b (Nat.le_refl _))
  replace HQ := hid (HQ.out.below b (by have := S0.out; have := S1.out; have := S2.out; have := S3.out; have := S4.out; have := S5.out; have := S6.out; have := S7.out; have := S8.out; have := S9.out; have := S10.out; have := S11.out; have := S12.out; have := S13.out; have := S14.out; have := S15.out; have := S16.out; have := S17.out; have := S18.out; have := S19.out; have := S20.out; have := S21.out; omega))
  replace HG := hid (HG.out.below b (by have := S0.out; have := S1.out; have := S2.out; have := S3.out; have := S4.out; have := S5.out; have := S6.out; have := S7.out; have := S8.out; have := S9.out; have := S10.out; have := S11.out; have := S12.out; have := S13.out; have := S14.out; have := S15.out; have := S16.out; have := S17.out; have := S18.out; have := S19.out; have := S20.out; have := S21.out; omega))
  replace HC := hid (HC.out.trans (b.mono HC.out.size))
  have S22 := hid (b.size)
  clear b
  have PZ := hid o
  clear o
  go_wp2_with fail
  refine (toIntS_any cl HL.out (by omega)).mono ?_
  rintro e w19 ⟨rfl, o, b⟩
  replace HA := hid (HA.out.below b (Nat.le_refl _))
  replace HL := hid (HL.out.below b (Nat.le_refl _))
  replace HQ := hid (HQ.out.below b (by have := S0.out; have := S1.out; have := S2.out; have := S3.out; have := S4.out; have := S5.out; have := S6.out; have := S7.out; have := S8.out; have := S9.out; have := S10.out; have := S11.out; have := S12.out; have := S13.out; have := S14.out; have := S15.out; have := S16.out; have := S17.out; have := S18.out; have := S19.out; have := S20.out; have := S21.out; have := S22.out; omega))
  replace HG := hid (HG.out.below b (by have := S0.out; have := S1.out; have := S2.out; have := S3.out; have := S4.out; have := S5.out; have := S6.out; have := S7.out; have := S8.out; have := S9.out; have := S10.out; have := S11.out; have := S12.out; have := S13.out; have := S14.out; have := S15.out; have := S16.out; have := S17.out; have := S18.out; have := S19.out; have := S20.out; have := S21.out; have := S22.out; omega))
  replace PZ := hid (PZ.out.below b (by have := S0.out; have := S1.out; have := S2.out; have := S3.out; have := S4.out; have := S5.out; have := S6.out; have := S7.out; have := S8.out; have := S9.out; have := S10.out; have := S11.out; have := S12.out; have := S13.out; have := S14.out; have := S15.out; have := S16.out; have := S17.out; have := S18.out; have := S19.out; have := S20.out; have := S21.out; have := S22.out; omega))
  replace HC := hid (HC.out.trans (b.mono HC.out.size))
  have S23 := hid (b.size)
  clear b
  have PW := hid (OwnL.mk o HL0.out.bd)
  clear o
  have S24 := hid (PW.out.lt.2)
  go_wp2_with fail
  refine (HII.out _ _ n _ _ PZ.out.rd hl _ _ nl _ PW.out.rd hnD x).mono ?_
  rintro e w20 ⟨v, rfl, o, b⟩
  replace HA := hid (HA.out.below b (Nat.le_refl _))
  replace HL := hid (HL.out.below b (Nat.le_refl _))
  replace HQ := hid (HQ.out.below b (by have := S0.out; have := S1.out; have := S2.out; have := S3.out; have := S4.out; have := S5.out; have := S6.out; have := S7.out; have := S8.out; have := S9.out; have := S10.out; have := S11.out; have := S12.out; have := S13.out; have := S14.out; have := S15.out; have := S16.out; have := S17.out; have := S18.out; have := S19.out; have := S20.out; have := S21.out; have := S22.out; have := S23.out; have := S24.out; omega))
  replace HG := hid (HG.out.below b (by have := S0.out; have := S1.out; have := S2.out; have := S3.out; have := S4.out; have := S5.out; have := S6.out; have := S7.out; have := S8.out; have := S9.out; have := S10.out; have := S11.out; have := S12.out; have := S13.out; have := S14.out; have := S15.out; have := S16.out; have := S17.out; have := S18.out; have := S19.out; have := S20.out; have := S21.out; have := S22.out; have := S23.out; have := S24.out; omega))
  replace PZ := hid (PZ.out.below b (by have := S0.out; have := S1.out; have := S2.out; have := S3.out; have := S4.out; have := S5.out; have := S6.out; have := S7.out; have := S8.out; have := S9.out; have := S10.out; have := S11.out; have := S12.out; have := S13.out; have := S14.out; have := S15.out; have := S16.out; have := S17.out; have := S18.out; have := S19.out; have := S20.out; have := S21.out; have := S22.out; have := S23.out; have := S24.out; omega))
  replace PW := hid (PW.out.below b (Nat.le_refl _))
  replace HC := hid (HC.out.trans (b.mono HC.out.size))
  have S25 := hid (b.size)
  clear b
  rw [HRS.out] at o
  obtain ⟨aHH, cHH, e1⟩ := o.slice
  rw [HN.out] at e1
  subst e1
  have HH := hid o
  clear o
  go_wp2_with fail
  refine (eqRowS cHH cQ HH.out.rd HQ.out.rd HN.out (by omega) HTx.out).mono ?_
  rintro e w21 ⟨rfl, b⟩
  replace HA := hid (HA.out.below b (Nat.le_refl _))
  replace HL := hid (HL.out.below b (Nat.le_refl _))
  replace HQ := hid (HQ.out.below b (by have := S0.out; have := S1.out; have := S2.out; have := S3.out; have := S4.out; have := S5.out; have := S6.out; have := S7.out; have := S8.out; have := S9.out; have := S10.out; have := S11.out; have := S12.out; have := S13.out; have := S14.out; have := S15.out; have := S16.out; have := S17.out; have := S18.out; have := S19.out; have := S20.out; have := S21.out; have := S22.out; have := S23.out; have := S24.out; have := S25.out; omega))
  replace HG := hid (HG.out.below b (by have := S0.out; have := S1.out; have := S2.out; have := S3.out; have := S4.out; have := S5.out; have := S6.out; have := S7.out; have := S8.out; have := S9.out; have := S10.out; have := S11.out; have := S12.out; have := S13.out; have := S14.out; have := S15.out; have := S16.out; have := S17.out; have := S18.out; have := S19.out; have := S20.out; have := S21.out; have := S22.out; have := S23.out; have := S24.out; have := S25.out; omega))
  replace PZ := hid (PZ.out.below b (by have := S0.out; have := S1.out; have := S2.out; have := S3.out; have := S4.out; have := S5.out; have := S6.out; have := S7.out; have := S8.out; have := S9.out; have := S10.out; have := S11.out; have := S12.out; have := S13.out; have := S14.out; have := S15.out; have := S16.out; have := S17.out; have := S18.out; have := S19.out; have := S20.out; have := S21.out; have := S22.out; have := S23.out; have := S24.out; have := S25.out; omega))
  replace PW := hid (PW.out.below b (Nat.le_refl _))
  replace HH := hid (HH.out.below b (by have := S0.out; have := S1.out; have := S2.out; have := S3.out; have := S4.out; have := S5.out; have := S6.out; have := S7.out; have := S8.out; have := S9.out; have := S10.out; have := S11.out; have := S12.out; have := S13.out; have := S14.out; have := S15.out; have := S16.out; have := S17.out; have := S18.out; have := S19.out; have := S20.out; have := S21.out; have := S22.out; have := S23.out; have := S24.out; have := S25.out; omega))
  replace HC := hid (HC.out.trans (b.mono HC.out.size))
  have S26 := hid (b.size)
  clear b
  go_wp2_with fail
  refine (heldRowS cHG 1 HG.out.rd HN.out (by omega) hsm2 (by omega) (by omega)).mono ?_
  rintro e w22 ⟨rfl, e1⟩
  subst w22
  rw [HM.out]
  go_wp2_with fail
  go_ret
  exact ⟨rfl, HB0.out.trans (HC.out.mono HB0.out.size)⟩
end Go.Proofs.YtebhipicfgnajaaGreat
