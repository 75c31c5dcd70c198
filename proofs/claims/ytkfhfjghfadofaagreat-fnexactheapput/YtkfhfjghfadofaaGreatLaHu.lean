/- FnExactHeapPut's walk. Conditions: none but what the arguments' types say. -/
import Derived.Test.YtkfhfjghfadofaaGreatIw10
import Derived.Test.YtkfhfjghfadofaaGreatHv10
import Derived.Test.YtkfhfjghfadofaaGreatMga
import Derived.Test.YtkfhfjghfadofaaGreatHe10
import Derived.Test.YtkfhfjghfadofaaGreatHq10
import Derived.Test.YtkfhfjghfadofaaGreatHr10
import Derived.Test.YtkfhfjghfadofaaGreatTt
import Derived.Deep.RegionHeld3
namespace Go.Proofs.YtkfhfjghfadofaaGreat
open Go.RowKit
set_option maxRecDepth 100000
set_option maxHeartbeats 102400000 in
theorem exactHeapPut {a : Option Addr} {n : Nat} (c : Nat) {ps : List Pg} (A B K Nn : Int) {f : Nat} {ta : Option Addr} {tn : Nat} (tc : Nat) (L Mm : Int) {h2 : Nat} {tb : Option Addr} {tm : Nat} (td : Nat) {zs ys : List Int} {w : World} (h : ReadsG w a ps) (hl : ps.length = n) (hn0 : n ≤ maxLen) (rk : Reads w ta tn zs) (rv : Reads w tb tm ys) (htn0 : tn ≤ maxLen) (htm0 : tm ≤ maxLen) (hN : -9223372036854775808 ≤ Nn ∧ Nn ≤ 9223372036854775807) (hM : -9223372036854775808 ≤ Mm ∧ Mm ≤ 9223372036854775807) (hf : f < 18446744073709551616) (hh : h2 < 18446744073709551616) (x y z : Int) :
 Calls Tryz.prog 5 #[.agg #[.slice a n c], .int .i64 x, .int .i64 y, .agg #[.int .i64 A, .int .i64 B, .int .i64 K, .int .i64 Nn, .float .f64 f, .slice ta tn tc, .int .i64 L, .int .i64 Mm, .float .f64 h2, .slice tb tm td], .int .i64 z] w fun e w' => e = .returned (.bool true) ∧ Below w.heap.size w w' := by
 obtain rfl := rk.len
 obtain rfl := rv.len
 unfold maxLen at hn0 htn0 htm0
 have hst1 := fun w a m => run_store Tryz.prog w a (.float .f64 f) m rfl
 have hst2 := fun w a m => run_store Tryz.prog w a (.float .f64 h2) m rfl
 have Zbd := hid rk.bd
 have Ybd := hid rv.bd
 have b1 := Below.alloc1 w (.cells #[.slice a n c] 64)
 have z1 := alloc_size w (.cells #[.slice a n c] 64)
 have HA0 := hid ((ArgH.new n c h 64 w.heap.size rfl).below (Below.alloc1 _ (.cells #[.int .i64 A, .int .i64 B, .int .i64 K, .int .i64 Nn, .float .f64 f, .slice ta zs.length tc, .int .i64 L, .int .i64 Mm, .float .f64 h2, .slice tb ys.length td] 67)) (Nat.le_refl _))
 have HT0 := hid (ArgT.new A B K Nn f ta zs.length tc L Mm h2 tb ys.length td (rk.below b1 (Nat.le_refl _)) (rv.below b1 (Nat.le_refl _)) 67 (w.heap.size + 1) z1.symm)
 have HB0 := hid (two w (.cells #[.slice a n c] 64) (.cells #[.int .i64 A, .int .i64 B, .int .i64 K, .int .i64 Nn, .float .f64 f, .slice ta zs.length tc, .int .i64 L, .int .i64 Mm, .float .f64 h2, .slice tb ys.length td] 67))
 have S0 := hid (show ((w.alloc (.cells #[.slice a n c] 64)).alloc (.cells #[.int .i64 A, .int .i64 B, .int .i64 K, .int .i64 Nn, .float .f64 f, .slice ta zs.length tc, .int .i64 L, .int .i64 Mm, .float .f64 h2, .slice tb ys.length td] 67)).heap.size = w.heap.size + 1 + 1 by rw [alloc_size, z1])
 have HA := HA0
 have HT := HT0
 clear h rk rv b1 z1
 have y0 := HA.out.box.c0
 go_enter Tryz.func5, Tryz.ntmps5
 go_wp2_with fail
 clear y0
 generalize (w.alloc (.cells #[.slice a n c] 64)).alloc (.cells #[.int .i64 A, .int .i64 B, .int .i64 K, .int .i64 Nn, .float .f64 f, .slice ta zs.length tc, .int .i64 L, .int .i64 Mm, .float .f64 h2, .slice tb ys.length td] 67) = W0 at *
 have HC := hid (Below.refl W0.heap.size W0)
 have SS := S0
 refine (szHeap c HA.out.reads hl (by omega) 1048576 (by omega) (by omega)).mono ?_
 rintro e w1 ⟨rfl, b⟩
 replace HT := hid (HT.out.below b (Nat.le_refl _))
 replace HA := hid (HA.out.below b (Nat.le_refl _))
 replace HC := hid (HC.out.trans (b.mono HC.out.size))
 replace SS := hid (And.intro (b.size) SS.out)
 clear b
 by_cases hbig : (1048576 : Int) < (n + sumG szP ps : Nat)
 · rw [show lft 1048576 (n + sumG szP ps) = -1 by unfold lft; rw [if_pos hbig]]
   go_wp2_with fail
   go_ret
   exact ⟨rfl, HB0.out.trans (HC.out.mono HB0.out.size)⟩
 obtain ⟨LF, hLF⟩ : ∃ LF : Int, (1048576 : Int) - (n + sumG szP ps : Nat) = LF := ⟨_, rfl⟩
 rw [show lft 1048576 (n + sumG szP ps) = LF by unfold lft; rw [if_neg hbig, hLF]]
 have hq0 : ¬ LF < 0 := by omega
 have hLF1 : LF ≤ 1048576 := by omega
 have hn : n ≤ 1048576 := by omega
 have hsz : sumG szP ps ≤ 1048576 := by omega
 have hnm := nm_le ps
 rw [hl] at hnm
 clear hbig hLF
 obtain ⟨u00, u01, u02, u03, u04, u05, u06, u07, u08, u09⟩ := HT.out.box
 go_wp2_with fail
 clear u00 u01 u02 u03 u04 u05 u06 u07 u08 u09
 refine (szTuple A B K Nn f ta zs.length tc L Mm h2 tb ys.length td LF (by omega) (by omega) (by omega) hLF1 _).mono ?_
 rintro e w2 ⟨rfl, b⟩
 replace HT := hid (HT.out.below b (Nat.le_refl _))
 replace HA := hid (HA.out.below b (Nat.le_refl _))
 replace HC := hid (HC.out.trans (b.mono HC.out.size))
 replace SS := hid (And.intro (b.size) SS.out)
 clear b
 obtain ⟨LG, hLG⟩ : ∃ LG : Int, lftT LF zs.length ys.length = LG := ⟨_, rfl⟩
 rw [hLG]
 by_cases hbig : LG < 0
 · go_wp2_with fail
   go_ret
   exact ⟨rfl, HB0.out.trans (HC.out.mono HB0.out.size)⟩
 have htn : zs.length ≤ 1048576 := by unfold lftT at hLG; split at hLG <;> omega
 have htm : ys.length ≤ 1048576 := by
  unfold lftT at hLG
  split at hLG
  · omega
  · split at hLG <;> omega
 clear hLG
 go_wp2_with fail
 clear hbig hq0 hLF1
 obtain ⟨QS, hQS⟩ : ∃ QS, putH ps x y (okT A B K Nn f zs.length L Mm h2 ys.length) (bytesT A B K Nn f zs.length zs L Mm h2 ys.length ys) z = QS := ⟨_, rfl⟩
 obtain ⟨OKb, hOKb⟩ : ∃ OKb, putHOk ps x y (okT A B K Nn f zs.length L Mm h2 ys.length) (bytesT A B K Nn f zs.length zs L Mm h2 ys.length ys) z = OKb := ⟨_, rfl⟩
 have hsm := putH_small ps x y (okT A B K Nn f zs.length L Mm h2 ys.length) (bytesT A B K Nn f zs.length zs L Mm h2 ys.length ys) z
 have HSP := hid (show ∀ (W : World) (gp g1 g2 : Nat), ReadsG W (some ⟨gp, 0, none⟩) ps → Reads W (some ⟨g1, 0, none⟩) zs.length zs → Reads W (some ⟨g2, 0, none⟩) ys.length ys → Calls Tryz.prog 10 #[.agg #[.slice (some ⟨gp, 0, none⟩) n n], .int .i64 x, .int .i64 y, .agg #[.int .i64 A, .int .i64 B, .int .i64 K, .int .i64 Nn, .float .f64 f, .slice (some ⟨g1, 0, none⟩) zs.length zs.length, .int .i64 L, .int .i64 Mm, .float .f64 h2, .slice (some ⟨g2, 0, none⟩) ys.length ys.length], .int .i64 z] W fun e w' => AnsH QS OKb W e w' from fun W gp g1 g2 r r1 r2 => by rw [← hQS, ← hOKb]; exact spec_HeapPut n x y z A B K Nn zs.length L Mm ys.length r hl r1 r2 (fun e => by cases e) (fun e => by cases e) (by omega) (by omega) hN hM hf hh)
 have HIP := hid (show ∀ (W : World) (gp g1 g2 : Nat), ReadsG W (some ⟨gp, 0, none⟩) ps → Reads W (some ⟨g1, 0, none⟩) zs.length zs → Reads W (some ⟨g2, 0, none⟩) ys.length ys → Calls Tryz.prog 9 #[.agg #[.slice (some ⟨gp, 0, none⟩) n n], .int .i64 x, .int .i64 y, .agg #[.int .i64 A, .int .i64 B, .int .i64 K, .int .i64 Nn, .float .f64 f, .slice (some ⟨g1, 0, none⟩) zs.length zs.length, .int .i64 L, .int .i64 Mm, .float .f64 h2, .slice (some ⟨g2, 0, none⟩) ys.length ys.length], .int .i64 z] W fun e w' => AnsH QS OKb W e w' from fun W gp g1 g2 r r1 r2 => by rw [← hQS, ← hOKb]; exact impl_HeapPut n x y z A B K Nn zs.length L Mm ys.length r hl r1 r2 (fun e => by cases e) (fun e => by cases e) (by omega) (by omega) hN hM hf hh)
 rw [hQS] at hsm
 have hsz2 := sz_small QS hsm.2
 have hln := hsm.1
 obtain ⟨N, hNN⟩ : ∃ N, QS.length = N := ⟨_, rfl⟩
 rw [hNN] at hsz2 hln
 have HNN := hid hNN
 have hob : (OKb != OKb) = false := by cases OKb <;> rfl
 have hszb : sumG szP QS ≤ 2097152 := by omega
 have hnm2 := nm_le QS
 rw [hNN] at hnm2
 obtain ⟨M, hMM⟩ : ∃ M : Int, 1 + (sumG nmP QS : Int) = M := ⟨_, rfl⟩
 have HM := hid hMM
 have hMn : ¬ M < 0 := by omega
 have hMq : (M != M) = false := by simp
 obtain ⟨KM, hKM⟩ : ∃ KM : Int, 1 + (sumG nmP ps : Int) = KM := ⟨_, rfl⟩
 have HKM := hid hKM
 have hKM0 : 0 ≤ KM := by omega
 have hKM1 : KM ≤ 10000000 := by omega
 have hKMt : ¬ KM + (zs.length : Int) + (ys.length : Int) < 0 := by omega
 clear hQS hOKb hNN hMM hKM hsm
 refine region_cut (fun a0 a' w' => ∃ (G : Nat) (vq : Option Addr) (cq : Nat) (u34 u35 u36 u37 u38 u39 u40 u41 u33 u42 u43 : Value), a' = (((((((((((((a0.put (some 34) u34).put (some 35) u35).put (some 36) u36).put (some 37) u37).put (some 38) u38).put (some 39) u39).put (some 40) u40).put (some 41) u41).put (some 33) u33).put (some 42) u42).put (some 43) u43).put (some 12) (.pointer (some ⟨G, 0, none⟩))).put (some 13) (.bool OKb)) ∧ OwnG w' w2.heap.size w'.heap.size (.slice vq N cq) QS ∧ BoxH w' G (.slice vq N cq) ∧ Below w2.heap.size w2 w') ?_ ?_
 · have HKp := hid (show ∀ W', Below w2.heap.size w2 W' → BoxH W' w.heap.size (.slice a n c) ∧ BoxT W' (w.heap.size + 1) A B K Nn f ta zs.length tc L Mm h2 tb ys.length td from fun W' b => ⟨HA.out.box.below b (Nat.le_refl _), HT.out.box.below b (Nat.le_refl _)⟩)
   have BC := hid ((Still.drew w2).below w2.heap.size)
   refine region_K 99 (fun W' => BoxH W' w.heap.size (.slice a n c) ∧ BoxT W' (w.heap.size + 1) A B K Nn f ta zs.length tc L Mm h2 tb ys.length td) (by kernel_rfl) ?_ (fun hHeld => ?_)
   · exact HKp.out _ BC.out
   generalize w2.drew = vd at *
   refine anyK_take2 (i := 0) (v := ?v1) rfl (by kernel_rfl) (by kernel_rfl) (by kernel_rfl) (by rfl) (fun _ _ _ h => h) (by rfl) hHeld ?hy1 (some 34) (by rfl) ?rest1
   case hy1 => (intro W' hSw; obtain ⟨⟨r0⟩, ⟨s0, s1, s2, s3, s4, s5, s6, s7, s8, s9⟩⟩ := hSw; go_simp; (try with_reducible rfl))
   try simp only [Act.put]
   try simp only [List.setIfInBounds_toArray]
   try simp only [List.set_cons_succ, List.set_cons_zero]
   refine anyK_take2 (i := 2) (v := ?v2) rfl (by kernel_rfl) (by kernel_rfl) (by kernel_rfl) (by rfl) (fun _ _ _ h => h) (by rfl) hHeld ?hy2 (some 36) (by rfl) ?rest2
   case hy2 => (intro W' hSw; obtain ⟨⟨r0⟩, ⟨s0, s1, s2, s3, s4, s5, s6, s7, s8, s9⟩⟩ := hSw; go_simp; (try with_reducible rfl))
   try simp only [Act.put]
   try simp only [List.setIfInBounds_toArray]
   try simp only [List.set_cons_succ, List.set_cons_zero]
   refine anyK_take2 (i := 3) (v := ?v3) rfl (by kernel_rfl) (by kernel_rfl) (by kernel_rfl) (by rfl) (fun _ _ _ h => h) (by rfl) hHeld ?hy3 (some 37) (by rfl) ?rest3
   case hy3 => (intro W' hSw; obtain ⟨⟨r0⟩, ⟨s0, s1, s2, s3, s4, s5, s6, s7, s8, s9⟩⟩ := hSw; go_simp; (try with_reducible rfl))
   try simp only [Act.put]
   try simp only [List.setIfInBounds_toArray]
   try simp only [List.set_cons_succ, List.set_cons_zero]
   refine anyK_take2 (i := 4) (v := ?v4) rfl (by kernel_rfl) (by kernel_rfl) (by kernel_rfl) (by rfl) (fun _ _ _ h => h) (by rfl) hHeld ?hy4 (some 38) (by rfl) ?rest4
   case hy4 => (intro W' hSw; obtain ⟨⟨r0⟩, ⟨s0, s1, s2, s3, s4, s5, s6, s7, s8, s9⟩⟩ := hSw; go_simp; (try with_reducible rfl))
   try simp only [Act.put]
   try simp only [List.setIfInBounds_toArray]
   try simp only [List.set_cons_succ, List.set_cons_zero]
   refine anyK_take2 (i := 6) (v := ?v5) rfl (by kernel_rfl) (by kernel_rfl) (by kernel_rfl) (by rfl) (fun _ _ _ h => h) (by rfl) hHeld ?hy5 (some 40) (by rfl) ?rest5
   case hy5 => (intro W' hSw; obtain ⟨⟨r0⟩, ⟨s0, s1, s2, s3, s4, s5, s6, s7, s8, s9⟩⟩ := hSw; go_simp; (try with_reducible rfl))
   try simp only [Act.put]
   try simp only [List.setIfInBounds_toArray]
   try simp only [List.set_cons_succ, List.set_cons_zero]
   refine anyK_two (i := 1) (j := 11) (by kernel_rfl) rfl rfl (fun KP hK => ?_) (fun KP hK => ?_)
   · skip
     go_simp
     refine (toHeap c (HA.out.reads.below BC.out (Nat.le_refl _)) hl (by omega) (by omega)).mono ?_
     rintro e x1 ⟨gp, rfl, o, b⟩
     have RP := hid o.rd
     replace BC := hid (BC.out.trans (b.mono BC.out.size))
     clear o b
     go_wp2_with fail
     refine hK.out _ _ ?_ (fun hH2 => ?_)
     · exact HKp.out _ BC.out
     clear hK KP hHeld
     have hHeld := hH2
     clear hH2
     try simp only [Act.put]
     try simp only [List.setIfInBounds_toArray]
     try simp only [List.set_cons_succ, List.set_cons_zero]
     refine anyK_two (i := 5) (j := 11) (by kernel_rfl) rfl rfl (fun KP hK => ?_) (fun KP hK => ?_)
     · skip
       go_simp
       refine (toTuple A B K Nn f tc L Mm h2 td (HT.out.rk.below BC.out (Nat.le_refl _)) (HT.out.rv.below BC.out (Nat.le_refl _)) (by omega) (by omega)).mono ?_
       rintro e x5 ⟨tg1, tg2, rfl, o1, o2, _, b⟩
       have RT1 := hid (reads_of10 o1 Zbd.out)
       have RT2 := hid (reads_of10 o2 Ybd.out)
       replace RP := hid (RP.out.below b (Nat.le_refl _))
       replace BC := hid (BC.out.trans (b.mono BC.out.size))
       clear o1 o2 b
       go_wp2_with fail
       refine hK.out _ _ ?_ (fun hH2 => ?_)
       · exact HKp.out _ BC.out
       clear hK KP hHeld
       have hHeld := hH2
       clear hH2
       try simp only [Act.put]
       try simp only [List.setIfInBounds_toArray]
       try simp only [List.set_cons_succ, List.set_cons_zero]
       refine anyK_two (i := 7) (j := 11) (by kernel_rfl) rfl rfl (fun KP hK => ?_) (fun KP hK => ?_)
       · skip
         go_simp
         have LW := hid BC.out.size
         skip
         refine (HSP.out _ gp tg1 tg2 RP.out RT1.out RT2.out).mono ?_
         rintro e x7 ⟨vq, cq, rfl, o, b⟩
         rw [HNN.out] at o ⊢
         have OQ := hid o
         have LQ := hid b.size
         replace BC := hid (BC.out.trans (b.mono BC.out.size))
         clear o b
         go_wp2_with fail
         refine hK.out _ _ ?_ (fun hH2 => ?_)
         · exact HKp.out _ BC.out
         clear hK KP hHeld
         have hHeld := hH2
         clear hH2
         try simp only [Act.put]
         try simp only [List.setIfInBounds_toArray]
         try simp only [List.set_cons_succ, List.set_cons_zero]
         refine anyK_take2 (i := 8) (v := ?v6) rfl (by kernel_rfl) (by kernel_rfl) (by kernel_rfl) (by rfl) (fun _ _ _ h => h) (by rfl) hHeld ?hy6 (some 33) (by rfl) ?rest6
         case hy6 => (intro W' hSw; obtain ⟨⟨r0⟩, ⟨s0, s1, s2, s3, s4, s5, s6, s7, s8, s9⟩⟩ := hSw; go_simp; (try with_reducible rfl))
         try simp only [Act.put]
         try simp only [List.setIfInBounds_toArray]
         try simp only [List.set_cons_succ, List.set_cons_zero]
         refine anyK_take2 (i := 9) (v := ?v7) rfl (by kernel_rfl) (by kernel_rfl) (by kernel_rfl) (by rfl) (fun _ _ _ h => h) (by rfl) hHeld ?hy7 (some 42) (by rfl) ?rest7
         case hy7 => (intro W' hSw; obtain ⟨⟨r0⟩, ⟨s0, s1, s2, s3, s4, s5, s6, s7, s8, s9⟩⟩ := hSw; go_simp; (try with_reducible rfl))
         try simp only [Act.put]
         try simp only [List.setIfInBounds_toArray]
         try simp only [List.set_cons_succ, List.set_cons_zero]
         refine anyK_take2 (i := 10) (v := ?v8) rfl (by kernel_rfl) (by kernel_rfl) (by kernel_rfl) (by rfl) (fun _ _ _ h => h) (by rfl) hHeld ?hy8 (some 43) (by rfl) ?rest8
         case hy8 => (intro W' hSw; obtain ⟨⟨r0⟩, ⟨s0, s1, s2, s3, s4, s5, s6, s7, s8, s9⟩⟩ := hSw; go_simp; (try with_reducible rfl))
         try simp only [Act.put]
         try simp only [List.setIfInBounds_toArray]
         try simp only [List.set_cons_succ, List.set_cons_zero]
         refine anyK_step (i := 11) (by kernel_rfl) rfl (fun KP hK => ?_)
         go_simp
         have bZ := Below.alloc1 x7 (.cells #[.slice none 0 0] 26)
         have BXX := hid (Boxed.new x7 26 (.slice none 0 0))
         have ZA := hid (alloc_size x7 (.cells #[.slice none 0 0] 26))
         have LB := hid BC.out.size
         have HPB := hid (show x7.heap.size + 1 ≤ (x7.alloc (.cells #[.slice none 0 0] 26)).heap.size by rw [alloc_size]; exact Nat.le_refl _)
         replace OQ := hid (OQ.out.below bZ (Nat.le_refl _))
         replace BC := hid (BC.out.trans (bZ.mono BC.out.size))
         clear bZ
         refine hK.out _ _ ?_ (fun hH2 => ?_)
         · exact HKp.out _ BC.out
         clear hK KP hHeld
         have hHeld := hH2
         clear hH2
         try simp only [Act.put]
         try simp only [List.setIfInBounds_toArray]
         try simp only [List.set_cons_succ, List.set_cons_zero]
         generalize x7.alloc (.cells #[.slice none 0 0] 26) = xa at *
         obtain ⟨PB, hPB⟩ : ∃ PB, x7.heap.size = PB := ⟨_, rfl⟩
         have HPB2 := hid hPB
         rw [hPB] at BXX HPB
         try simp only [hPB]
         clear hPB
         have r0 := BXX.out.cell
         have r1 := BXX.out.frozen
         have hz : PB < x5.heap.size ∨ x7.heap.size ≤ PB := by have := HPB2.out; have := HPB.out; have := ZA.out; omega
         have hw : w2.heap.size ≤ PB ∧ w2.heap.size ≤ x5.heap.size ∧ x7.heap.size ≤ xa.heap.size := by have := HPB2.out; have := LB.out; have := LW.out; have := HPB.out; have := ZA.out; omega
         have BF := hid (BC.out.setCell (p := ⟨PB, 0, none⟩) hw.1 (.slice vq N cq))
         have OF := hid ((OQ.out.agree (w' := (xa.setCell ⟨PB, 0, none⟩ (.slice vq N cq))) (fun q g1 g2 => heap_set_ne _ PB 0 q (.slice vq N cq) (by omega))).mono (lo' := w2.heap.size) (hi' := (xa.setCell ⟨PB, 0, none⟩ (.slice vq N cq)).heap.size) hw.2.1 (by rw [set_size]; exact hw.2.2))
         have BB := hid (BoxH.mk (BXX.out.set (.slice vq N cq)).cell)
         refine anyK_step (i := 12) (by kernel_rfl) rfl (fun KP hK => ?_)
         go_simp
         refine hK.out _ _ ?_ (fun hH2 => ?_)
         · exact HKp.out _ BF.out
         clear hK KP hHeld
         have hHeld := hH2
         clear hH2
         try simp only [Act.put]
         try simp only [List.setIfInBounds_toArray]
         try simp only [List.set_cons_succ, List.set_cons_zero]
         refine anyK_step (i := 13) (by kernel_rfl) rfl (fun KP hK => ?_)
         go_simp
         refine hK.out _ _ ?_ (fun hH2 => ?_)
         · exact HKp.out _ BF.out
         clear hK KP hHeld
         have hHeld := hH2
         clear hH2
         try simp only [Act.put]
         try simp only [List.setIfInBounds_toArray]
         try simp only [List.set_cons_succ, List.set_cons_zero]
         refine anyK_done (by kernel_rfl) ?_ _
         refine cutQ_normal ⟨PB, vq, cq, (.agg #[.slice a n c]), (.agg #[.slice (some ⟨gp, 0, none⟩) n n]), (.int .i64 x), (.int .i64 y), (.agg #[.int .i64 A, .int .i64 B, .int .i64 K, .int .i64 Nn, .float .f64 f, .slice ta zs.length tc, .int .i64 L, .int .i64 Mm, .float .f64 h2, .slice tb ys.length td]), (.agg #[.int .i64 A, .int .i64 B, .int .i64 K, .int .i64 Nn, .float .f64 f, .slice (some ⟨tg1, 0, none⟩) zs.length zs.length, .int .i64 L, .int .i64 Mm, .float .f64 h2, .slice (some ⟨tg2, 0, none⟩) ys.length ys.length]), (.int .i64 z), (.tuple #[.agg #[.slice vq N cq], .bool OKb]), (.tuple #[.agg #[.slice vq N cq], .bool OKb]), (.agg #[.slice vq N cq]), (.bool OKb), ?_, OF.out, BB.out, BF.out⟩
         rfl
       · skip
         go_simp
         have bZ := Below.alloc1 x5 (.cells #[.slice none 0 0] 26)
         have BXX := hid (Boxed.new x5 26 (.slice none 0 0))
         have ZA := hid (alloc_size x5 (.cells #[.slice none 0 0] 26))
         have LB := hid BC.out.size
         have HPB := hid (show x5.heap.size + 1 ≤ (x5.alloc (.cells #[.slice none 0 0] 26)).heap.size by rw [alloc_size]; exact Nat.le_refl _)
         replace RP := hid (RP.out.below bZ (Nat.le_refl _))
         replace RT1 := hid (RT1.out.below bZ (Nat.le_refl _))
         replace RT2 := hid (RT2.out.below bZ (Nat.le_refl _))
         replace BC := hid (BC.out.trans (bZ.mono BC.out.size))
         clear bZ
         refine hK.out _ _ ?_ (fun hH2 => ?_)
         · exact HKp.out _ BC.out
         clear hK KP hHeld
         have hHeld := hH2
         clear hH2
         try simp only [Act.put]
         try simp only [List.setIfInBounds_toArray]
         try simp only [List.set_cons_succ, List.set_cons_zero]
         generalize x5.alloc (.cells #[.slice none 0 0] 26) = xa at *
         obtain ⟨PB, hPB⟩ : ∃ PB, x5.heap.size = PB := ⟨_, rfl⟩
         have HPB2 := hid hPB
         rw [hPB] at BXX HPB
         try simp only [hPB]
         clear hPB
         refine anyK_step (i := 7) (by kernel_rfl) rfl (fun KP hK => ?_)
         go_simp
         have LW := hid BC.out.size
         have HPL := HPB
         refine (HSP.out _ gp tg1 tg2 RP.out RT1.out RT2.out).mono ?_
         rintro e x7 ⟨vq, cq, rfl, o, b⟩
         rw [HNN.out] at o ⊢
         have OQ := hid o
         replace HPB := hid (Nat.le_trans HPB.out b.size)
         replace BXX := hid (show Boxed _ PB 26 (.slice none 0 0) from (b.block _ BXX.out.lt).trans BXX.out)
         have LQ := hid b.size
         replace BC := hid (BC.out.trans (b.mono BC.out.size))
         clear o b
         go_wp2_with fail
         refine hK.out _ _ ?_ (fun hH2 => ?_)
         · exact HKp.out _ BC.out
         clear hK KP hHeld
         have hHeld := hH2
         clear hH2
         try simp only [Act.put]
         try simp only [List.setIfInBounds_toArray]
         try simp only [List.set_cons_succ, List.set_cons_zero]
         refine anyK_take2 (i := 8) (v := ?v9) rfl (by kernel_rfl) (by kernel_rfl) (by kernel_rfl) (by rfl) (fun _ _ _ h => h) (by rfl) hHeld ?hy9 (some 33) (by rfl) ?rest9
         case hy9 => (intro W' hSw; obtain ⟨⟨r0⟩, ⟨s0, s1, s2, s3, s4, s5, s6, s7, s8, s9⟩⟩ := hSw; go_simp; (try with_reducible rfl))
         try simp only [Act.put]
         try simp only [List.setIfInBounds_toArray]
         try simp only [List.set_cons_succ, List.set_cons_zero]
         refine anyK_take2 (i := 9) (v := ?v10) rfl (by kernel_rfl) (by kernel_rfl) (by kernel_rfl) (by rfl) (fun _ _ _ h => h) (by rfl) hHeld ?hy10 (some 42) (by rfl) ?rest10
         case hy10 => (intro W' hSw; obtain ⟨⟨r0⟩, ⟨s0, s1, s2, s3, s4, s5, s6, s7, s8, s9⟩⟩ := hSw; go_simp; (try with_reducible rfl))
         try simp only [Act.put]
         try simp only [List.setIfInBounds_toArray]
         try simp only [List.set_cons_succ, List.set_cons_zero]
         refine anyK_take2 (i := 10) (v := ?v11) rfl (by kernel_rfl) (by kernel_rfl) (by kernel_rfl) (by rfl) (fun _ _ _ h => h) (by rfl) hHeld ?hy11 (some 43) (by rfl) ?rest11
         case hy11 => (intro W' hSw; obtain ⟨⟨r0⟩, ⟨s0, s1, s2, s3, s4, s5, s6, s7, s8, s9⟩⟩ := hSw; go_simp; (try with_reducible rfl))
         try simp only [Act.put]
         try simp only [List.setIfInBounds_toArray]
         try simp only [List.set_cons_succ, List.set_cons_zero]
         have r0 := BXX.out.cell
         have r1 := BXX.out.frozen
         have hz : PB < xa.heap.size ∨ x7.heap.size ≤ PB := by have := HPL.out; have := HPB2.out; have := HPB.out; have := ZA.out; omega
         have hw : w2.heap.size ≤ PB ∧ w2.heap.size ≤ xa.heap.size ∧ x7.heap.size ≤ x7.heap.size := by have := HPB2.out; have := LB.out; have := LW.out; have := HPB.out; have := ZA.out; omega
         have BF := hid (BC.out.setCell (p := ⟨PB, 0, none⟩) hw.1 (.slice vq N cq))
         have OF := hid ((OQ.out.agree (w' := (x7.setCell ⟨PB, 0, none⟩ (.slice vq N cq))) (fun q g1 g2 => heap_set_ne _ PB 0 q (.slice vq N cq) (by omega))).mono (lo' := w2.heap.size) (hi' := (x7.setCell ⟨PB, 0, none⟩ (.slice vq N cq)).heap.size) hw.2.1 (by rw [set_size]; exact hw.2.2))
         have BB := hid (BoxH.mk (BXX.out.set (.slice vq N cq)).cell)
         refine anyK_step (i := 12) (by kernel_rfl) rfl (fun KP hK => ?_)
         go_simp
         refine hK.out _ _ ?_ (fun hH2 => ?_)
         · exact HKp.out _ BF.out
         clear hK KP hHeld
         have hHeld := hH2
         clear hH2
         try simp only [Act.put]
         try simp only [List.setIfInBounds_toArray]
         try simp only [List.set_cons_succ, List.set_cons_zero]
         refine anyK_step (i := 13) (by kernel_rfl) rfl (fun KP hK => ?_)
         go_simp
         refine hK.out _ _ ?_ (fun hH2 => ?_)
         · exact HKp.out _ BF.out
         clear hK KP hHeld
         have hHeld := hH2
         clear hH2
         try simp only [Act.put]
         try simp only [List.setIfInBounds_toArray]
         try simp only [List.set_cons_succ, List.set_cons_zero]
         refine anyK_done (by kernel_rfl) ?_ _
         refine cutQ_normal ⟨PB, vq, cq, (.agg #[.slice a n c]), (.agg #[.slice (some ⟨gp, 0, none⟩) n n]), (.int .i64 x), (.int .i64 y), (.agg #[.int .i64 A, .int .i64 B, .int .i64 K, .int .i64 Nn, .float .f64 f, .slice ta zs.length tc, .int .i64 L, .int .i64 Mm, .float .f64 h2, .slice tb ys.length td]), (.agg #[.int .i64 A, .int .i64 B, .int .i64 K, .int .i64 Nn, .float .f64 f, .slice (some ⟨tg1, 0, none⟩) zs.length zs.length, .int .i64 L, .int .i64 Mm, .float .f64 h2, .slice (some ⟨tg2, 0, none⟩) ys.length ys.length]), (.int .i64 z), (.tuple #[.agg #[.slice vq N cq], .bool OKb]), (.tuple #[.agg #[.slice vq N cq], .bool OKb]), (.agg #[.slice vq N cq]), (.bool OKb), ?_, OF.out, BB.out, BF.out⟩
         rfl
     · skip
       go_simp
       have bZ := Below.alloc1 x1 (.cells #[.slice none 0 0] 26)
       have BXX := hid (Boxed.new x1 26 (.slice none 0 0))
       have ZA := hid (alloc_size x1 (.cells #[.slice none 0 0] 26))
       have LB := hid BC.out.size
       have HPB := hid (show x1.heap.size + 1 ≤ (x1.alloc (.cells #[.slice none 0 0] 26)).heap.size by rw [alloc_size]; exact Nat.le_refl _)
       replace RP := hid (RP.out.below bZ (Nat.le_refl _))
       replace BC := hid (BC.out.trans (bZ.mono BC.out.size))
       clear bZ
       refine hK.out _ _ ?_ (fun hH2 => ?_)
       · exact HKp.out _ BC.out
       clear hK KP hHeld
       have hHeld := hH2
       clear hH2
       try simp only [Act.put]
       try simp only [List.setIfInBounds_toArray]
       try simp only [List.set_cons_succ, List.set_cons_zero]
       generalize x1.alloc (.cells #[.slice none 0 0] 26) = xa at *
       obtain ⟨PB, hPB⟩ : ∃ PB, x1.heap.size = PB := ⟨_, rfl⟩
       have HPB2 := hid hPB
       rw [hPB] at BXX HPB
       try simp only [hPB]
       clear hPB
       refine anyK_step (i := 5) (by kernel_rfl) rfl (fun KP hK => ?_)
       go_simp
       refine (toTuple A B K Nn f tc L Mm h2 td (HT.out.rk.below BC.out (Nat.le_refl _)) (HT.out.rv.below BC.out (Nat.le_refl _)) (by omega) (by omega)).mono ?_
       rintro e x5 ⟨tg1, tg2, rfl, o1, o2, _, b⟩
       have RT1 := hid (reads_of10 o1 Zbd.out)
       have RT2 := hid (reads_of10 o2 Ybd.out)
       replace RP := hid (RP.out.below b (Nat.le_refl _))
       replace HPB := hid (Nat.le_trans HPB.out b.size)
       replace BXX := hid (show Boxed _ PB 26 (.slice none 0 0) from (b.block _ BXX.out.lt).trans BXX.out)
       replace BC := hid (BC.out.trans (b.mono BC.out.size))
       clear o1 o2 b
       go_wp2_with fail
       refine hK.out _ _ ?_ (fun hH2 => ?_)
       · exact HKp.out _ BC.out
       clear hK KP hHeld
       have hHeld := hH2
       clear hH2
       try simp only [Act.put]
       try simp only [List.setIfInBounds_toArray]
       try simp only [List.set_cons_succ, List.set_cons_zero]
       refine anyK_step (i := 7) (by kernel_rfl) rfl (fun KP hK => ?_)
       go_simp
       have LW := hid BC.out.size
       have HPL := HPB
       refine (HSP.out _ gp tg1 tg2 RP.out RT1.out RT2.out).mono ?_
       rintro e x7 ⟨vq, cq, rfl, o, b⟩
       rw [HNN.out] at o ⊢
       have OQ := hid o
       replace HPB := hid (Nat.le_trans HPB.out b.size)
       replace BXX := hid (show Boxed _ PB 26 (.slice none 0 0) from (b.block _ BXX.out.lt).trans BXX.out)
       have LQ := hid b.size
       replace BC := hid (BC.out.trans (b.mono BC.out.size))
       clear o b
       go_wp2_with fail
       refine hK.out _ _ ?_ (fun hH2 => ?_)
       · exact HKp.out _ BC.out
       clear hK KP hHeld
       have hHeld := hH2
       clear hH2
       try simp only [Act.put]
       try simp only [List.setIfInBounds_toArray]
       try simp only [List.set_cons_succ, List.set_cons_zero]
       refine anyK_take2 (i := 8) (v := ?v12) rfl (by kernel_rfl) (by kernel_rfl) (by kernel_rfl) (by rfl) (fun _ _ _ h => h) (by rfl) hHeld ?hy12 (some 33) (by rfl) ?rest12
       case hy12 => (intro W' hSw; obtain ⟨⟨r0⟩, ⟨s0, s1, s2, s3, s4, s5, s6, s7, s8, s9⟩⟩ := hSw; go_simp; (try with_reducible rfl))
       try simp only [Act.put]
       try simp only [List.setIfInBounds_toArray]
       try simp only [List.set_cons_succ, List.set_cons_zero]
       refine anyK_take2 (i := 9) (v := ?v13) rfl (by kernel_rfl) (by kernel_rfl) (by kernel_rfl) (by rfl) (fun _ _ _ h => h) (by rfl) hHeld ?hy13 (some 42) (by rfl) ?rest13
       case hy13 => (intro W' hSw; obtain ⟨⟨r0⟩, ⟨s0, s1, s2, s3, s4, s5, s6, s7, s8, s9⟩⟩ := hSw; go_simp; (try with_reducible rfl))
       try simp only [Act.put]
       try simp only [List.setIfInBounds_toArray]
       try simp only [List.set_cons_succ, List.set_cons_zero]
       refine anyK_take2 (i := 10) (v := ?v14) rfl (by kernel_rfl) (by kernel_rfl) (by kernel_rfl) (by rfl) (fun _ _ _ h => h) (by rfl) hHeld ?hy14 (some 43) (by rfl) ?rest14
       case hy14 => (intro W' hSw; obtain ⟨⟨r0⟩, ⟨s0, s1, s2, s3, s4, s5, s6, s7, s8, s9⟩⟩ := hSw; go_simp; (try with_reducible rfl))
       try simp only [Act.put]
       try simp only [List.setIfInBounds_toArray]
       try simp only [List.set_cons_succ, List.set_cons_zero]
       have r0 := BXX.out.cell
       have r1 := BXX.out.frozen
       have hz : PB < x5.heap.size ∨ x7.heap.size ≤ PB := by have := HPL.out; have := HPB2.out; have := HPB.out; have := ZA.out; omega
       have hw : w2.heap.size ≤ PB ∧ w2.heap.size ≤ x5.heap.size ∧ x7.heap.size ≤ x7.heap.size := by have := HPB2.out; have := LB.out; have := LW.out; have := HPB.out; have := ZA.out; omega
       have BF := hid (BC.out.setCell (p := ⟨PB, 0, none⟩) hw.1 (.slice vq N cq))
       have OF := hid ((OQ.out.agree (w' := (x7.setCell ⟨PB, 0, none⟩ (.slice vq N cq))) (fun q g1 g2 => heap_set_ne _ PB 0 q (.slice vq N cq) (by omega))).mono (lo' := w2.heap.size) (hi' := (x7.setCell ⟨PB, 0, none⟩ (.slice vq N cq)).heap.size) hw.2.1 (by rw [set_size]; exact hw.2.2))
       have BB := hid (BoxH.mk (BXX.out.set (.slice vq N cq)).cell)
       refine anyK_step (i := 12) (by kernel_rfl) rfl (fun KP hK => ?_)
       go_simp
       refine hK.out _ _ ?_ (fun hH2 => ?_)
       · exact HKp.out _ BF.out
       clear hK KP hHeld
       have hHeld := hH2
       clear hH2
       try simp only [Act.put]
       try simp only [List.setIfInBounds_toArray]
       try simp only [List.set_cons_succ, List.set_cons_zero]
       refine anyK_step (i := 13) (by kernel_rfl) rfl (fun KP hK => ?_)
       go_simp
       refine hK.out _ _ ?_ (fun hH2 => ?_)
       · exact HKp.out _ BF.out
       clear hK KP hHeld
       have hHeld := hH2
       clear hH2
       try simp only [Act.put]
       try simp only [List.setIfInBounds_toArray]
       try simp only [List.set_cons_succ, List.set_cons_zero]
       refine anyK_done (by kernel_rfl) ?_ _
       refine cutQ_normal ⟨PB, vq, cq, (.agg #[.slice a n c]), (.agg #[.slice (some ⟨gp, 0, none⟩) n n]), (.int .i64 x), (.int .i64 y), (.agg #[.int .i64 A, .int .i64 B, .int .i64 K, .int .i64 Nn, .float .f64 f, .slice ta zs.length tc, .int .i64 L, .int .i64 Mm, .float .f64 h2, .slice tb ys.length td]), (.agg #[.int .i64 A, .int .i64 B, .int .i64 K, .int .i64 Nn, .float .f64 f, .slice (some ⟨tg1, 0, none⟩) zs.length zs.length, .int .i64 L, .int .i64 Mm, .float .f64 h2, .slice (some ⟨tg2, 0, none⟩) ys.length ys.length]), (.int .i64 z), (.tuple #[.agg #[.slice vq N cq], .bool OKb]), (.tuple #[.agg #[.slice vq N cq], .bool OKb]), (.agg #[.slice vq N cq]), (.bool OKb), ?_, OF.out, BB.out, BF.out⟩
       rfl
   · skip
     go_simp
     have bZ := Below.alloc1 vd (.cells #[.slice none 0 0] 26)
     have BXX := hid (Boxed.new vd 26 (.slice none 0 0))
     have ZA := hid (alloc_size vd (.cells #[.slice none 0 0] 26))
     have LB := hid BC.out.size
     have HPB := hid (show vd.heap.size + 1 ≤ (vd.alloc (.cells #[.slice none 0 0] 26)).heap.size by rw [alloc_size]; exact Nat.le_refl _)
     replace BC := hid (BC.out.trans (bZ.mono BC.out.size))
     clear bZ
     refine hK.out _ _ ?_ (fun hH2 => ?_)
     · exact HKp.out _ BC.out
     clear hK KP hHeld
     have hHeld := hH2
     clear hH2
     try simp only [Act.put]
     try simp only [List.setIfInBounds_toArray]
     try simp only [List.set_cons_succ, List.set_cons_zero]
     generalize vd.alloc (.cells #[.slice none 0 0] 26) = xa at *
     obtain ⟨PB, hPB⟩ : ∃ PB, vd.heap.size = PB := ⟨_, rfl⟩
     have HPB2 := hid hPB
     rw [hPB] at BXX HPB
     try simp only [hPB]
     clear hPB
     refine anyK_step (i := 1) (by kernel_rfl) rfl (fun KP hK => ?_)
     go_simp
     refine (toHeap c (HA.out.reads.below BC.out (Nat.le_refl _)) hl (by omega) (by omega)).mono ?_
     rintro e x1 ⟨gp, rfl, o, b⟩
     have RP := hid o.rd
     replace HPB := hid (Nat.le_trans HPB.out b.size)
     replace BXX := hid (show Boxed _ PB 26 (.slice none 0 0) from (b.block _ BXX.out.lt).trans BXX.out)
     replace BC := hid (BC.out.trans (b.mono BC.out.size))
     clear o b
     go_wp2_with fail
     refine hK.out _ _ ?_ (fun hH2 => ?_)
     · exact HKp.out _ BC.out
     clear hK KP hHeld
     have hHeld := hH2
     clear hH2
     try simp only [Act.put]
     try simp only [List.setIfInBounds_toArray]
     try simp only [List.set_cons_succ, List.set_cons_zero]
     refine anyK_step (i := 5) (by kernel_rfl) rfl (fun KP hK => ?_)
     go_simp
     refine (toTuple A B K Nn f tc L Mm h2 td (HT.out.rk.below BC.out (Nat.le_refl _)) (HT.out.rv.below BC.out (Nat.le_refl _)) (by omega) (by omega)).mono ?_
     rintro e x5 ⟨tg1, tg2, rfl, o1, o2, _, b⟩
     have RT1 := hid (reads_of10 o1 Zbd.out)
     have RT2 := hid (reads_of10 o2 Ybd.out)
     replace RP := hid (RP.out.below b (Nat.le_refl _))
     replace HPB := hid (Nat.le_trans HPB.out b.size)
     replace BXX := hid (show Boxed _ PB 26 (.slice none 0 0) from (b.block _ BXX.out.lt).trans BXX.out)
     replace BC := hid (BC.out.trans (b.mono BC.out.size))
     clear o1 o2 b
     go_wp2_with fail
     refine hK.out _ _ ?_ (fun hH2 => ?_)
     · exact HKp.out _ BC.out
     clear hK KP hHeld
     have hHeld := hH2
     clear hH2
     try simp only [Act.put]
     try simp only [List.setIfInBounds_toArray]
     try simp only [List.set_cons_succ, List.set_cons_zero]
     refine anyK_step (i := 7) (by kernel_rfl) rfl (fun KP hK => ?_)
     go_simp
     have LW := hid BC.out.size
     have HPL := HPB
     refine (HSP.out _ gp tg1 tg2 RP.out RT1.out RT2.out).mono ?_
     rintro e x7 ⟨vq, cq, rfl, o, b⟩
     rw [HNN.out] at o ⊢
     have OQ := hid o
     replace HPB := hid (Nat.le_trans HPB.out b.size)
     replace BXX := hid (show Boxed _ PB 26 (.slice none 0 0) from (b.block _ BXX.out.lt).trans BXX.out)
     have LQ := hid b.size
     replace BC := hid (BC.out.trans (b.mono BC.out.size))
     clear o b
     go_wp2_with fail
     refine hK.out _ _ ?_ (fun hH2 => ?_)
     · exact HKp.out _ BC.out
     clear hK KP hHeld
     have hHeld := hH2
     clear hH2
     try simp only [Act.put]
     try simp only [List.setIfInBounds_toArray]
     try simp only [List.set_cons_succ, List.set_cons_zero]
     refine anyK_take2 (i := 8) (v := ?v15) rfl (by kernel_rfl) (by kernel_rfl) (by kernel_rfl) (by rfl) (fun _ _ _ h => h) (by rfl) hHeld ?hy15 (some 33) (by rfl) ?rest15
     case hy15 => (intro W' hSw; obtain ⟨⟨r0⟩, ⟨s0, s1, s2, s3, s4, s5, s6, s7, s8, s9⟩⟩ := hSw; go_simp; (try with_reducible rfl))
     try simp only [Act.put]
     try simp only [List.setIfInBounds_toArray]
     try simp only [List.set_cons_succ, List.set_cons_zero]
     refine anyK_take2 (i := 9) (v := ?v16) rfl (by kernel_rfl) (by kernel_rfl) (by kernel_rfl) (by rfl) (fun _ _ _ h => h) (by rfl) hHeld ?hy16 (some 42) (by rfl) ?rest16
     case hy16 => (intro W' hSw; obtain ⟨⟨r0⟩, ⟨s0, s1, s2, s3, s4, s5, s6, s7, s8, s9⟩⟩ := hSw; go_simp; (try with_reducible rfl))
     try simp only [Act.put]
     try simp only [List.setIfInBounds_toArray]
     try simp only [List.set_cons_succ, List.set_cons_zero]
     refine anyK_take2 (i := 10) (v := ?v17) rfl (by kernel_rfl) (by kernel_rfl) (by kernel_rfl) (by rfl) (fun _ _ _ h => h) (by rfl) hHeld ?hy17 (some 43) (by rfl) ?rest17
     case hy17 => (intro W' hSw; obtain ⟨⟨r0⟩, ⟨s0, s1, s2, s3, s4, s5, s6, s7, s8, s9⟩⟩ := hSw; go_simp; (try with_reducible rfl))
     try simp only [Act.put]
     try simp only [List.setIfInBounds_toArray]
     try simp only [List.set_cons_succ, List.set_cons_zero]
     have r0 := BXX.out.cell
     have r1 := BXX.out.frozen
     have hz : PB < x5.heap.size ∨ x7.heap.size ≤ PB := by have := HPL.out; have := HPB2.out; have := HPB.out; have := ZA.out; omega
     have hw : w2.heap.size ≤ PB ∧ w2.heap.size ≤ x5.heap.size ∧ x7.heap.size ≤ x7.heap.size := by have := HPB2.out; have := LB.out; have := LW.out; have := HPB.out; have := ZA.out; omega
     have BF := hid (BC.out.setCell (p := ⟨PB, 0, none⟩) hw.1 (.slice vq N cq))
     have OF := hid ((OQ.out.agree (w' := (x7.setCell ⟨PB, 0, none⟩ (.slice vq N cq))) (fun q g1 g2 => heap_set_ne _ PB 0 q (.slice vq N cq) (by omega))).mono (lo' := w2.heap.size) (hi' := (x7.setCell ⟨PB, 0, none⟩ (.slice vq N cq)).heap.size) hw.2.1 (by rw [set_size]; exact hw.2.2))
     have BB := hid (BoxH.mk (BXX.out.set (.slice vq N cq)).cell)
     refine anyK_step (i := 12) (by kernel_rfl) rfl (fun KP hK => ?_)
     go_simp
     refine hK.out _ _ ?_ (fun hH2 => ?_)
     · exact HKp.out _ BF.out
     clear hK KP hHeld
     have hHeld := hH2
     clear hH2
     try simp only [Act.put]
     try simp only [List.setIfInBounds_toArray]
     try simp only [List.set_cons_succ, List.set_cons_zero]
     refine anyK_step (i := 13) (by kernel_rfl) rfl (fun KP hK => ?_)
     go_simp
     refine hK.out _ _ ?_ (fun hH2 => ?_)
     · exact HKp.out _ BF.out
     clear hK KP hHeld
     have hHeld := hH2
     clear hH2
     try simp only [Act.put]
     try simp only [List.setIfInBounds_toArray]
     try simp only [List.set_cons_succ, List.set_cons_zero]
     refine anyK_done (by kernel_rfl) ?_ _
     refine cutQ_normal ⟨PB, vq, cq, (.agg #[.slice a n c]), (.agg #[.slice (some ⟨gp, 0, none⟩) n n]), (.int .i64 x), (.int .i64 y), (.agg #[.int .i64 A, .int .i64 B, .int .i64 K, .int .i64 Nn, .float .f64 f, .slice ta zs.length tc, .int .i64 L, .int .i64 Mm, .float .f64 h2, .slice tb ys.length td]), (.agg #[.int .i64 A, .int .i64 B, .int .i64 K, .int .i64 Nn, .float .f64 f, .slice (some ⟨tg1, 0, none⟩) zs.length zs.length, .int .i64 L, .int .i64 Mm, .float .f64 h2, .slice (some ⟨tg2, 0, none⟩) ys.length ys.length]), (.int .i64 z), (.tuple #[.agg #[.slice vq N cq], .bool OKb]), (.tuple #[.agg #[.slice vq N cq], .bool OKb]), (.agg #[.slice vq N cq]), (.bool OKb), ?_, OF.out, BB.out, BF.out⟩
     rfl
 rintro a' w3 ⟨GHQ, vHQ, cHQ, u34, u35, u36, u37, u38, u39, u40, u41, u33, u42, u43, rfl, hq, hb, b⟩
 replace HT := hid (HT.out.below b (Nat.le_refl _))
 replace HA := hid (HA.out.below b (Nat.le_refl _))
 replace HC := hid (HC.out.trans (b.mono HC.out.size))
 replace SS := hid (And.intro (b.size) SS.out)
 have HQ := hid hq
 have BHQ := hid hb
 replace SS := hid (And.intro (BHQ.out.lt) SS.out)
 clear hq hb b
 try simp only [Act.put]
 try simp only [List.setIfInBounds_toArray]
 try simp only [List.set_cons_succ, List.set_cons_zero]
 have y0 := (HA.out.box).c0
 go_wp2_with fail
 clear y0
 refine (toHeap c HA.out.reads hl (by omega) (by omega)).mono ?_
 rintro e w4 ⟨gx, rfl, o, b⟩
 replace HT := hid (HT.out.below b (Nat.le_refl _))
 replace HA := hid (HA.out.below b (Nat.le_refl _))
 replace HQ := hid (HQ.out.below b (by have := SS.out; omega))
 replace BHQ := hid (BHQ.out.below b (Nat.le_refl _))
 replace HC := hid (HC.out.trans (b.mono HC.out.size))
 replace SS := hid (And.intro (b.size) SS.out)
 clear b
 have HX := hid o
 clear o
 have BX := hid (BoxH.mk (box1 w4 (.slice (some ⟨gx, 0, none⟩) n n) 26))
 have b := Below.alloc1 w4 (.cells #[.slice (some ⟨gx, 0, none⟩) n n] 26)
 replace HT := hid (HT.out.below b (Nat.le_refl _))
 replace HA := hid (HA.out.below b (Nat.le_refl _))
 replace HQ := hid (HQ.out.below b (by have := SS.out; omega))
 replace BHQ := hid (BHQ.out.below b (Nat.le_refl _))
 replace HX := hid (HX.out.below b (by have := SS.out; omega))
 replace HC := hid (HC.out.trans (b.mono HC.out.size))
 replace SS := hid (And.intro (alloc_size w4 (.cells #[.slice (some ⟨gx, 0, none⟩) n n] 26)) SS.out)
 clear b
 obtain ⟨u00, u01, u02, u03, u04, u05, u06, u07, u08, u09⟩ := HT.out.box
 go_wp2_with fail
 clear u00 u01 u02 u03 u04 u05 u06 u07 u08 u09
 generalize w4.alloc (.cells #[.slice (some ⟨gx, 0, none⟩) n n] 26) = t1 at *
 refine (toTuple A B K Nn f tc L Mm h2 td HT.out.rk HT.out.rv (by omega) (by omega)).mono ?_
 rintro e w5 ⟨xg1, xg2, rfl, o1, o2, lt12, b⟩
 replace HT := hid (HT.out.below b (Nat.le_refl _))
 replace HA := hid (HA.out.below b (Nat.le_refl _))
 replace HQ := hid (HQ.out.below b (by have := SS.out; omega))
 replace BHQ := hid (BHQ.out.below b (Nat.le_refl _))
 replace HX := hid (HX.out.below b (by have := SS.out; omega))
 replace BX := hid (BX.out.below b (Nat.le_refl _))
 replace HC := hid (HC.out.trans (b.mono HC.out.size))
 replace SS := hid (And.intro (b.size) SS.out)
 clear b
 have XT := hid (BoxTu.new o1 o2 (show Apart _ _ from .inr (fun e => by have e2 : some xg1 = some xg2 := e; have := Option.some.inj e2; omega)) Zbd.out Ybd.out rfl rfl A B K Nn f L Mm h2 31)
 have b := Below.alloc1 w5 (.cells #[.int .i64 A, .int .i64 B, .int .i64 K, .int .i64 Nn, .float .f64 f, .slice (some ⟨xg1, 0, none⟩) zs.length zs.length, .int .i64 L, .int .i64 Mm, .float .f64 h2, .slice (some ⟨xg2, 0, none⟩) ys.length ys.length] 31)
 replace HT := hid (HT.out.below b (Nat.le_refl _))
 replace HA := hid (HA.out.below b (Nat.le_refl _))
 replace HQ := hid (HQ.out.below b (by have := SS.out; omega))
 replace BHQ := hid (BHQ.out.below b (Nat.le_refl _))
 replace HX := hid (HX.out.below b (by have := SS.out; omega))
 replace BX := hid (BX.out.below b (Nat.le_refl _))
 replace HC := hid (HC.out.trans (b.mono HC.out.size))
 replace SS := hid (And.intro (alloc_size w5 (.cells #[.int .i64 A, .int .i64 B, .int .i64 K, .int .i64 Nn, .float .f64 f, .slice (some ⟨xg1, 0, none⟩) zs.length zs.length, .int .i64 L, .int .i64 Mm, .float .f64 h2, .slice (some ⟨xg2, 0, none⟩) ys.length ys.length] 31)) SS.out)
 clear b
 have y0 := (BX.out).c0
 obtain ⟨u00, u01, u02, u03, u04, u05, u06, u07, u08, u09⟩ := XT.out.box
 go_wp2_with fail
 clear y0 u00 u01 u02 u03 u04 u05 u06 u07 u08 u09
 generalize w5.alloc (.cells #[.int .i64 A, .int .i64 B, .int .i64 K, .int .i64 Nn, .float .f64 f, .slice (some ⟨xg1, 0, none⟩) zs.length zs.length, .int .i64 L, .int .i64 Mm, .float .f64 h2, .slice (some ⟨xg2, 0, none⟩) ys.length ys.length] 31) = t2 at *
 clear o1 o2 lt12
 refine (HIP.out _ gx xg1 xg2 HX.out.rd XT.out.rk XT.out.rv).mono ?_
 rintro e w6 ⟨vHG, cHG, rfl, o, b⟩
 replace HT := hid (HT.out.below b (Nat.le_refl _))
 replace HA := hid (HA.out.below b (Nat.le_refl _))
 replace HQ := hid (HQ.out.below b (by have := SS.out; omega))
 replace BHQ := hid (BHQ.out.below b (Nat.le_refl _))
 replace HX := hid (HX.out.below b (by have := SS.out; omega))
 replace BX := hid (BX.out.below b (Nat.le_refl _))
 replace XT := hid (XT.out.below b (Nat.le_refl _))
 replace HC := hid (HC.out.trans (b.mono HC.out.size))
 replace SS := hid (And.intro (b.size) SS.out)
 clear b
 rw [HNN.out] at o ⊢
 have HG := hid o
 clear o
 have BG := hid (BoxH.mk (box1 w6 (.slice vHG N cHG) 26))
 have b := Below.alloc1 w6 (.cells #[.slice vHG N cHG] 26)
 replace HT := hid (HT.out.below b (Nat.le_refl _))
 replace HA := hid (HA.out.below b (Nat.le_refl _))
 replace HQ := hid (HQ.out.below b (by have := SS.out; omega))
 replace BHQ := hid (BHQ.out.below b (Nat.le_refl _))
 replace HX := hid (HX.out.below b (by have := SS.out; omega))
 replace BX := hid (BX.out.below b (Nat.le_refl _))
 replace XT := hid (XT.out.below b (Nat.le_refl _))
 replace HG := hid (HG.out.below b (by have := SS.out; omega))
 replace HC := hid (HC.out.trans (b.mono HC.out.size))
 replace SS := hid (And.intro (alloc_size w6 (.cells #[.slice vHG N cHG] 26)) SS.out)
 clear b
 have y0 := (BHQ.out).c0
 go_wp2_with fail
 clear y0
 generalize w6.alloc (.cells #[.slice vHG N cHG] 26) = t3 at *
 refine (eqHeap cHG cHQ HG.out.rd HQ.out.rd HNN.out (by omega) hszb).mono ?_
 rintro e w7 ⟨rfl, b⟩
 replace HT := hid (HT.out.below b (Nat.le_refl _))
 replace HA := hid (HA.out.below b (Nat.le_refl _))
 replace HQ := hid (HQ.out.below b (by have := SS.out; omega))
 replace BHQ := hid (BHQ.out.below b (Nat.le_refl _))
 replace HX := hid (HX.out.below b (by have := SS.out; omega))
 replace BX := hid (BX.out.below b (Nat.le_refl _))
 replace XT := hid (XT.out.below b (Nat.le_refl _))
 replace HG := hid (HG.out.below b (by have := SS.out; omega))
 replace BG := hid (BG.out.below b (Nat.le_refl _))
 replace HC := hid (HC.out.trans (b.mono HC.out.size))
 replace SS := hid (And.intro (b.size) SS.out)
 clear b
 go_wp2_with fail
 replace HT := hid (HT.out.below ((Still.drew w7).below _) (Nat.le_refl _))
 replace HA := hid (HA.out.below ((Still.drew w7).below _) (Nat.le_refl _))
 replace HQ := hid (HQ.out.below ((Still.drew w7).below w7.heap.size) (by have := SS.out; omega))
 replace BHQ := hid (BHQ.out.below ((Still.drew w7).below _) (Nat.le_refl _))
 replace HX := hid (HX.out.below ((Still.drew w7).below w7.heap.size) (by have := SS.out; omega))
 replace BX := hid (BX.out.below ((Still.drew w7).below _) (Nat.le_refl _))
 replace XT := hid (XT.out.below ((Still.drew w7).below _) (Nat.le_refl _))
 replace HG := hid (HG.out.below ((Still.drew w7).below w7.heap.size) (by have := SS.out; omega))
 replace BG := hid (BG.out.below ((Still.drew w7).below _) (Nat.le_refl _))
 replace HC := hid (HC.out.trans (((Still.drew w7).below _).mono HC.out.size))
 replace SS := hid (And.intro ((Still.drew w7).size) SS.out)
 refine region_K 99 (fun W => BoxH W w.heap.size (.slice a n c) ∧ BoxH W (w4.heap.size) (.slice (some ⟨gx, 0, none⟩) n n)) (by kernel_rfl) ?_ (fun hHeld => ?_)
 · exact ⟨HA.out.box, BX.out⟩
 generalize w7.drew = v1x at *
 refine anyK_take2 (i := 0) (v := ?v18) rfl (by kernel_rfl) (by kernel_rfl) (by kernel_rfl) (by rfl) (fun _ _ _ h => h) (by rfl) hHeld ?hy18 (some 66) (by rfl) ?rest18
 case hy18 => (intro W hSw; obtain ⟨⟨r0⟩, ⟨r2⟩⟩ := hSw; go_simp; (try with_reducible rfl))
 try simp only [Act.put]
 try simp only [List.setIfInBounds_toArray]
 try simp only [List.set_cons_succ, List.set_cons_zero]
 refine anyK_take2 (i := 1) (v := ?v19) rfl (by kernel_rfl) (by kernel_rfl) (by kernel_rfl) (by rfl) (fun _ _ _ h => h) (by rfl) hHeld ?hy19 (some 67) (by rfl) ?rest19
 case hy19 => (intro W hSw; obtain ⟨⟨r0⟩, ⟨r2⟩⟩ := hSw; go_simp; (try with_reducible rfl))
 try simp only [Act.put]
 try simp only [List.setIfInBounds_toArray]
 try simp only [List.set_cons_succ, List.set_cons_zero]
 refine anyK_step (i := 2) (by kernel_rfl) rfl (fun KP hK => ?_)
 go_simp
 refine (toHeap c HA.out.reads hl (by omega) (by omega)).mono ?_
 rintro e w8 ⟨gy, rfl, o, b⟩
 replace HT := hid (HT.out.below b (Nat.le_refl _))
 replace HA := hid (HA.out.below b (Nat.le_refl _))
 replace HQ := hid (HQ.out.below b (by have := SS.out; omega))
 replace BHQ := hid (BHQ.out.below b (Nat.le_refl _))
 replace HX := hid (HX.out.below b (by have := SS.out; omega))
 replace BX := hid (BX.out.below b (Nat.le_refl _))
 replace XT := hid (XT.out.below b (Nat.le_refl _))
 replace HG := hid (HG.out.below b (by have := SS.out; omega))
 replace BG := hid (BG.out.below b (Nat.le_refl _))
 replace HC := hid (HC.out.trans (b.mono HC.out.size))
 replace SS := hid (And.intro (b.size) SS.out)
 clear b
 have PY := hid o
 clear o
 go_wp2_with fail
 refine hK.out _ _ ?_ (fun hH2 => ?_)
 · exact ⟨HA.out.box, BX.out⟩
 clear hK KP hHeld
 have hHeld := hH2
 clear hH2
 try simp only [Act.put]
 try simp only [List.setIfInBounds_toArray]
 try simp only [List.set_cons_succ, List.set_cons_zero]
 refine anyK_step (i := 3) (by kernel_rfl) rfl (fun KP hK => ?_)
 go_simp
 refine (eqHeap n n HX.out.rd PY.out.rd hl (by omega) (by omega)).mono ?_
 rintro e w9 ⟨rfl, b⟩
 replace HT := hid (HT.out.below b (Nat.le_refl _))
 replace HA := hid (HA.out.below b (Nat.le_refl _))
 replace HQ := hid (HQ.out.below b (by have := SS.out; omega))
 replace BHQ := hid (BHQ.out.below b (Nat.le_refl _))
 replace HX := hid (HX.out.below b (by have := SS.out; omega))
 replace BX := hid (BX.out.below b (Nat.le_refl _))
 replace XT := hid (XT.out.below b (Nat.le_refl _))
 replace HG := hid (HG.out.below b (by have := SS.out; omega))
 replace BG := hid (BG.out.below b (Nat.le_refl _))
 replace PY := hid (PY.out.below b (by have := SS.out; omega))
 replace HC := hid (HC.out.trans (b.mono HC.out.size))
 replace SS := hid (And.intro (b.size) SS.out)
 clear b
 clear PY
 go_wp2_with fail
 refine hK.out _ _ ?_ (fun hH2 => ?_)
 · exact ⟨HA.out.box, BX.out⟩
 clear hK KP hHeld
 have hHeld := hH2
 clear hH2
 try simp only [Act.put]
 try simp only [List.setIfInBounds_toArray]
 try simp only [List.set_cons_succ, List.set_cons_zero]
 refine anyK_step (i := 4) (by kernel_rfl) rfl (fun KP hK => ?_)
 go_simp
 refine hK.out _ _ ?_ (fun hH2 => ?_)
 · exact ⟨HA.out.box, BX.out⟩
 clear hK KP hHeld
 have hHeld := hH2
 clear hH2
 try simp only [Act.put]
 try simp only [List.setIfInBounds_toArray]
 try simp only [List.set_cons_succ, List.set_cons_zero]
 refine anyK_done (by kernel_rfl) ?_ _
 clear hHeld
 go_wp2_with fail
 replace HT := hid (HT.out.below ((Still.drew w9).below _) (Nat.le_refl _))
 replace HA := hid (HA.out.below ((Still.drew w9).below _) (Nat.le_refl _))
 replace HQ := hid (HQ.out.below ((Still.drew w9).below w9.heap.size) (by have := SS.out; omega))
 replace BHQ := hid (BHQ.out.below ((Still.drew w9).below _) (Nat.le_refl _))
 replace HX := hid (HX.out.below ((Still.drew w9).below w9.heap.size) (by have := SS.out; omega))
 replace BX := hid (BX.out.below ((Still.drew w9).below _) (Nat.le_refl _))
 replace XT := hid (XT.out.below ((Still.drew w9).below _) (Nat.le_refl _))
 replace HG := hid (HG.out.below ((Still.drew w9).below w9.heap.size) (by have := SS.out; omega))
 replace BG := hid (BG.out.below ((Still.drew w9).below _) (Nat.le_refl _))
 replace HC := hid (HC.out.trans (((Still.drew w9).below _).mono HC.out.size))
 replace SS := hid (And.intro ((Still.drew w9).size) SS.out)
 refine region_K 99 (fun W => BoxT W (w5.heap.size) A B K Nn f (some ⟨xg1, 0, none⟩) zs.length zs.length L Mm h2 (some ⟨xg2, 0, none⟩) ys.length ys.length ∧ BoxT W (w.heap.size + 1) A B K Nn f ta zs.length tc L Mm h2 tb ys.length td) (by kernel_rfl) ?_ (fun hHeld => ?_)
 · exact ⟨XT.out.box, HT.out.box⟩
 generalize w9.drew = v2x at *
 refine anyK_take2 (i := 0) (v := ?v20) rfl (by kernel_rfl) (by kernel_rfl) (by kernel_rfl) (by rfl) (fun _ _ _ h => h) (by rfl) hHeld ?hy20 (some 71) (by rfl) ?rest20
 case hy20 => (intro W hSw; obtain ⟨⟨q0, q1, q2, q3, q4, q5, q6, q7, q8, q9⟩, ⟨s0, s1, s2, s3, s4, s5, s6, s7, s8, s9⟩⟩ := hSw; go_simp; (try with_reducible rfl))
 try simp only [Act.put]
 try simp only [List.setIfInBounds_toArray]
 try simp only [List.set_cons_succ, List.set_cons_zero]
 refine anyK_take2 (i := 1) (v := ?v21) rfl (by kernel_rfl) (by kernel_rfl) (by kernel_rfl) (by rfl) (fun _ _ _ h => h) (by rfl) hHeld ?hy21 (some 72) (by rfl) ?rest21
 case hy21 => (intro W hSw; obtain ⟨⟨q0, q1, q2, q3, q4, q5, q6, q7, q8, q9⟩, ⟨s0, s1, s2, s3, s4, s5, s6, s7, s8, s9⟩⟩ := hSw; go_simp; (try with_reducible rfl))
 try simp only [Act.put]
 try simp only [List.setIfInBounds_toArray]
 try simp only [List.set_cons_succ, List.set_cons_zero]
 refine anyK_step (i := 2) (by kernel_rfl) rfl (fun KP hK => ?_)
 go_simp
 refine (toTuple A B K Nn f tc L Mm h2 td HT.out.rk HT.out.rv (by omega) (by omega)).mono ?_
 rintro e w10 ⟨yg1, yg2, rfl, o1, o2, _, b⟩
 replace HT := hid (HT.out.below b (Nat.le_refl _))
 replace HA := hid (HA.out.below b (Nat.le_refl _))
 replace HQ := hid (HQ.out.below b (by have := SS.out; omega))
 replace BHQ := hid (BHQ.out.below b (Nat.le_refl _))
 replace HX := hid (HX.out.below b (by have := SS.out; omega))
 replace BX := hid (BX.out.below b (Nat.le_refl _))
 replace XT := hid (XT.out.below b (Nat.le_refl _))
 replace HG := hid (HG.out.below b (by have := SS.out; omega))
 replace BG := hid (BG.out.below b (Nat.le_refl _))
 replace HC := hid (HC.out.trans (b.mono HC.out.size))
 replace SS := hid (And.intro (b.size) SS.out)
 clear b
 have RY1 := hid (reads_of10 o1 Zbd.out)
 have RY2 := hid (reads_of10 o2 Ybd.out)
 clear o1 o2
 go_wp2_with fail
 refine hK.out _ _ ?_ (fun hH2 => ?_)
 · exact ⟨XT.out.box, HT.out.box⟩
 clear hK KP hHeld
 have hHeld := hH2
 clear hH2
 try simp only [Act.put]
 try simp only [List.setIfInBounds_toArray]
 try simp only [List.set_cons_succ, List.set_cons_zero]
 refine anyK_step (i := 3) (by kernel_rfl) rfl (fun KP hK => ?_)
 go_simp
 refine (eqTuple A B K Nn f f zs.length zs.length L Mm h2 h2 ys.length ys.length hf hf hh hh (hid (Same.refl _)) (hid (Same.refl _)) XT.out.rk RY1.out XT.out.rv RY2.out (by omega) (by omega)).mono ?_
 rintro e w11 ⟨rfl, b⟩
 replace HT := hid (HT.out.below b (Nat.le_refl _))
 replace HA := hid (HA.out.below b (Nat.le_refl _))
 replace HQ := hid (HQ.out.below b (by have := SS.out; omega))
 replace BHQ := hid (BHQ.out.below b (Nat.le_refl _))
 replace HX := hid (HX.out.below b (by have := SS.out; omega))
 replace BX := hid (BX.out.below b (Nat.le_refl _))
 replace XT := hid (XT.out.below b (Nat.le_refl _))
 replace HG := hid (HG.out.below b (by have := SS.out; omega))
 replace BG := hid (BG.out.below b (Nat.le_refl _))
 replace RY1 := hid (RY1.out.below b (Nat.le_refl _))
 replace RY2 := hid (RY2.out.below b (Nat.le_refl _))
 replace HC := hid (HC.out.trans (b.mono HC.out.size))
 replace SS := hid (And.intro (b.size) SS.out)
 clear b
 clear RY1 RY2
 go_wp2_with fail
 refine hK.out _ _ ?_ (fun hH2 => ?_)
 · exact ⟨XT.out.box, HT.out.box⟩
 clear hK KP hHeld
 have hHeld := hH2
 clear hH2
 try simp only [Act.put]
 try simp only [List.setIfInBounds_toArray]
 try simp only [List.set_cons_succ, List.set_cons_zero]
 refine anyK_step (i := 4) (by kernel_rfl) rfl (fun KP hK => ?_)
 go_simp
 refine hK.out _ _ ?_ (fun hH2 => ?_)
 · exact ⟨XT.out.box, HT.out.box⟩
 clear hK KP hHeld
 have hHeld := hH2
 clear hH2
 try simp only [Act.put]
 try simp only [List.setIfInBounds_toArray]
 try simp only [List.set_cons_succ, List.set_cons_zero]
 refine anyK_done (by kernel_rfl) ?_ _
 clear hHeld
 have y0 := (BX.out).c0
 go_wp2_with fail
 clear y0
 refine (markHeap n 1 HX.out (by have := SS.out; omega) hl (by omega) (by omega) (by omega) (by omega)).mono ?_
 rintro e w12 ⟨rfl, _, G⟩
 replace HC := hid (HC.out.trans ((G.below (by have := SS.out; omega)).mono (by have := SS.out; omega)))
 replace HA := hid (HA0.out.below HC.out (Nat.le_refl _))
 replace HT := hid (HT0.out.below HC.out (Nat.le_refl _))
 replace HQ := hid (HQ.out.agree (G.agree (by have := SS.out; omega) (by have := SS.out; omega)))
 replace BHQ := hid (BHQ.out.within G (by have := SS.out; omega))
 replace BX := hid (BX.out.within G (by have := SS.out; omega))
 replace XT := hid (XT.out.agree (G.agree (by have := SS.out; omega) (by have := SS.out; omega)) (by have := SS.out; omega))
 replace HG := hid (HG.out.agree (G.agree (by have := SS.out; omega) (by have := SS.out; omega)))
 replace BG := hid (BG.out.within G (by have := SS.out; omega))
 replace SS := hid (And.intro (G.size) SS.out)
 clear G
 clear HX BX
 rw [HKM.out]
 obtain ⟨u00, u01, u02, u03, u04, u05, u06, u07, u08, u09⟩ := XT.out.box
 go_wp2_with fail
 clear u00 u01 u02 u03 u04 u05 u06 u07 u08 u09
 refine (markTupleB A B K Nn f L Mm h2 KM (by omega) (by omega) hKM0 (by omega) XT.out.o1 XT.out.o2 XT.out.ap).mono ?_
 rintro e w13 ⟨rfl, p1, p2, wm, g1, g2⟩
 obtain ⟨_, G⟩ := XT.out.marked KM g1 g2 p1 p2
 clear p1 p2 g1 g2
 replace HC := hid (HC.out.trans ((G.below (by have := SS.out; omega)).mono (by have := SS.out; omega)))
 replace HA := hid (HA0.out.below HC.out (Nat.le_refl _))
 replace HT := hid (HT0.out.below HC.out (Nat.le_refl _))
 replace HQ := hid (HQ.out.agree (G.agree (by have := SS.out; omega) (by have := SS.out; omega)))
 replace BHQ := hid (BHQ.out.within G (by have := SS.out; omega))
 replace HG := hid (HG.out.agree (G.agree (by have := SS.out; omega) (by have := SS.out; omega)))
 replace BG := hid (BG.out.within G (by have := SS.out; omega))
 replace SS := hid (And.intro (G.size) SS.out)
 clear G
 clear XT
 have y0 := (BG.out).c0
 have y1 := (BHQ.out).c0
 go_wp2_with fail
 clear y0 y1
 refine (eqHeap cHG cHQ HG.out.rd HQ.out.rd HNN.out (by omega) hszb).mono ?_
 rintro e w14 ⟨rfl, b⟩
 replace HT := hid (HT.out.below b (Nat.le_refl _))
 replace HA := hid (HA.out.below b (Nat.le_refl _))
 replace HQ := hid (HQ.out.below b (by have := SS.out; omega))
 replace BHQ := hid (BHQ.out.below b (Nat.le_refl _))
 replace HG := hid (HG.out.below b (by have := SS.out; omega))
 replace BG := hid (BG.out.below b (Nat.le_refl _))
 replace HC := hid (HC.out.trans (b.mono HC.out.size))
 replace SS := hid (And.intro (b.size) SS.out)
 clear b
 have y0 := (BG.out).c0
 go_wp2_with fail
 clear y0
 refine (markHeap cHG 1 HG.out (by have := SS.out; omega) HNN.out (by omega) hszb (by omega) (by omega)).mono ?_
 rintro e w15 ⟨rfl, o, G⟩
 replace HC := hid (HC.out.trans ((G.below (by have := SS.out; omega)).mono (by have := SS.out; omega)))
 replace HA := hid (HA0.out.below HC.out (Nat.le_refl _))
 replace HT := hid (HT0.out.below HC.out (Nat.le_refl _))
 replace HQ := hid (HQ.out.agree (G.agree (by have := SS.out; omega) (by have := SS.out; omega)))
 replace BHQ := hid (BHQ.out.within G (by have := SS.out; omega))
 replace BG := hid (BG.out.within G (by have := SS.out; omega))
 replace SS := hid (And.intro (G.size) SS.out)
 clear G
 rw [HM.out]
 replace HG := hid o
 clear o
 have y0 := (BG.out).c0
 go_wp2_with fail
 clear y0
 refine (heldHeap cHG 1 HG.out.rd HNN.out (by omega) hszb (by omega) (by omega)).mono ?_
 rintro e w16 ⟨rfl, b⟩
 replace HT := hid (HT.out.below b (Nat.le_refl _))
 replace HA := hid (HA.out.below b (Nat.le_refl _))
 replace HQ := hid (HQ.out.below b (by have := SS.out; omega))
 replace BHQ := hid (BHQ.out.below b (Nat.le_refl _))
 replace HG := hid (HG.out.below b (by have := SS.out; omega))
 replace BG := hid (BG.out.below b (Nat.le_refl _))
 replace HC := hid (HC.out.trans (b.mono HC.out.size))
 replace SS := hid (And.intro (b.size) SS.out)
 clear b
 rw [HM.out]
 go_wp2_with fail
 refine region_cut (fun a0 a' w' => ∃ (G : Nat) (vq : Option Addr) (cq : Nat) (u107 u108 u109 u110 u111 u112 u113 u114 u106 u115 u116 : Value), a' = (((((((((((((a0.put (some 107) u107).put (some 108) u108).put (some 109) u109).put (some 110) u110).put (some 111) u111).put (some 112) u112).put (some 113) u113).put (some 114) u114).put (some 106) u106).put (some 115) u115).put (some 116) u116).put (some 21) (.pointer (some ⟨G, 0, none⟩))).put (some 22) (.bool OKb)) ∧ OwnG w' w16.heap.size w'.heap.size (.slice vq N cq) QS ∧ BoxH w' G (.slice vq N cq) ∧ Below w16.heap.size w16 w') ?_ ?_
 · have HKp := hid (show ∀ W', Below w16.heap.size w16 W' → BoxH W' w.heap.size (.slice a n c) ∧ BoxT W' (w.heap.size + 1) A B K Nn f ta zs.length tc L Mm h2 tb ys.length td from fun W' b => ⟨HA.out.box.below b (Nat.le_refl _), HT.out.box.below b (Nat.le_refl _)⟩)
   have BC := hid ((Still.drew w16).below w16.heap.size)
   refine region_K 99 (fun W' => BoxH W' w.heap.size (.slice a n c) ∧ BoxT W' (w.heap.size + 1) A B K Nn f ta zs.length tc L Mm h2 tb ys.length td) (by kernel_rfl) ?_ (fun hHeld => ?_)
   · exact HKp.out _ BC.out
   generalize w16.drew = vd at *
   refine anyK_take2 (i := 0) (v := ?v22) rfl (by kernel_rfl) (by kernel_rfl) (by kernel_rfl) (by rfl) (fun _ _ _ h => h) (by rfl) hHeld ?hy22 (some 107) (by rfl) ?rest22
   case hy22 => (intro W' hSw; obtain ⟨⟨r0⟩, ⟨s0, s1, s2, s3, s4, s5, s6, s7, s8, s9⟩⟩ := hSw; go_simp; (try with_reducible rfl))
   try simp only [Act.put]
   try simp only [List.setIfInBounds_toArray]
   try simp only [List.set_cons_succ, List.set_cons_zero]
   refine anyK_take2 (i := 2) (v := ?v23) rfl (by kernel_rfl) (by kernel_rfl) (by kernel_rfl) (by rfl) (fun _ _ _ h => h) (by rfl) hHeld ?hy23 (some 109) (by rfl) ?rest23
   case hy23 => (intro W' hSw; obtain ⟨⟨r0⟩, ⟨s0, s1, s2, s3, s4, s5, s6, s7, s8, s9⟩⟩ := hSw; go_simp; (try with_reducible rfl))
   try simp only [Act.put]
   try simp only [List.setIfInBounds_toArray]
   try simp only [List.set_cons_succ, List.set_cons_zero]
   refine anyK_take2 (i := 3) (v := ?v24) rfl (by kernel_rfl) (by kernel_rfl) (by kernel_rfl) (by rfl) (fun _ _ _ h => h) (by rfl) hHeld ?hy24 (some 110) (by rfl) ?rest24
   case hy24 => (intro W' hSw; obtain ⟨⟨r0⟩, ⟨s0, s1, s2, s3, s4, s5, s6, s7, s8, s9⟩⟩ := hSw; go_simp; (try with_reducible rfl))
   try simp only [Act.put]
   try simp only [List.setIfInBounds_toArray]
   try simp only [List.set_cons_succ, List.set_cons_zero]
   refine anyK_take2 (i := 4) (v := ?v25) rfl (by kernel_rfl) (by kernel_rfl) (by kernel_rfl) (by rfl) (fun _ _ _ h => h) (by rfl) hHeld ?hy25 (some 111) (by rfl) ?rest25
   case hy25 => (intro W' hSw; obtain ⟨⟨r0⟩, ⟨s0, s1, s2, s3, s4, s5, s6, s7, s8, s9⟩⟩ := hSw; go_simp; (try with_reducible rfl))
   try simp only [Act.put]
   try simp only [List.setIfInBounds_toArray]
   try simp only [List.set_cons_succ, List.set_cons_zero]
   refine anyK_take2 (i := 6) (v := ?v26) rfl (by kernel_rfl) (by kernel_rfl) (by kernel_rfl) (by rfl) (fun _ _ _ h => h) (by rfl) hHeld ?hy26 (some 113) (by rfl) ?rest26
   case hy26 => (intro W' hSw; obtain ⟨⟨r0⟩, ⟨s0, s1, s2, s3, s4, s5, s6, s7, s8, s9⟩⟩ := hSw; go_simp; (try with_reducible rfl))
   try simp only [Act.put]
   try simp only [List.setIfInBounds_toArray]
   try simp only [List.set_cons_succ, List.set_cons_zero]
   refine anyK_two (i := 1) (j := 11) (by kernel_rfl) rfl rfl (fun KP hK => ?_) (fun KP hK => ?_)
   · skip
     go_simp
     refine (toHeap c (HA.out.reads.below BC.out (Nat.le_refl _)) hl (by omega) (by omega)).mono ?_
     rintro e x1 ⟨gp, rfl, o, b⟩
     have RP := hid o.rd
     replace BC := hid (BC.out.trans (b.mono BC.out.size))
     clear o b
     go_wp2_with fail
     refine hK.out _ _ ?_ (fun hH2 => ?_)
     · exact HKp.out _ BC.out
     clear hK KP hHeld
     have hHeld := hH2
     clear hH2
     try simp only [Act.put]
     try simp only [List.setIfInBounds_toArray]
     try simp only [List.set_cons_succ, List.set_cons_zero]
     refine anyK_two (i := 5) (j := 11) (by kernel_rfl) rfl rfl (fun KP hK => ?_) (fun KP hK => ?_)
     · skip
       go_simp
       refine (toTuple A B K Nn f tc L Mm h2 td (HT.out.rk.below BC.out (Nat.le_refl _)) (HT.out.rv.below BC.out (Nat.le_refl _)) (by omega) (by omega)).mono ?_
       rintro e x5 ⟨tg1, tg2, rfl, o1, o2, _, b⟩
       have RT1 := hid (reads_of10 o1 Zbd.out)
       have RT2 := hid (reads_of10 o2 Ybd.out)
       replace RP := hid (RP.out.below b (Nat.le_refl _))
       replace BC := hid (BC.out.trans (b.mono BC.out.size))
       clear o1 o2 b
       go_wp2_with fail
       refine hK.out _ _ ?_ (fun hH2 => ?_)
       · exact HKp.out _ BC.out
       clear hK KP hHeld
       have hHeld := hH2
       clear hH2
       try simp only [Act.put]
       try simp only [List.setIfInBounds_toArray]
       try simp only [List.set_cons_succ, List.set_cons_zero]
       refine anyK_two (i := 7) (j := 11) (by kernel_rfl) rfl rfl (fun KP hK => ?_) (fun KP hK => ?_)
       · skip
         go_simp
         have LW := hid BC.out.size
         skip
         refine (HIP.out _ gp tg1 tg2 RP.out RT1.out RT2.out).mono ?_
         rintro e x7 ⟨vq, cq, rfl, o, b⟩
         rw [HNN.out] at o ⊢
         have OQ := hid o
         have LQ := hid b.size
         replace BC := hid (BC.out.trans (b.mono BC.out.size))
         clear o b
         go_wp2_with fail
         refine hK.out _ _ ?_ (fun hH2 => ?_)
         · exact HKp.out _ BC.out
         clear hK KP hHeld
         have hHeld := hH2
         clear hH2
         try simp only [Act.put]
         try simp only [List.setIfInBounds_toArray]
         try simp only [List.set_cons_succ, List.set_cons_zero]
         refine anyK_take2 (i := 8) (v := ?v27) rfl (by kernel_rfl) (by kernel_rfl) (by kernel_rfl) (by rfl) (fun _ _ _ h => h) (by rfl) hHeld ?hy27 (some 106) (by rfl) ?rest27
         case hy27 => (intro W' hSw; obtain ⟨⟨r0⟩, ⟨s0, s1, s2, s3, s4, s5, s6, s7, s8, s9⟩⟩ := hSw; go_simp; (try with_reducible rfl))
         try simp only [Act.put]
         try simp only [List.setIfInBounds_toArray]
         try simp only [List.set_cons_succ, List.set_cons_zero]
         refine anyK_take2 (i := 9) (v := ?v28) rfl (by kernel_rfl) (by kernel_rfl) (by kernel_rfl) (by rfl) (fun _ _ _ h => h) (by rfl) hHeld ?hy28 (some 115) (by rfl) ?rest28
         case hy28 => (intro W' hSw; obtain ⟨⟨r0⟩, ⟨s0, s1, s2, s3, s4, s5, s6, s7, s8, s9⟩⟩ := hSw; go_simp; (try with_reducible rfl))
         try simp only [Act.put]
         try simp only [List.setIfInBounds_toArray]
         try simp only [List.set_cons_succ, List.set_cons_zero]
         refine anyK_take2 (i := 10) (v := ?v29) rfl (by kernel_rfl) (by kernel_rfl) (by kernel_rfl) (by rfl) (fun _ _ _ h => h) (by rfl) hHeld ?hy29 (some 116) (by rfl) ?rest29
         case hy29 => (intro W' hSw; obtain ⟨⟨r0⟩, ⟨s0, s1, s2, s3, s4, s5, s6, s7, s8, s9⟩⟩ := hSw; go_simp; (try with_reducible rfl))
         try simp only [Act.put]
         try simp only [List.setIfInBounds_toArray]
         try simp only [List.set_cons_succ, List.set_cons_zero]
         refine anyK_step (i := 11) (by kernel_rfl) rfl (fun KP hK => ?_)
         go_simp
         have bZ := Below.alloc1 x7 (.cells #[.slice none 0 0] 26)
         have BXX := hid (Boxed.new x7 26 (.slice none 0 0))
         have ZA := hid (alloc_size x7 (.cells #[.slice none 0 0] 26))
         have LB := hid BC.out.size
         have HPB := hid (show x7.heap.size + 1 ≤ (x7.alloc (.cells #[.slice none 0 0] 26)).heap.size by rw [alloc_size]; exact Nat.le_refl _)
         replace OQ := hid (OQ.out.below bZ (Nat.le_refl _))
         replace BC := hid (BC.out.trans (bZ.mono BC.out.size))
         clear bZ
         refine hK.out _ _ ?_ (fun hH2 => ?_)
         · exact HKp.out _ BC.out
         clear hK KP hHeld
         have hHeld := hH2
         clear hH2
         try simp only [Act.put]
         try simp only [List.setIfInBounds_toArray]
         try simp only [List.set_cons_succ, List.set_cons_zero]
         generalize x7.alloc (.cells #[.slice none 0 0] 26) = xa at *
         obtain ⟨PB, hPB⟩ : ∃ PB, x7.heap.size = PB := ⟨_, rfl⟩
         have HPB2 := hid hPB
         rw [hPB] at BXX HPB
         try simp only [hPB]
         clear hPB
         have r0 := BXX.out.cell
         have r1 := BXX.out.frozen
         have hz : PB < x5.heap.size ∨ x7.heap.size ≤ PB := by have := HPB2.out; have := HPB.out; have := ZA.out; omega
         have hw : w16.heap.size ≤ PB ∧ w16.heap.size ≤ x5.heap.size ∧ x7.heap.size ≤ xa.heap.size := by have := HPB2.out; have := LB.out; have := LW.out; have := HPB.out; have := ZA.out; omega
         have BF := hid (BC.out.setCell (p := ⟨PB, 0, none⟩) hw.1 (.slice vq N cq))
         have OF := hid ((OQ.out.agree (w' := (xa.setCell ⟨PB, 0, none⟩ (.slice vq N cq))) (fun q g1 g2 => heap_set_ne _ PB 0 q (.slice vq N cq) (by omega))).mono (lo' := w16.heap.size) (hi' := (xa.setCell ⟨PB, 0, none⟩ (.slice vq N cq)).heap.size) hw.2.1 (by rw [set_size]; exact hw.2.2))
         have BB := hid (BoxH.mk (BXX.out.set (.slice vq N cq)).cell)
         refine anyK_step (i := 12) (by kernel_rfl) rfl (fun KP hK => ?_)
         go_simp
         refine hK.out _ _ ?_ (fun hH2 => ?_)
         · exact HKp.out _ BF.out
         clear hK KP hHeld
         have hHeld := hH2
         clear hH2
         try simp only [Act.put]
         try simp only [List.setIfInBounds_toArray]
         try simp only [List.set_cons_succ, List.set_cons_zero]
         refine anyK_step (i := 13) (by kernel_rfl) rfl (fun KP hK => ?_)
         go_simp
         refine hK.out _ _ ?_ (fun hH2 => ?_)
         · exact HKp.out _ BF.out
         clear hK KP hHeld
         have hHeld := hH2
         clear hH2
         try simp only [Act.put]
         try simp only [List.setIfInBounds_toArray]
         try simp only [List.set_cons_succ, List.set_cons_zero]
         refine anyK_done (by kernel_rfl) ?_ _
         refine cutQ_normal ⟨PB, vq, cq, (.agg #[.slice a n c]), (.agg #[.slice (some ⟨gp, 0, none⟩) n n]), (.int .i64 x), (.int .i64 y), (.agg #[.int .i64 A, .int .i64 B, .int .i64 K, .int .i64 Nn, .float .f64 f, .slice ta zs.length tc, .int .i64 L, .int .i64 Mm, .float .f64 h2, .slice tb ys.length td]), (.agg #[.int .i64 A, .int .i64 B, .int .i64 K, .int .i64 Nn, .float .f64 f, .slice (some ⟨tg1, 0, none⟩) zs.length zs.length, .int .i64 L, .int .i64 Mm, .float .f64 h2, .slice (some ⟨tg2, 0, none⟩) ys.length ys.length]), (.int .i64 z), (.tuple #[.agg #[.slice vq N cq], .bool OKb]), (.tuple #[.agg #[.slice vq N cq], .bool OKb]), (.agg #[.slice vq N cq]), (.bool OKb), ?_, OF.out, BB.out, BF.out⟩
         rfl
       · skip
         go_simp
         have bZ := Below.alloc1 x5 (.cells #[.slice none 0 0] 26)
         have BXX := hid (Boxed.new x5 26 (.slice none 0 0))
         have ZA := hid (alloc_size x5 (.cells #[.slice none 0 0] 26))
         have LB := hid BC.out.size
         have HPB := hid (show x5.heap.size + 1 ≤ (x5.alloc (.cells #[.slice none 0 0] 26)).heap.size by rw [alloc_size]; exact Nat.le_refl _)
         replace RP := hid (RP.out.below bZ (Nat.le_refl _))
         replace RT1 := hid (RT1.out.below bZ (Nat.le_refl _))
         replace RT2 := hid (RT2.out.below bZ (Nat.le_refl _))
         replace BC := hid (BC.out.trans (bZ.mono BC.out.size))
         clear bZ
         refine hK.out _ _ ?_ (fun hH2 => ?_)
         · exact HKp.out _ BC.out
         clear hK KP hHeld
         have hHeld := hH2
         clear hH2
         try simp only [Act.put]
         try simp only [List.setIfInBounds_toArray]
         try simp only [List.set_cons_succ, List.set_cons_zero]
         generalize x5.alloc (.cells #[.slice none 0 0] 26) = xa at *
         obtain ⟨PB, hPB⟩ : ∃ PB, x5.heap.size = PB := ⟨_, rfl⟩
         have HPB2 := hid hPB
         rw [hPB] at BXX HPB
         try simp only [hPB]
         clear hPB
         refine anyK_step (i := 7) (by kernel_rfl) rfl (fun KP hK => ?_)
         go_simp
         have LW := hid BC.out.size
         have HPL := HPB
         refine (HIP.out _ gp tg1 tg2 RP.out RT1.out RT2.out).mono ?_
         rintro e x7 ⟨vq, cq, rfl, o, b⟩
         rw [HNN.out] at o ⊢
         have OQ := hid o
         replace HPB := hid (Nat.le_trans HPB.out b.size)
         replace BXX := hid (show Boxed _ PB 26 (.slice none 0 0) from (b.block _ BXX.out.lt).trans BXX.out)
         have LQ := hid b.size
         replace BC := hid (BC.out.trans (b.mono BC.out.size))
         clear o b
         go_wp2_with fail
         refine hK.out _ _ ?_ (fun hH2 => ?_)
         · exact HKp.out _ BC.out
         clear hK KP hHeld
         have hHeld := hH2
         clear hH2
         try simp only [Act.put]
         try simp only [List.setIfInBounds_toArray]
         try simp only [List.set_cons_succ, List.set_cons_zero]
         refine anyK_take2 (i := 8) (v := ?v30) rfl (by kernel_rfl) (by kernel_rfl) (by kernel_rfl) (by rfl) (fun _ _ _ h => h) (by rfl) hHeld ?hy30 (some 106) (by rfl) ?rest30
         case hy30 => (intro W' hSw; obtain ⟨⟨r0⟩, ⟨s0, s1, s2, s3, s4, s5, s6, s7, s8, s9⟩⟩ := hSw; go_simp; (try with_reducible rfl))
         try simp only [Act.put]
         try simp only [List.setIfInBounds_toArray]
         try simp only [List.set_cons_succ, List.set_cons_zero]
         refine anyK_take2 (i := 9) (v := ?v31) rfl (by kernel_rfl) (by kernel_rfl) (by kernel_rfl) (by rfl) (fun _ _ _ h => h) (by rfl) hHeld ?hy31 (some 115) (by rfl) ?rest31
         case hy31 => (intro W' hSw; obtain ⟨⟨r0⟩, ⟨s0, s1, s2, s3, s4, s5, s6, s7, s8, s9⟩⟩ := hSw; go_simp; (try with_reducible rfl))
         try simp only [Act.put]
         try simp only [List.setIfInBounds_toArray]
         try simp only [List.set_cons_succ, List.set_cons_zero]
         refine anyK_take2 (i := 10) (v := ?v32) rfl (by kernel_rfl) (by kernel_rfl) (by kernel_rfl) (by rfl) (fun _ _ _ h => h) (by rfl) hHeld ?hy32 (some 116) (by rfl) ?rest32
         case hy32 => (intro W' hSw; obtain ⟨⟨r0⟩, ⟨s0, s1, s2, s3, s4, s5, s6, s7, s8, s9⟩⟩ := hSw; go_simp; (try with_reducible rfl))
         try simp only [Act.put]
         try simp only [List.setIfInBounds_toArray]
         try simp only [List.set_cons_succ, List.set_cons_zero]
         have r0 := BXX.out.cell
         have r1 := BXX.out.frozen
         have hz : PB < xa.heap.size ∨ x7.heap.size ≤ PB := by have := HPL.out; have := HPB2.out; have := HPB.out; have := ZA.out; omega
         have hw : w16.heap.size ≤ PB ∧ w16.heap.size ≤ xa.heap.size ∧ x7.heap.size ≤ x7.heap.size := by have := HPB2.out; have := LB.out; have := LW.out; have := HPB.out; have := ZA.out; omega
         have BF := hid (BC.out.setCell (p := ⟨PB, 0, none⟩) hw.1 (.slice vq N cq))
         have OF := hid ((OQ.out.agree (w' := (x7.setCell ⟨PB, 0, none⟩ (.slice vq N cq))) (fun q g1 g2 => heap_set_ne _ PB 0 q (.slice vq N cq) (by omega))).mono (lo' := w16.heap.size) (hi' := (x7.setCell ⟨PB, 0, none⟩ (.slice vq N cq)).heap.size) hw.2.1 (by rw [set_size]; exact hw.2.2))
         have BB := hid (BoxH.mk (BXX.out.set (.slice vq N cq)).cell)
         refine anyK_step (i := 12) (by kernel_rfl) rfl (fun KP hK => ?_)
         go_simp
         refine hK.out _ _ ?_ (fun hH2 => ?_)
         · exact HKp.out _ BF.out
         clear hK KP hHeld
         have hHeld := hH2
         clear hH2
         try simp only [Act.put]
         try simp only [List.setIfInBounds_toArray]
         try simp only [List.set_cons_succ, List.set_cons_zero]
         refine anyK_step (i := 13) (by kernel_rfl) rfl (fun KP hK => ?_)
         go_simp
         refine hK.out _ _ ?_ (fun hH2 => ?_)
         · exact HKp.out _ BF.out
         clear hK KP hHeld
         have hHeld := hH2
         clear hH2
         try simp only [Act.put]
         try simp only [List.setIfInBounds_toArray]
         try simp only [List.set_cons_succ, List.set_cons_zero]
         refine anyK_done (by kernel_rfl) ?_ _
         refine cutQ_normal ⟨PB, vq, cq, (.agg #[.slice a n c]), (.agg #[.slice (some ⟨gp, 0, none⟩) n n]), (.int .i64 x), (.int .i64 y), (.agg #[.int .i64 A, .int .i64 B, .int .i64 K, .int .i64 Nn, .float .f64 f, .slice ta zs.length tc, .int .i64 L, .int .i64 Mm, .float .f64 h2, .slice tb ys.length td]), (.agg #[.int .i64 A, .int .i64 B, .int .i64 K, .int .i64 Nn, .float .f64 f, .slice (some ⟨tg1, 0, none⟩) zs.length zs.length, .int .i64 L, .int .i64 Mm, .float .f64 h2, .slice (some ⟨tg2, 0, none⟩) ys.length ys.length]), (.int .i64 z), (.tuple #[.agg #[.slice vq N cq], .bool OKb]), (.tuple #[.agg #[.slice vq N cq], .bool OKb]), (.agg #[.slice vq N cq]), (.bool OKb), ?_, OF.out, BB.out, BF.out⟩
         rfl
     · skip
       go_simp
       have bZ := Below.alloc1 x1 (.cells #[.slice none 0 0] 26)
       have BXX := hid (Boxed.new x1 26 (.slice none 0 0))
       have ZA := hid (alloc_size x1 (.cells #[.slice none 0 0] 26))
       have LB := hid BC.out.size
       have HPB := hid (show x1.heap.size + 1 ≤ (x1.alloc (.cells #[.slice none 0 0] 26)).heap.size by rw [alloc_size]; exact Nat.le_refl _)
       replace RP := hid (RP.out.below bZ (Nat.le_refl _))
       replace BC := hid (BC.out.trans (bZ.mono BC.out.size))
       clear bZ
       refine hK.out _ _ ?_ (fun hH2 => ?_)
       · exact HKp.out _ BC.out
       clear hK KP hHeld
       have hHeld := hH2
       clear hH2
       try simp only [Act.put]
       try simp only [List.setIfInBounds_toArray]
       try simp only [List.set_cons_succ, List.set_cons_zero]
       generalize x1.alloc (.cells #[.slice none 0 0] 26) = xa at *
       obtain ⟨PB, hPB⟩ : ∃ PB, x1.heap.size = PB := ⟨_, rfl⟩
       have HPB2 := hid hPB
       rw [hPB] at BXX HPB
       try simp only [hPB]
       clear hPB
       refine anyK_step (i := 5) (by kernel_rfl) rfl (fun KP hK => ?_)
       go_simp
       refine (toTuple A B K Nn f tc L Mm h2 td (HT.out.rk.below BC.out (Nat.le_refl _)) (HT.out.rv.below BC.out (Nat.le_refl _)) (by omega) (by omega)).mono ?_
       rintro e x5 ⟨tg1, tg2, rfl, o1, o2, _, b⟩
       have RT1 := hid (reads_of10 o1 Zbd.out)
       have RT2 := hid (reads_of10 o2 Ybd.out)
       replace RP := hid (RP.out.below b (Nat.le_refl _))
       replace HPB := hid (Nat.le_trans HPB.out b.size)
       replace BXX := hid (show Boxed _ PB 26 (.slice none 0 0) from (b.block _ BXX.out.lt).trans BXX.out)
       replace BC := hid (BC.out.trans (b.mono BC.out.size))
       clear o1 o2 b
       go_wp2_with fail
       refine hK.out _ _ ?_ (fun hH2 => ?_)
       · exact HKp.out _ BC.out
       clear hK KP hHeld
       have hHeld := hH2
       clear hH2
       try simp only [Act.put]
       try simp only [List.setIfInBounds_toArray]
       try simp only [List.set_cons_succ, List.set_cons_zero]
       refine anyK_step (i := 7) (by kernel_rfl) rfl (fun KP hK => ?_)
       go_simp
       have LW := hid BC.out.size
       have HPL := HPB
       refine (HIP.out _ gp tg1 tg2 RP.out RT1.out RT2.out).mono ?_
       rintro e x7 ⟨vq, cq, rfl, o, b⟩
       rw [HNN.out] at o ⊢
       have OQ := hid o
       replace HPB := hid (Nat.le_trans HPB.out b.size)
       replace BXX := hid (show Boxed _ PB 26 (.slice none 0 0) from (b.block _ BXX.out.lt).trans BXX.out)
       have LQ := hid b.size
       replace BC := hid (BC.out.trans (b.mono BC.out.size))
       clear o b
       go_wp2_with fail
       refine hK.out _ _ ?_ (fun hH2 => ?_)
       · exact HKp.out _ BC.out
       clear hK KP hHeld
       have hHeld := hH2
       clear hH2
       try simp only [Act.put]
       try simp only [List.setIfInBounds_toArray]
       try simp only [List.set_cons_succ, List.set_cons_zero]
       refine anyK_take2 (i := 8) (v := ?v33) rfl (by kernel_rfl) (by kernel_rfl) (by kernel_rfl) (by rfl) (fun _ _ _ h => h) (by rfl) hHeld ?hy33 (some 106) (by rfl) ?rest33
       case hy33 => (intro W' hSw; obtain ⟨⟨r0⟩, ⟨s0, s1, s2, s3, s4, s5, s6, s7, s8, s9⟩⟩ := hSw; go_simp; (try with_reducible rfl))
       try simp only [Act.put]
       try simp only [List.setIfInBounds_toArray]
       try simp only [List.set_cons_succ, List.set_cons_zero]
       refine anyK_take2 (i := 9) (v := ?v34) rfl (by kernel_rfl) (by kernel_rfl) (by kernel_rfl) (by rfl) (fun _ _ _ h => h) (by rfl) hHeld ?hy34 (some 115) (by rfl) ?rest34
       case hy34 => (intro W' hSw; obtain ⟨⟨r0⟩, ⟨s0, s1, s2, s3, s4, s5, s6, s7, s8, s9⟩⟩ := hSw; go_simp; (try with_reducible rfl))
       try simp only [Act.put]
       try simp only [List.setIfInBounds_toArray]
       try simp only [List.set_cons_succ, List.set_cons_zero]
       refine anyK_take2 (i := 10) (v := ?v35) rfl (by kernel_rfl) (by kernel_rfl) (by kernel_rfl) (by rfl) (fun _ _ _ h => h) (by rfl) hHeld ?hy35 (some 116) (by rfl) ?rest35
       case hy35 => (intro W' hSw; obtain ⟨⟨r0⟩, ⟨s0, s1, s2, s3, s4, s5, s6, s7, s8, s9⟩⟩ := hSw; go_simp; (try with_reducible rfl))
       try simp only [Act.put]
       try simp only [List.setIfInBounds_toArray]
       try simp only [List.set_cons_succ, List.set_cons_zero]
       have r0 := BXX.out.cell
       have r1 := BXX.out.frozen
       have hz : PB < x5.heap.size ∨ x7.heap.size ≤ PB := by have := HPL.out; have := HPB2.out; have := HPB.out; have := ZA.out; omega
       have hw : w16.heap.size ≤ PB ∧ w16.heap.size ≤ x5.heap.size ∧ x7.heap.size ≤ x7.heap.size := by have := HPB2.out; have := LB.out; have := LW.out; have := HPB.out; have := ZA.out; omega
       have BF := hid (BC.out.setCell (p := ⟨PB, 0, none⟩) hw.1 (.slice vq N cq))
       have OF := hid ((OQ.out.agree (w' := (x7.setCell ⟨PB, 0, none⟩ (.slice vq N cq))) (fun q g1 g2 => heap_set_ne _ PB 0 q (.slice vq N cq) (by omega))).mono (lo' := w16.heap.size) (hi' := (x7.setCell ⟨PB, 0, none⟩ (.slice vq N cq)).heap.size) hw.2.1 (by rw [set_size]; exact hw.2.2))
       have BB := hid (BoxH.mk (BXX.out.set (.slice vq N cq)).cell)
       refine anyK_step (i := 12) (by kernel_rfl) rfl (fun KP hK => ?_)
       go_simp
       refine hK.out _ _ ?_ (fun hH2 => ?_)
       · exact HKp.out _ BF.out
       clear hK KP hHeld
       have hHeld := hH2
       clear hH2
       try simp only [Act.put]
       try simp only [List.setIfInBounds_toArray]
       try simp only [List.set_cons_succ, List.set_cons_zero]
       refine anyK_step (i := 13) (by kernel_rfl) rfl (fun KP hK => ?_)
       go_simp
       refine hK.out _ _ ?_ (fun hH2 => ?_)
       · exact HKp.out _ BF.out
       clear hK KP hHeld
       have hHeld := hH2
       clear hH2
       try simp only [Act.put]
       try simp only [List.setIfInBounds_toArray]
       try simp only [List.set_cons_succ, List.set_cons_zero]
       refine anyK_done (by kernel_rfl) ?_ _
       refine cutQ_normal ⟨PB, vq, cq, (.agg #[.slice a n c]), (.agg #[.slice (some ⟨gp, 0, none⟩) n n]), (.int .i64 x), (.int .i64 y), (.agg #[.int .i64 A, .int .i64 B, .int .i64 K, .int .i64 Nn, .float .f64 f, .slice ta zs.length tc, .int .i64 L, .int .i64 Mm, .float .f64 h2, .slice tb ys.length td]), (.agg #[.int .i64 A, .int .i64 B, .int .i64 K, .int .i64 Nn, .float .f64 f, .slice (some ⟨tg1, 0, none⟩) zs.length zs.length, .int .i64 L, .int .i64 Mm, .float .f64 h2, .slice (some ⟨tg2, 0, none⟩) ys.length ys.length]), (.int .i64 z), (.tuple #[.agg #[.slice vq N cq], .bool OKb]), (.tuple #[.agg #[.slice vq N cq], .bool OKb]), (.agg #[.slice vq N cq]), (.bool OKb), ?_, OF.out, BB.out, BF.out⟩
       rfl
   · skip
     go_simp
     have bZ := Below.alloc1 vd (.cells #[.slice none 0 0] 26)
     have BXX := hid (Boxed.new vd 26 (.slice none 0 0))
     have ZA := hid (alloc_size vd (.cells #[.slice none 0 0] 26))
     have LB := hid BC.out.size
     have HPB := hid (show vd.heap.size + 1 ≤ (vd.alloc (.cells #[.slice none 0 0] 26)).heap.size by rw [alloc_size]; exact Nat.le_refl _)
     replace BC := hid (BC.out.trans (bZ.mono BC.out.size))
     clear bZ
     refine hK.out _ _ ?_ (fun hH2 => ?_)
     · exact HKp.out _ BC.out
     clear hK KP hHeld
     have hHeld := hH2
     clear hH2
     try simp only [Act.put]
     try simp only [List.setIfInBounds_toArray]
     try simp only [List.set_cons_succ, List.set_cons_zero]
     generalize vd.alloc (.cells #[.slice none 0 0] 26) = xa at *
     obtain ⟨PB, hPB⟩ : ∃ PB, vd.heap.size = PB := ⟨_, rfl⟩
     have HPB2 := hid hPB
     rw [hPB] at BXX HPB
     try simp only [hPB]
     clear hPB
     refine anyK_step (i := 1) (by kernel_rfl) rfl (fun KP hK => ?_)
     go_simp
     refine (toHeap c (HA.out.reads.below BC.out (Nat.le_refl _)) hl (by omega) (by omega)).mono ?_
     rintro e x1 ⟨gp, rfl, o, b⟩
     have RP := hid o.rd
     replace HPB := hid (Nat.le_trans HPB.out b.size)
     replace BXX := hid (show Boxed _ PB 26 (.slice none 0 0) from (b.block _ BXX.out.lt).trans BXX.out)
     replace BC := hid (BC.out.trans (b.mono BC.out.size))
     clear o b
     go_wp2_with fail
     refine hK.out _ _ ?_ (fun hH2 => ?_)
     · exact HKp.out _ BC.out
     clear hK KP hHeld
     have hHeld := hH2
     clear hH2
     try simp only [Act.put]
     try simp only [List.setIfInBounds_toArray]
     try simp only [List.set_cons_succ, List.set_cons_zero]
     refine anyK_step (i := 5) (by kernel_rfl) rfl (fun KP hK => ?_)
     go_simp
     refine (toTuple A B K Nn f tc L Mm h2 td (HT.out.rk.below BC.out (Nat.le_refl _)) (HT.out.rv.below BC.out (Nat.le_refl _)) (by omega) (by omega)).mono ?_
     rintro e x5 ⟨tg1, tg2, rfl, o1, o2, _, b⟩
     have RT1 := hid (reads_of10 o1 Zbd.out)
     have RT2 := hid (reads_of10 o2 Ybd.out)
     replace RP := hid (RP.out.below b (Nat.le_refl _))
     replace HPB := hid (Nat.le_trans HPB.out b.size)
     replace BXX := hid (show Boxed _ PB 26 (.slice none 0 0) from (b.block _ BXX.out.lt).trans BXX.out)
     replace BC := hid (BC.out.trans (b.mono BC.out.size))
     clear o1 o2 b
     go_wp2_with fail
     refine hK.out _ _ ?_ (fun hH2 => ?_)
     · exact HKp.out _ BC.out
     clear hK KP hHeld
     have hHeld := hH2
     clear hH2
     try simp only [Act.put]
     try simp only [List.setIfInBounds_toArray]
     try simp only [List.set_cons_succ, List.set_cons_zero]
     refine anyK_step (i := 7) (by kernel_rfl) rfl (fun KP hK => ?_)
     go_simp
     have LW := hid BC.out.size
     have HPL := HPB
     refine (HIP.out _ gp tg1 tg2 RP.out RT1.out RT2.out).mono ?_
     rintro e x7 ⟨vq, cq, rfl, o, b⟩
     rw [HNN.out] at o ⊢
     have OQ := hid o
     replace HPB := hid (Nat.le_trans HPB.out b.size)
     replace BXX := hid (show Boxed _ PB 26 (.slice none 0 0) from (b.block _ BXX.out.lt).trans BXX.out)
     have LQ := hid b.size
     replace BC := hid (BC.out.trans (b.mono BC.out.size))
     clear o b
     go_wp2_with fail
     refine hK.out _ _ ?_ (fun hH2 => ?_)
     · exact HKp.out _ BC.out
     clear hK KP hHeld
     have hHeld := hH2
     clear hH2
     try simp only [Act.put]
     try simp only [List.setIfInBounds_toArray]
     try simp only [List.set_cons_succ, List.set_cons_zero]
     refine anyK_take2 (i := 8) (v := ?v36) rfl (by kernel_rfl) (by kernel_rfl) (by kernel_rfl) (by rfl) (fun _ _ _ h => h) (by rfl) hHeld ?hy36 (some 106) (by rfl) ?rest36
     case hy36 => (intro W' hSw; obtain ⟨⟨r0⟩, ⟨s0, s1, s2, s3, s4, s5, s6, s7, s8, s9⟩⟩ := hSw; go_simp; (try with_reducible rfl))
     try simp only [Act.put]
     try simp only [List.setIfInBounds_toArray]
     try simp only [List.set_cons_succ, List.set_cons_zero]
     refine anyK_take2 (i := 9) (v := ?v37) rfl (by kernel_rfl) (by kernel_rfl) (by kernel_rfl) (by rfl) (fun _ _ _ h => h) (by rfl) hHeld ?hy37 (some 115) (by rfl) ?rest37
     case hy37 => (intro W' hSw; obtain ⟨⟨r0⟩, ⟨s0, s1, s2, s3, s4, s5, s6, s7, s8, s9⟩⟩ := hSw; go_simp; (try with_reducible rfl))
     try simp only [Act.put]
     try simp only [List.setIfInBounds_toArray]
     try simp only [List.set_cons_succ, List.set_cons_zero]
     refine anyK_take2 (i := 10) (v := ?v38) rfl (by kernel_rfl) (by kernel_rfl) (by kernel_rfl) (by rfl) (fun _ _ _ h => h) (by rfl) hHeld ?hy38 (some 116) (by rfl) ?rest38
     case hy38 => (intro W' hSw; obtain ⟨⟨r0⟩, ⟨s0, s1, s2, s3, s4, s5, s6, s7, s8, s9⟩⟩ := hSw; go_simp; (try with_reducible rfl))
     try simp only [Act.put]
     try simp only [List.setIfInBounds_toArray]
     try simp only [List.set_cons_succ, List.set_cons_zero]
     have r0 := BXX.out.cell
     have r1 := BXX.out.frozen
     have hz : PB < x5.heap.size ∨ x7.heap.size ≤ PB := by have := HPL.out; have := HPB2.out; have := HPB.out; have := ZA.out; omega
     have hw : w16.heap.size ≤ PB ∧ w16.heap.size ≤ x5.heap.size ∧ x7.heap.size ≤ x7.heap.size := by have := HPB2.out; have := LB.out; have := LW.out; have := HPB.out; have := ZA.out; omega
     have BF := hid (BC.out.setCell (p := ⟨PB, 0, none⟩) hw.1 (.slice vq N cq))
     have OF := hid ((OQ.out.agree (w' := (x7.setCell ⟨PB, 0, none⟩ (.slice vq N cq))) (fun q g1 g2 => heap_set_ne _ PB 0 q (.slice vq N cq) (by omega))).mono (lo' := w16.heap.size) (hi' := (x7.setCell ⟨PB, 0, none⟩ (.slice vq N cq)).heap.size) hw.2.1 (by rw [set_size]; exact hw.2.2))
     have BB := hid (BoxH.mk (BXX.out.set (.slice vq N cq)).cell)
     refine anyK_step (i := 12) (by kernel_rfl) rfl (fun KP hK => ?_)
     go_simp
     refine hK.out _ _ ?_ (fun hH2 => ?_)
     · exact HKp.out _ BF.out
     clear hK KP hHeld
     have hHeld := hH2
     clear hH2
     try simp only [Act.put]
     try simp only [List.setIfInBounds_toArray]
     try simp only [List.set_cons_succ, List.set_cons_zero]
     refine anyK_step (i := 13) (by kernel_rfl) rfl (fun KP hK => ?_)
     go_simp
     refine hK.out _ _ ?_ (fun hH2 => ?_)
     · exact HKp.out _ BF.out
     clear hK KP hHeld
     have hHeld := hH2
     clear hH2
     try simp only [Act.put]
     try simp only [List.setIfInBounds_toArray]
     try simp only [List.set_cons_succ, List.set_cons_zero]
     refine anyK_done (by kernel_rfl) ?_ _
     refine cutQ_normal ⟨PB, vq, cq, (.agg #[.slice a n c]), (.agg #[.slice (some ⟨gp, 0, none⟩) n n]), (.int .i64 x), (.int .i64 y), (.agg #[.int .i64 A, .int .i64 B, .int .i64 K, .int .i64 Nn, .float .f64 f, .slice ta zs.length tc, .int .i64 L, .int .i64 Mm, .float .f64 h2, .slice tb ys.length td]), (.agg #[.int .i64 A, .int .i64 B, .int .i64 K, .int .i64 Nn, .float .f64 f, .slice (some ⟨tg1, 0, none⟩) zs.length zs.length, .int .i64 L, .int .i64 Mm, .float .f64 h2, .slice (some ⟨tg2, 0, none⟩) ys.length ys.length]), (.int .i64 z), (.tuple #[.agg #[.slice vq N cq], .bool OKb]), (.tuple #[.agg #[.slice vq N cq], .bool OKb]), (.agg #[.slice vq N cq]), (.bool OKb), ?_, OF.out, BB.out, BF.out⟩
     rfl
 rintro a' w17 ⟨GHH, vHH, cHH, u107, u108, u109, u110, u111, u112, u113, u114, u106, u115, u116, rfl, hq, hb, b⟩
 replace HT := hid (HT.out.below b (Nat.le_refl _))
 replace HA := hid (HA.out.below b (Nat.le_refl _))
 replace HQ := hid (HQ.out.below b (by have := SS.out; omega))
 replace BHQ := hid (BHQ.out.below b (Nat.le_refl _))
 replace HG := hid (HG.out.below b (by have := SS.out; omega))
 replace BG := hid (BG.out.below b (Nat.le_refl _))
 replace HC := hid (HC.out.trans (b.mono HC.out.size))
 replace SS := hid (And.intro (b.size) SS.out)
 have HH := hid hq
 have BHH := hid hb
 replace SS := hid (And.intro (BHH.out.lt) SS.out)
 clear hq hb b
 try simp only [Act.put]
 try simp only [List.setIfInBounds_toArray]
 try simp only [List.set_cons_succ, List.set_cons_zero]
 have y0 := (BHH.out).c0
 have y1 := (BHQ.out).c0
 go_wp2_with fail
 clear y0 y1
 refine (eqHeap cHH cHQ HH.out.rd HQ.out.rd HNN.out (by omega) hszb).mono ?_
 rintro e w18 ⟨rfl, b⟩
 replace HT := hid (HT.out.below b (Nat.le_refl _))
 replace HA := hid (HA.out.below b (Nat.le_refl _))
 replace HQ := hid (HQ.out.below b (by have := SS.out; omega))
 replace BHQ := hid (BHQ.out.below b (Nat.le_refl _))
 replace HG := hid (HG.out.below b (by have := SS.out; omega))
 replace BG := hid (BG.out.below b (Nat.le_refl _))
 replace HH := hid (HH.out.below b (by have := SS.out; omega))
 replace BHH := hid (BHH.out.below b (Nat.le_refl _))
 replace HC := hid (HC.out.trans (b.mono HC.out.size))
 replace SS := hid (And.intro (b.size) SS.out)
 clear b
 have y0 := (BG.out).c0
 go_wp2_with fail
 clear y0
 refine (heldHeap cHG 1 HG.out.rd HNN.out (by omega) hszb (by omega) (by omega)).mono ?_
 rintro e w19 ⟨rfl, b⟩
 replace HT := hid (HT.out.below b (Nat.le_refl _))
 replace HA := hid (HA.out.below b (Nat.le_refl _))
 replace HQ := hid (HQ.out.below b (by have := SS.out; omega))
 replace BHQ := hid (BHQ.out.below b (Nat.le_refl _))
 replace HG := hid (HG.out.below b (by have := SS.out; omega))
 replace BG := hid (BG.out.below b (Nat.le_refl _))
 replace HH := hid (HH.out.below b (by have := SS.out; omega))
 replace BHH := hid (BHH.out.below b (Nat.le_refl _))
 replace HC := hid (HC.out.trans (b.mono HC.out.size))
 replace SS := hid (And.intro (b.size) SS.out)
 clear b
 rw [HM.out]
 go_wp2_with fail
 go_ret
 exact ⟨rfl, HB0.out.trans (HC.out.mono HB0.out.size)⟩
end Go.Proofs.YtkfhfjghfadofaaGreat
