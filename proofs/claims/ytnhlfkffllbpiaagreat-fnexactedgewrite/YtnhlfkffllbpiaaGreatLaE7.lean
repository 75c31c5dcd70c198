/- FnExactEdgeWrite's walk, the program's contract being given. Conditions: none but what the arguments' types say. -/
import Derived.Test.YtnhlfkffllbpiaaGreatEy13
namespace Go.Proofs.YtnhlfkffllbpiaaGreat
open Go.RowKit
set_option maxRecDepth 100000
set_option maxHeartbeats 25600000 in
theorem exactEdgeWrite (hS : ∀ {a : Option Addr} {n : Nat} (cap : Nat) {ts : List Tk} (KX NX : Int) (FX : Nat) {ax : Option Addr} {m : Nat} (cx : Nat) {ZX : List Int} {w : World}, ReadsT w a ts → ts.length = n → n ≤ 1048576 → smT ts → lnT ts → ∀ (x : Int), Reads w ax m ZX → FX < 18446744073709551616 → m ≤ 2097152 → (ax = none → cx = 0) → Calls Tryz.prog 6 #[.slice a n cap, .int .i64 x, .agg #[.int .i64 KX, .int .i64 NX, .float .f64 FX, .slice ax m cx]] w fun e w' => AnsE w' (writeS ts x ⟨KX, NX, FX, ZX⟩) (writeC ts x ⟨KX, NX, FX, ZX⟩) e ∧ Below w.heap.size w w')
 (hI : ∀ {a : Option Addr} {n : Nat} (c : Nat) {ts : List Tk} (KX NX : Int) (FX : Nat) {ax : Option Addr} {m : Nat} (cx : Nat) {ZX : List Int} {w : World}, ReadsT w a ts → ts.length = n → n ≤ 1048576 → sumT ts ≤ 1048576 → bdTs ts → ∀ (x : Int), Reads w ax m ZX → FX < 18446744073709551616 → m ≤ 2097152 → Calls Tryz.prog 9 #[.slice a n c, .int .i64 x, .agg #[.int .i64 KX, .int .i64 NX, .float .f64 FX, .slice ax m cx]] w fun e w' => ∃ v, e = .returned (.tuple #[v, .int .i64 (writeC ts x ⟨KX, NX, FX, ZX⟩)]) ∧ OwnT w' w.heap.size w'.heap.size v (writeS ts x ⟨KX, NX, FX, ZX⟩) ∧ Below w.heap.size w w')
 {a : Option Addr} {n : Nat} (c : Nat) {ts : List Tk} (KX NX : Int) (FX : Nat) {ax : Option Addr} {m : Nat} (cx : Nat) {ZX : List Int} {w : World} (h : ReadsT w a ts) (hl : ts.length = n) (hn0 : n ≤ maxLen) (hbd : bdTs ts) (x : Int) (r : Reads w ax m ZX) (hfx : FX < 18446744073709551616) (hmx : m ≤ maxLen) :
 Calls Tryz.prog 3 #[.slice a n c, .int .i64 x, .agg #[.int .i64 KX, .int .i64 NX, .float .f64 FX, .slice ax m cx]] w fun e w' => e = .returned (.bool true) ∧ Below w.heap.size w w' := by
 unfold maxLen at hn0 hmx
 have hst := fun w a m => run_store Tryz.prog w a (.float .f64 FX) m rfl
 have hB := Below.alloc1 w (.cells #[.int .i64 KX, .int .i64 NX, .float .f64 FX, .slice ax m cx] 26)
 have HB := hid hB
 have HA := hid (BoxJ.row (heap_alloc_new w (.cells #[.int .i64 KX, .int .i64 NX, .float .f64 FX, .slice ax m cx] 26)))
 have HL := hid h
 have R1 := hid r
 have HLE := hid r.len
 have BD := hid r.bd
 clear h r
 have S0 := hid (show w.heap.size < (w.alloc (.cells #[.int .i64 KX, .int .i64 NX, .float .f64 FX, .slice ax m cx] 26)).heap.size by rw [alloc_size]; omega)
 clear hB
 go_enter Tryz.func3, Tryz.ntmps3
 go_wp2_with fail
 generalize w.alloc (.cells #[.int .i64 KX, .int .i64 NX, .float .f64 FX, .slice ax m cx] 26) = W0 at *
 refine (szTrackS c (HL.out.below HB.out (Nat.le_refl _)) hl (by omega) 1048576 (by omega) (by omega)).mono ?_
 rintro e w1 ⟨rfl, b⟩
 replace HA := hid (HA.out.below b (by have := S0.out; omega))
 replace HB := hid (HB.out.trans (b.mono HB.out.size))
 have S1 := hid (b.size)
 clear b
 by_cases hbig : (1048576 : Int) < ((n + sumT ts : Nat) : Int)
 · rw [show lft13 1048576 (n + sumT ts) = -1 by unfold lft13; rw [if_pos hbig]]
   go_wp2_with fail
   go_ret
   exact ⟨rfl, HB.out⟩
 obtain ⟨LF, hLF⟩ : ∃ LF : Int, (1048576 : Int) - ((n + sumT ts : Nat) : Int) = LF := ⟨_, rfl⟩
 rw [show lft13 1048576 (n + sumT ts) = LF by unfold lft13; rw [if_neg hbig, hLF]]
 have hq0 : ¬ LF < 0 := by omega
 have hLF1 : LF ≤ 1048576 := by omega
 have hq0' : 0 ≤ LF := by omega
 have hn : n ≤ 1048576 := by omega
 have hsz : sumT ts ≤ 1048576 := by omega
 have HSM := hid (show smT ts from smT_of hsz)
 have HLN := hid (show lnT ts from lnT_of hsz)
 have y0_0 := HA.out.c0
 have y0_1 := HA.out.c1
 have y0_2 := HA.out.c2
 have y0_3 := HA.out.c3
 go_wp2_with fail
 clear y0_0 y0_1 y0_2 y0_3
 refine (szItem KX NX FX ax m cx LF (by omega) hq0' hLF1 _).mono ?_
 rintro e w2 ⟨rfl, b⟩
 replace HA := hid (HA.out.below b (by have := S0.out; have := S1.out; omega))
 replace HB := hid (HB.out.trans (b.mono HB.out.size))
 have S2 := hid (b.size)
 clear b
 by_cases hbig2 : LF < (m : Int)
 · rw [if_pos hbig2]
   go_wp2_with fail
   go_ret
   exact ⟨rfl, HB.out⟩
 obtain ⟨LG, hLG⟩ : ∃ LG : Int, LF - (m : Int) = LG := ⟨_, rfl⟩
 rw [if_neg hbig2, hLG]
 have hq2 : ¬ LG < 0 := by omega
 have hall : n + sumT ts + m ≤ 1048576 := by omega
 clear hbig2 hLG hbig hLF hq0' hLF1 hq0
 go_wp2
 clear hq2
 have b := (Below.refl w2.heap.size w2).drew
 replace HA := hid (HA.out.below b (by have := S0.out; have := S1.out; have := S2.out; omega))
 replace HB := hid (HB.out.trans (b.mono HB.out.size))
 have S3 := hid (b.size)
 clear b
 refine region_K 99 (fun W => BoxJ W w.heap.size KX NX FX (.slice ax m cx)) (by kernel_rfl) ?_ (fun hHeld => ?_)
 · exact HA.out
 generalize w2.drew = v1 at *
 refine anyK_take2 (i := 0) (v := ?v1) rfl (by kernel_rfl) (by kernel_rfl) (by kernel_rfl) (by rfl) (fun _ _ _ h => h) (by rfl) hHeld ?hy1 (some 30) (by rfl) ?rest1
 case hy1 => (intro W hSw; obtain ⟨r0, r1, r2, r3⟩ := hSw; go_simp; (try with_reducible rfl))
 try simp only [Act.put]
 try simp only [List.setIfInBounds_toArray]
 try simp only [List.set_cons_succ, List.set_cons_zero]
 refine anyK_take2 (i := 2) (v := ?v2) rfl (by kernel_rfl) (by kernel_rfl) (by kernel_rfl) (by rfl) (fun _ _ _ h => h) (by rfl) hHeld ?hy2 (some 32) (by rfl) ?rest2
 case hy2 => (intro W hSw; obtain ⟨r0, r1, r2, r3⟩ := hSw; go_simp; (try with_reducible rfl))
 try simp only [Act.put]
 try simp only [List.setIfInBounds_toArray]
 try simp only [List.set_cons_succ, List.set_cons_zero]
 refine anyK_take2 (i := 3) (v := ?v3) rfl (by kernel_rfl) (by kernel_rfl) (by kernel_rfl) (by rfl) (fun _ _ _ h => h) (by rfl) hHeld ?hy3 (some 33) (by rfl) ?rest3
 case hy3 => (intro W hSw; obtain ⟨r0, r1, r2, r3⟩ := hSw; go_simp; (try with_reducible rfl))
 try simp only [Act.put]
 try simp only [List.setIfInBounds_toArray]
 try simp only [List.set_cons_succ, List.set_cons_zero]
 refine anyK_step (i := 1) (by kernel_rfl) rfl (fun KP hK => ?_)
 go_simp
 refine (toTrackS c (HL.out.below HB.out (Nat.le_refl _)) hl (by omega) (by omega)).mono ?_
 rintro e w3 ⟨rfl, o, b⟩
 replace HA := hid (HA.out.below b (by have := S0.out; have := S1.out; have := S2.out; have := S3.out; omega))
 replace HB := hid (HB.out.trans (b.mono HB.out.size))
 have S4 := hid (b.size)
 clear b
 have PS := hid o
 clear o
 go_wp2_with fail
 clear hHeld
 refine hK.out _ _ ?_ (fun hHeld => ?_)
 · exact HA.out
 clear hK KP
 try simp only [Act.put]
 try simp only [List.setIfInBounds_toArray]
 try simp only [List.set_cons_succ, List.set_cons_zero]
 refine anyK_step (i := 4) (by kernel_rfl) rfl (fun KP hK => ?_)
 go_simp
 refine (toItem KX NX FX cx (R1.out.below HB.out (Nat.le_refl _)) (by omega)).mono ?_
 rintro e w4 ⟨pt1, rfl, so1, b⟩
 replace HA := hid (HA.out.below b (by have := S0.out; have := S1.out; have := S2.out; have := S3.out; have := S4.out; omega))
 replace PS := hid (PS.out.below b (by have := S0.out; have := S1.out; have := S2.out; have := S3.out; have := S4.out; omega))
 replace HB := hid (HB.out.trans (b.mono HB.out.size))
 have S5 := hid (b.size)
 clear b
 have PT := hid (show OwnIt w4 w3.heap.size w4.heap.size pt1 m ZX from ⟨so1, (so1.lt _ rfl).2, BD.out⟩)
 clear so1
 go_wp2_with fail
 clear hHeld
 refine hK.out _ _ ?_ (fun hHeld => ?_)
 · exact HA.out
 clear hK KP
 try simp only [Act.put]
 try simp only [List.setIfInBounds_toArray]
 try simp only [List.set_cons_succ, List.set_cons_zero]
 refine anyK_step (i := 5) (by kernel_rfl) rfl (fun KP hK => ?_)
 go_simp
 refine (hS n KX NX FX m PS.out.rd hl hn HSM.out HLN.out x PT.out.r1 hfx (by omega) (fun e => by cases e)).mono ?_
 rintro e w5 ⟨an, b⟩
 replace HA := hid (HA.out.below b (by have := S0.out; have := S1.out; have := S2.out; have := S3.out; have := S4.out; have := S5.out; omega))
 replace PS := hid (PS.out.below b (by have := S0.out; have := S1.out; have := S2.out; have := S3.out; have := S4.out; have := S5.out; omega))
 replace PT := hid (PT.out.below b (by have := S0.out; have := S1.out; have := S2.out; have := S3.out; have := S4.out; have := S5.out; omega))
 replace HB := hid (HB.out.trans (b.mono HB.out.size))
 have S6 := hid (b.size)
 clear b
 clear PS
 clear PT
 obtain ⟨aQ, cQ, rfl, rq⟩ := an
 have hsm := write_small (ts := ts) x ⟨KX, NX, FX, ZX⟩ (b := 1048576) (by rw [hl, HLE.out]; exact hall)
 obtain ⟨R, hR⟩ : ∃ R, writeS ts x ⟨KX, NX, FX, ZX⟩ = R := ⟨_, rfl⟩
 obtain ⟨C, hC⟩ : ∃ C, writeC ts x ⟨KX, NX, FX, ZX⟩ = C := ⟨_, rfl⟩
 rw [hR] at rq hsm ⊢
 rw [hC]
 obtain ⟨N, hN⟩ : ∃ N, R.length = N := ⟨_, rfl⟩
 rw [hN] at hsm ⊢
 have HRC := hid (And.intro hR hC)
 have HN := hid hN
 have HQ0 := hid rq
 have HQ := hid (Below.refl w5.heap.size w5)
 have hCC : (C != C) = false := by simp
 have hNN : N ≤ 2097152 := by omega
 have hsR : sumT R ≤ 2097152 := by omega
 have hU := sumU_le R
 have hU2 := sumU_le ts
 obtain ⟨M, hM⟩ : ∃ M : Int, 1 + (sumU R : Int) = M := ⟨_, rfl⟩
 have HM := hid hM
 have hMn : ¬ M < 0 := by omega
 have hMM : (M != M) = false := by simp
 obtain ⟨KM, hKM⟩ : ∃ KM : Int, 1 + (sumU ts : Int) = KM := ⟨_, rfl⟩
 have HKM := hid hKM
 have hKM0 : 0 ≤ KM := by omega
 have hKM1 : KM ≤ 500000000 := by omega
 obtain ⟨KN, hKN⟩ : ∃ KN : Int, KM + m = KN := ⟨_, rfl⟩
 have HKN := hid hKN
 have hKNn : ¬ KN < 0 := by omega
 clear hsm hR hC hN rq hM hKM hU hU2 hKN
 go_wp2_with fail
 clear hHeld
 refine hK.out _ _ ?_ (fun hHeld => ?_)
 · exact HA.out
 clear hK KP
 try simp only [Act.put]
 try simp only [List.setIfInBounds_toArray]
 try simp only [List.set_cons_succ, List.set_cons_zero]
 refine anyK_take2 (i := 6) (v := ?v4) rfl (by kernel_rfl) (by kernel_rfl) (by kernel_rfl) (by rfl) (fun _ _ _ h => h) (by rfl) hHeld ?hy4 (some 29) (by rfl) ?rest4
 case hy4 => (intro W hSw; obtain ⟨r0, r1, r2, r3⟩ := hSw; go_simp; (try with_reducible rfl))
 try simp only [Act.put]
 try simp only [List.setIfInBounds_toArray]
 try simp only [List.set_cons_succ, List.set_cons_zero]
 refine anyK_take2 (i := 7) (v := ?v5) rfl (by kernel_rfl) (by kernel_rfl) (by kernel_rfl) (by rfl) (fun _ _ _ h => h) (by rfl) hHeld ?hy5 (some 36) (by rfl) ?rest5
 case hy5 => (intro W hSw; obtain ⟨r0, r1, r2, r3⟩ := hSw; go_simp; (try with_reducible rfl))
 try simp only [Act.put]
 try simp only [List.setIfInBounds_toArray]
 try simp only [List.set_cons_succ, List.set_cons_zero]
 refine anyK_take2 (i := 8) (v := ?v6) rfl (by kernel_rfl) (by kernel_rfl) (by kernel_rfl) (by rfl) (fun _ _ _ h => h) (by rfl) hHeld ?hy6 (some 37) (by rfl) ?rest6
 case hy6 => (intro W hSw; obtain ⟨r0, r1, r2, r3⟩ := hSw; go_simp; (try with_reducible rfl))
 try simp only [Act.put]
 try simp only [List.setIfInBounds_toArray]
 try simp only [List.set_cons_succ, List.set_cons_zero]
 refine anyK_take2 (i := 9) (v := ?v7) rfl (by kernel_rfl) (by kernel_rfl) (by kernel_rfl) (by rfl) (fun _ _ _ h => h) (by rfl) hHeld ?hy7 (some 8) (by rfl) ?rest7
 case hy7 => (intro W hSw; obtain ⟨r0, r1, r2, r3⟩ := hSw; go_simp; (try with_reducible rfl))
 try simp only [Act.put]
 try simp only [List.setIfInBounds_toArray]
 try simp only [List.set_cons_succ, List.set_cons_zero]
 refine anyK_take2 (i := 10) (v := ?v8) rfl (by kernel_rfl) (by kernel_rfl) (by kernel_rfl) (by rfl) (fun _ _ _ h => h) (by rfl) hHeld ?hy8 (some 9) (by rfl) ?rest8
 case hy8 => (intro W hSw; obtain ⟨r0, r1, r2, r3⟩ := hSw; go_simp; (try with_reducible rfl))
 try simp only [Act.put]
 try simp only [List.setIfInBounds_toArray]
 try simp only [List.set_cons_succ, List.set_cons_zero]
 refine anyK_done (by kernel_rfl) ?_ _
 clear hHeld
 go_wp2_with fail
 refine (toTrackS c (HL.out.below HB.out (Nat.le_refl _)) hl (by omega) (by omega)).mono ?_
 rintro e w6 ⟨rfl, o, b⟩
 replace HA := hid (HA.out.below b (by have := S0.out; have := S1.out; have := S2.out; have := S3.out; have := S4.out; have := S5.out; have := S6.out; omega))
 replace HB := hid (HB.out.trans (b.mono HB.out.size))
 replace HQ := hid (HQ.out.trans (b.mono HQ.out.size))
 have S7 := hid (b.size)
 clear b
 have HX := hid o
 clear o
 have y0_0 := HA.out.c0
 have y0_1 := HA.out.c1
 have y0_2 := HA.out.c2
 have y0_3 := HA.out.c3
 go_wp2_with fail
 clear y0_0 y0_1 y0_2 y0_3
 refine (toItem KX NX FX cx (R1.out.below HB.out (Nat.le_refl _)) (by omega)).mono ?_
 rintro e w7 ⟨hs1, rfl, so1, b⟩
 replace HA := hid (HA.out.below b (by have := S0.out; have := S1.out; have := S2.out; have := S3.out; have := S4.out; have := S5.out; have := S6.out; have := S7.out; omega))
 replace HX := hid (HX.out.below b (by have := S0.out; have := S1.out; have := S2.out; have := S3.out; have := S4.out; have := S5.out; have := S6.out; have := S7.out; omega))
 replace HB := hid (HB.out.trans (b.mono HB.out.size))
 replace HQ := hid (HQ.out.trans (b.mono HQ.out.size))
 have S8 := hid (b.size)
 clear b
 have HS := hid (show OwnIt w7 w6.heap.size w7.heap.size hs1 m ZX from ⟨so1, (so1.lt _ rfl).2, BD.out⟩)
 clear so1
 have BX := hid (BoxJ.row (heap_alloc_new w7 (.cells #[.int .i64 KX, .int .i64 NX, .float .f64 FX, .slice (some ⟨hs1, 0, none⟩) m m] 33)))
 have b := Below.alloc1 w7 (.cells #[.int .i64 KX, .int .i64 NX, .float .f64 FX, .slice (some ⟨hs1, 0, none⟩) m m] 33)
 have SA := hid (alloc_size w7 (.cells #[.int .i64 KX, .int .i64 NX, .float .f64 FX, .slice (some ⟨hs1, 0, none⟩) m m] 33))
 replace HA := hid (HA.out.below b (by have := S0.out; have := S1.out; have := S2.out; have := S3.out; have := S4.out; have := S5.out; have := S6.out; have := S7.out; have := S8.out; omega))
 replace HX := hid (HX.out.below b (by have := S0.out; have := S1.out; have := S2.out; have := S3.out; have := S4.out; have := S5.out; have := S6.out; have := S7.out; have := S8.out; omega))
 replace HS := hid (HS.out.below b (by have := S0.out; have := S1.out; have := S2.out; have := S3.out; have := S4.out; have := S5.out; have := S6.out; have := S7.out; have := S8.out; omega))
 replace HB := hid (HB.out.trans (b.mono HB.out.size))
 replace HQ := hid (HQ.out.trans (b.mono HQ.out.size))
 have S9 := hid (b.size)
 clear b
 have y0_0 := BX.out.c0
 have y0_1 := BX.out.c1
 have y0_2 := BX.out.c2
 have y0_3 := BX.out.c3
 go_wp2_with fail
 clear y0_0 y0_1 y0_2 y0_3
 generalize w7.alloc (.cells #[.int .i64 KX, .int .i64 NX, .float .f64 FX, .slice (some ⟨hs1, 0, none⟩) m m] 33) = W1 at *
 obtain ⟨gx, hgx⟩ : ∃ gx, w7.heap.size = gx := ⟨_, rfl⟩
 have HGX := hid hgx
 rw [hgx] at BX
 try simp only [hgx]
 clear hgx
 refine (hI n KX NX FX m HX.out.rd hl hn hsz hbd x HS.out.r1 hfx (by omega)).mono ?_
 rintro e w8 ⟨v, rfl, o, b⟩
 replace HA := hid (HA.out.below b (by have := S0.out; have := S1.out; have := S2.out; have := S3.out; have := S4.out; have := S5.out; have := S6.out; have := S7.out; have := S8.out; have := S9.out; have := SA.out; have := HGX.out; omega))
 replace HX := hid (HX.out.below b (by have := S0.out; have := S1.out; have := S2.out; have := S3.out; have := S4.out; have := S5.out; have := S6.out; have := S7.out; have := S8.out; have := S9.out; have := SA.out; have := HGX.out; omega))
 replace HS := hid (HS.out.below b (by have := S0.out; have := S1.out; have := S2.out; have := S3.out; have := S4.out; have := S5.out; have := S6.out; have := S7.out; have := S8.out; have := S9.out; have := SA.out; have := HGX.out; omega))
 replace BX := hid (BX.out.below b (by have := S0.out; have := S1.out; have := S2.out; have := S3.out; have := S4.out; have := S5.out; have := S6.out; have := S7.out; have := S8.out; have := S9.out; have := SA.out; have := HGX.out; omega))
 replace HB := hid (HB.out.trans (b.mono HB.out.size))
 replace HQ := hid (HQ.out.trans (b.mono HQ.out.size))
 have S12 := hid (b.size)
 clear b
 rw [HRC.out.1] at o
 rw [HRC.out.2]
 obtain ⟨aHG, cHG, e1⟩ := o.slice
 rw [HN.out] at e1
 subst e1
 have HG := hid o
 clear o
 go_wp2_with fail
 refine (eqTrackS cHG cQ HG.out.rd (HQ0.out.below HQ.out (Nat.le_refl _)) (SameT.refl _) HN.out hNN hsR).mono ?_
 rintro e w9 ⟨rfl, b⟩
 replace HA := hid (HA.out.below b (by have := S0.out; have := S1.out; have := S2.out; have := S3.out; have := S4.out; have := S5.out; have := S6.out; have := S7.out; have := S8.out; have := S9.out; have := SA.out; have := HGX.out; have := S12.out; omega))
 replace HX := hid (HX.out.below b (by have := S0.out; have := S1.out; have := S2.out; have := S3.out; have := S4.out; have := S5.out; have := S6.out; have := S7.out; have := S8.out; have := S9.out; have := SA.out; have := HGX.out; have := S12.out; omega))
 replace HS := hid (HS.out.below b (by have := S0.out; have := S1.out; have := S2.out; have := S3.out; have := S4.out; have := S5.out; have := S6.out; have := S7.out; have := S8.out; have := S9.out; have := SA.out; have := HGX.out; have := S12.out; omega))
 replace BX := hid (BX.out.below b (by have := S0.out; have := S1.out; have := S2.out; have := S3.out; have := S4.out; have := S5.out; have := S6.out; have := S7.out; have := S8.out; have := S9.out; have := SA.out; have := HGX.out; have := S12.out; omega))
 replace HG := hid (HG.out.below b (by have := S0.out; have := S1.out; have := S2.out; have := S3.out; have := S4.out; have := S5.out; have := S6.out; have := S7.out; have := S8.out; have := S9.out; have := SA.out; have := HGX.out; have := S12.out; omega))
 replace HB := hid (HB.out.trans (b.mono HB.out.size))
 replace HQ := hid (HQ.out.trans (b.mono HQ.out.size))
 have S13 := hid (b.size)
 clear b
 go_wp2_with fail
 refine (toTrackS c (HL.out.below HB.out (Nat.le_refl _)) hl (by omega) (by omega)).mono ?_
 rintro e w10 ⟨rfl, o, b⟩
 replace HA := hid (HA.out.below b (by have := S0.out; have := S1.out; have := S2.out; have := S3.out; have := S4.out; have := S5.out; have := S6.out; have := S7.out; have := S8.out; have := S9.out; have := SA.out; have := HGX.out; have := S12.out; have := S13.out; omega))
 replace HX := hid (HX.out.below b (by have := S0.out; have := S1.out; have := S2.out; have := S3.out; have := S4.out; have := S5.out; have := S6.out; have := S7.out; have := S8.out; have := S9.out; have := SA.out; have := HGX.out; have := S12.out; have := S13.out; omega))
 replace HS := hid (HS.out.below b (by have := S0.out; have := S1.out; have := S2.out; have := S3.out; have := S4.out; have := S5.out; have := S6.out; have := S7.out; have := S8.out; have := S9.out; have := SA.out; have := HGX.out; have := S12.out; have := S13.out; omega))
 replace BX := hid (BX.out.below b (by have := S0.out; have := S1.out; have := S2.out; have := S3.out; have := S4.out; have := S5.out; have := S6.out; have := S7.out; have := S8.out; have := S9.out; have := SA.out; have := HGX.out; have := S12.out; have := S13.out; omega))
 replace HG := hid (HG.out.below b (by have := S0.out; have := S1.out; have := S2.out; have := S3.out; have := S4.out; have := S5.out; have := S6.out; have := S7.out; have := S8.out; have := S9.out; have := SA.out; have := HGX.out; have := S12.out; have := S13.out; omega))
 replace HB := hid (HB.out.trans (b.mono HB.out.size))
 replace HQ := hid (HQ.out.trans (b.mono HQ.out.size))
 have S14 := hid (b.size)
 clear b
 have PY := hid o
 clear o
 go_wp2_with fail
 refine (eqTrackS n n HX.out.rd PY.out.rd (SameT.refl _) hl (by omega) (by omega)).mono ?_
 rintro e w11 ⟨rfl, b⟩
 replace HA := hid (HA.out.below b (by have := S0.out; have := S1.out; have := S2.out; have := S3.out; have := S4.out; have := S5.out; have := S6.out; have := S7.out; have := S8.out; have := S9.out; have := SA.out; have := HGX.out; have := S12.out; have := S13.out; have := S14.out; omega))
 replace HX := hid (HX.out.below b (by have := S0.out; have := S1.out; have := S2.out; have := S3.out; have := S4.out; have := S5.out; have := S6.out; have := S7.out; have := S8.out; have := S9.out; have := SA.out; have := HGX.out; have := S12.out; have := S13.out; have := S14.out; omega))
 replace HS := hid (HS.out.below b (by have := S0.out; have := S1.out; have := S2.out; have := S3.out; have := S4.out; have := S5.out; have := S6.out; have := S7.out; have := S8.out; have := S9.out; have := SA.out; have := HGX.out; have := S12.out; have := S13.out; have := S14.out; omega))
 replace BX := hid (BX.out.below b (by have := S0.out; have := S1.out; have := S2.out; have := S3.out; have := S4.out; have := S5.out; have := S6.out; have := S7.out; have := S8.out; have := S9.out; have := SA.out; have := HGX.out; have := S12.out; have := S13.out; have := S14.out; omega))
 replace HG := hid (HG.out.below b (by have := S0.out; have := S1.out; have := S2.out; have := S3.out; have := S4.out; have := S5.out; have := S6.out; have := S7.out; have := S8.out; have := S9.out; have := SA.out; have := HGX.out; have := S12.out; have := S13.out; have := S14.out; omega))
 replace PY := hid (PY.out.below b (by have := S0.out; have := S1.out; have := S2.out; have := S3.out; have := S4.out; have := S5.out; have := S6.out; have := S7.out; have := S8.out; have := S9.out; have := SA.out; have := HGX.out; have := S12.out; have := S13.out; have := S14.out; omega))
 replace HB := hid (HB.out.trans (b.mono HB.out.size))
 replace HQ := hid (HQ.out.trans (b.mono HQ.out.size))
 have S15 := hid (b.size)
 clear b
 clear PY
 go_wp2
 have b := (Below.refl w11.heap.size w11).drew
 replace HA := hid (HA.out.below b (by have := S0.out; have := S1.out; have := S2.out; have := S3.out; have := S4.out; have := S5.out; have := S6.out; have := S7.out; have := S8.out; have := S9.out; have := SA.out; have := HGX.out; have := S12.out; have := S13.out; have := S14.out; have := S15.out; omega))
 replace HX := hid (HX.out.below b (by have := S0.out; have := S1.out; have := S2.out; have := S3.out; have := S4.out; have := S5.out; have := S6.out; have := S7.out; have := S8.out; have := S9.out; have := SA.out; have := HGX.out; have := S12.out; have := S13.out; have := S14.out; have := S15.out; omega))
 replace HS := hid (HS.out.below b (by have := S0.out; have := S1.out; have := S2.out; have := S3.out; have := S4.out; have := S5.out; have := S6.out; have := S7.out; have := S8.out; have := S9.out; have := SA.out; have := HGX.out; have := S12.out; have := S13.out; have := S14.out; have := S15.out; omega))
 replace BX := hid (BX.out.below b (by have := S0.out; have := S1.out; have := S2.out; have := S3.out; have := S4.out; have := S5.out; have := S6.out; have := S7.out; have := S8.out; have := S9.out; have := SA.out; have := HGX.out; have := S12.out; have := S13.out; have := S14.out; have := S15.out; omega))
 replace HG := hid (HG.out.below b (by have := S0.out; have := S1.out; have := S2.out; have := S3.out; have := S4.out; have := S5.out; have := S6.out; have := S7.out; have := S8.out; have := S9.out; have := SA.out; have := HGX.out; have := S12.out; have := S13.out; have := S14.out; have := S15.out; omega))
 replace HB := hid (HB.out.trans (b.mono HB.out.size))
 replace HQ := hid (HQ.out.trans (b.mono HQ.out.size))
 have S16 := hid (b.size)
 clear b
 refine region_K 99 (fun W => BoxJ W w.heap.size KX NX FX (.slice ax m cx) ∧ BoxJ W gx KX NX FX (.slice (some ⟨hs1, 0, none⟩) m m)) (by kernel_rfl) ?_ (fun hHeld => ?_)
 · exact ⟨HA.out, BX.out⟩
 generalize w11.drew = v2 at *
 refine anyK_take2 (i := 0) (v := ?v9) rfl (by kernel_rfl) (by kernel_rfl) (by kernel_rfl) (by rfl) (fun _ _ _ h => h) (by rfl) hHeld ?hy9 (some 63) (by rfl) ?rest9
 case hy9 => (intro W hSw; obtain ⟨⟨r0, r1, r2, r3⟩, ⟨s0, s1, s2, s3⟩⟩ := hSw; go_simp; (try with_reducible rfl))
 try simp only [Act.put]
 try simp only [List.setIfInBounds_toArray]
 try simp only [List.set_cons_succ, List.set_cons_zero]
 refine anyK_take2 (i := 1) (v := ?v10) rfl (by kernel_rfl) (by kernel_rfl) (by kernel_rfl) (by rfl) (fun _ _ _ h => h) (by rfl) hHeld ?hy10 (some 64) (by rfl) ?rest10
 case hy10 => (intro W hSw; obtain ⟨⟨r0, r1, r2, r3⟩, ⟨s0, s1, s2, s3⟩⟩ := hSw; go_simp; (try with_reducible rfl))
 try simp only [Act.put]
 try simp only [List.setIfInBounds_toArray]
 try simp only [List.set_cons_succ, List.set_cons_zero]
 refine anyK_step (i := 2) (by kernel_rfl) rfl (fun KP hK => ?_)
 go_simp
 refine (toItem KX NX FX cx (R1.out.below HB.out (Nat.le_refl _)) (by omega)).mono ?_
 rintro e w12 ⟨pz1, rfl, so1, b⟩
 replace HA := hid (HA.out.below b (by have := S0.out; have := S1.out; have := S2.out; have := S3.out; have := S4.out; have := S5.out; have := S6.out; have := S7.out; have := S8.out; have := S9.out; have := SA.out; have := HGX.out; have := S12.out; have := S13.out; have := S14.out; have := S15.out; have := S16.out; omega))
 replace HX := hid (HX.out.below b (by have := S0.out; have := S1.out; have := S2.out; have := S3.out; have := S4.out; have := S5.out; have := S6.out; have := S7.out; have := S8.out; have := S9.out; have := SA.out; have := HGX.out; have := S12.out; have := S13.out; have := S14.out; have := S15.out; have := S16.out; omega))
 replace HS := hid (HS.out.below b (by have := S0.out; have := S1.out; have := S2.out; have := S3.out; have := S4.out; have := S5.out; have := S6.out; have := S7.out; have := S8.out; have := S9.out; have := SA.out; have := HGX.out; have := S12.out; have := S13.out; have := S14.out; have := S15.out; have := S16.out; omega))
 replace BX := hid (BX.out.below b (by have := S0.out; have := S1.out; have := S2.out; have := S3.out; have := S4.out; have := S5.out; have := S6.out; have := S7.out; have := S8.out; have := S9.out; have := SA.out; have := HGX.out; have := S12.out; have := S13.out; have := S14.out; have := S15.out; have := S16.out; omega))
 replace HG := hid (HG.out.below b (by have := S0.out; have := S1.out; have := S2.out; have := S3.out; have := S4.out; have := S5.out; have := S6.out; have := S7.out; have := S8.out; have := S9.out; have := SA.out; have := HGX.out; have := S12.out; have := S13.out; have := S14.out; have := S15.out; have := S16.out; omega))
 replace HB := hid (HB.out.trans (b.mono HB.out.size))
 replace HQ := hid (HQ.out.trans (b.mono HQ.out.size))
 have S17 := hid (b.size)
 clear b
 have PZ := hid (show OwnIt w12 v2.heap.size w12.heap.size pz1 m ZX from ⟨so1, (so1.lt _ rfl).2, BD.out⟩)
 clear so1
 go_wp2_with fail
 clear hHeld
 refine hK.out _ _ ?_ (fun hHeld => ?_)
 · exact ⟨HA.out, BX.out⟩
 clear hK KP
 try simp only [Act.put]
 try simp only [List.setIfInBounds_toArray]
 try simp only [List.set_cons_succ, List.set_cons_zero]
 refine anyK_step (i := 3) (by kernel_rfl) rfl (fun KP hK => ?_)
 go_simp
 refine (eqItem KX NX FX FX m m hfx hfx (Same.refl _) HS.out.r1 PZ.out.r1 (by omega)).mono ?_
 rintro e w13 ⟨rfl, b⟩
 replace HA := hid (HA.out.below b (by have := S0.out; have := S1.out; have := S2.out; have := S3.out; have := S4.out; have := S5.out; have := S6.out; have := S7.out; have := S8.out; have := S9.out; have := SA.out; have := HGX.out; have := S12.out; have := S13.out; have := S14.out; have := S15.out; have := S16.out; have := S17.out; omega))
 replace HX := hid (HX.out.below b (by have := S0.out; have := S1.out; have := S2.out; have := S3.out; have := S4.out; have := S5.out; have := S6.out; have := S7.out; have := S8.out; have := S9.out; have := SA.out; have := HGX.out; have := S12.out; have := S13.out; have := S14.out; have := S15.out; have := S16.out; have := S17.out; omega))
 replace HS := hid (HS.out.below b (by have := S0.out; have := S1.out; have := S2.out; have := S3.out; have := S4.out; have := S5.out; have := S6.out; have := S7.out; have := S8.out; have := S9.out; have := SA.out; have := HGX.out; have := S12.out; have := S13.out; have := S14.out; have := S15.out; have := S16.out; have := S17.out; omega))
 replace BX := hid (BX.out.below b (by have := S0.out; have := S1.out; have := S2.out; have := S3.out; have := S4.out; have := S5.out; have := S6.out; have := S7.out; have := S8.out; have := S9.out; have := SA.out; have := HGX.out; have := S12.out; have := S13.out; have := S14.out; have := S15.out; have := S16.out; have := S17.out; omega))
 replace HG := hid (HG.out.below b (by have := S0.out; have := S1.out; have := S2.out; have := S3.out; have := S4.out; have := S5.out; have := S6.out; have := S7.out; have := S8.out; have := S9.out; have := SA.out; have := HGX.out; have := S12.out; have := S13.out; have := S14.out; have := S15.out; have := S16.out; have := S17.out; omega))
 replace PZ := hid (PZ.out.below b (by have := S0.out; have := S1.out; have := S2.out; have := S3.out; have := S4.out; have := S5.out; have := S6.out; have := S7.out; have := S8.out; have := S9.out; have := SA.out; have := HGX.out; have := S12.out; have := S13.out; have := S14.out; have := S15.out; have := S16.out; have := S17.out; omega))
 replace HB := hid (HB.out.trans (b.mono HB.out.size))
 replace HQ := hid (HQ.out.trans (b.mono HQ.out.size))
 have S18 := hid (b.size)
 clear b
 clear PZ
 go_wp2_with fail
 clear hHeld
 refine hK.out _ _ ?_ (fun hHeld => ?_)
 · exact ⟨HA.out, BX.out⟩
 clear hK KP
 try simp only [Act.put]
 try simp only [List.setIfInBounds_toArray]
 try simp only [List.set_cons_succ, List.set_cons_zero]
 refine anyK_step (i := 4) (by kernel_rfl) rfl (fun KP hK => ?_)
 go_simp
 clear hHeld
 refine hK.out _ _ ?_ (fun hHeld => ?_)
 · exact ⟨HA.out, BX.out⟩
 clear hK KP
 try simp only [Act.put]
 try simp only [List.setIfInBounds_toArray]
 try simp only [List.set_cons_succ, List.set_cons_zero]
 refine anyK_done (by kernel_rfl) ?_ _
 clear hHeld
 go_wp2_with fail
 refine (markTrackS_own n 1 HX.out hl (by omega) (by omega) (by omega) (by omega)).mono ?_
 rintro e w14 ⟨rfl, -, G⟩
 replace HB := hid (HB.out.trans ((G.below (by have := S0.out; have := S1.out; have := S2.out; have := S3.out; have := S4.out; have := S5.out; have := S6.out; have := S7.out; have := S8.out; have := S9.out; have := SA.out; have := HGX.out; have := S12.out; have := S13.out; have := S14.out; have := S15.out; have := S16.out; have := S17.out; have := S18.out; omega)).mono (by have := S0.out; have := S1.out; have := S2.out; have := S3.out; have := S4.out; have := S5.out; have := S6.out; have := S7.out; have := S8.out; have := S9.out; have := SA.out; have := HGX.out; have := S12.out; have := S13.out; have := S14.out; have := S15.out; have := S16.out; have := S17.out; have := S18.out; omega)))
 replace HQ := hid (HQ.out.trans ((G.below (by have := S0.out; have := S1.out; have := S2.out; have := S3.out; have := S4.out; have := S5.out; have := S6.out; have := S7.out; have := S8.out; have := S9.out; have := SA.out; have := HGX.out; have := S12.out; have := S13.out; have := S14.out; have := S15.out; have := S16.out; have := S17.out; have := S18.out; omega)).mono (by have := S0.out; have := S1.out; have := S2.out; have := S3.out; have := S4.out; have := S5.out; have := S6.out; have := S7.out; have := S8.out; have := S9.out; have := SA.out; have := HGX.out; have := S12.out; have := S13.out; have := S14.out; have := S15.out; have := S16.out; have := S17.out; have := S18.out; omega)))
 replace HA := hid (HA.out.agree (G.agree (by have := S0.out; have := S1.out; have := S2.out; have := S3.out; have := S4.out; have := S5.out; have := S6.out; have := S7.out; have := S8.out; have := S9.out; have := SA.out; have := HGX.out; have := S12.out; have := S13.out; have := S14.out; have := S15.out; have := S16.out; have := S17.out; have := S18.out; omega) (by have := S0.out; have := S1.out; have := S2.out; have := S3.out; have := S4.out; have := S5.out; have := S6.out; have := S7.out; have := S8.out; have := S9.out; have := SA.out; have := HGX.out; have := S12.out; have := S13.out; have := S14.out; have := S15.out; have := S16.out; have := S17.out; have := S18.out; omega)))
 replace HS := hid (HS.out.agree (G.agree (by have := S0.out; have := S1.out; have := S2.out; have := S3.out; have := S4.out; have := S5.out; have := S6.out; have := S7.out; have := S8.out; have := S9.out; have := SA.out; have := HGX.out; have := S12.out; have := S13.out; have := S14.out; have := S15.out; have := S16.out; have := S17.out; have := S18.out; omega) (by have := S0.out; have := S1.out; have := S2.out; have := S3.out; have := S4.out; have := S5.out; have := S6.out; have := S7.out; have := S8.out; have := S9.out; have := SA.out; have := HGX.out; have := S12.out; have := S13.out; have := S14.out; have := S15.out; have := S16.out; have := S17.out; have := S18.out; omega)))
 replace BX := hid (BX.out.agree (G.agree (by have := S0.out; have := S1.out; have := S2.out; have := S3.out; have := S4.out; have := S5.out; have := S6.out; have := S7.out; have := S8.out; have := S9.out; have := SA.out; have := HGX.out; have := S12.out; have := S13.out; have := S14.out; have := S15.out; have := S16.out; have := S17.out; have := S18.out; omega) (by have := S0.out; have := S1.out; have := S2.out; have := S3.out; have := S4.out; have := S5.out; have := S6.out; have := S7.out; have := S8.out; have := S9.out; have := SA.out; have := HGX.out; have := S12.out; have := S13.out; have := S14.out; have := S15.out; have := S16.out; have := S17.out; have := S18.out; omega)))
 replace HG := hid (HG.out.agree (G.agree (by have := S0.out; have := S1.out; have := S2.out; have := S3.out; have := S4.out; have := S5.out; have := S6.out; have := S7.out; have := S8.out; have := S9.out; have := SA.out; have := HGX.out; have := S12.out; have := S13.out; have := S14.out; have := S15.out; have := S16.out; have := S17.out; have := S18.out; omega) (by have := S0.out; have := S1.out; have := S2.out; have := S3.out; have := S4.out; have := S5.out; have := S6.out; have := S7.out; have := S8.out; have := S9.out; have := SA.out; have := HGX.out; have := S12.out; have := S13.out; have := S14.out; have := S15.out; have := S16.out; have := S17.out; have := S18.out; omega)))
 have S19 := hid (G.size)
 clear G
 clear HX
 rw [HKM.out]
 have y0_0 := BX.out.c0
 have y0_1 := BX.out.c1
 have y0_2 := BX.out.c2
 have y0_3 := BX.out.c3
 go_wp2_with fail
 clear y0_0 y0_1 y0_2 y0_3
 refine (markItem_own KX NX FX KM HS.out (by omega) hKM0 hKM1).mono ?_
 rintro e w15 ⟨rfl, G⟩
 replace HB := hid (HB.out.trans ((G.below (by have := S0.out; have := S1.out; have := S2.out; have := S3.out; have := S4.out; have := S5.out; have := S6.out; have := S7.out; have := S8.out; have := S9.out; have := SA.out; have := HGX.out; have := S12.out; have := S13.out; have := S14.out; have := S15.out; have := S16.out; have := S17.out; have := S18.out; have := S19.out; omega)).mono (by have := S0.out; have := S1.out; have := S2.out; have := S3.out; have := S4.out; have := S5.out; have := S6.out; have := S7.out; have := S8.out; have := S9.out; have := SA.out; have := HGX.out; have := S12.out; have := S13.out; have := S14.out; have := S15.out; have := S16.out; have := S17.out; have := S18.out; have := S19.out; omega)))
 replace HQ := hid (HQ.out.trans ((G.below (by have := S0.out; have := S1.out; have := S2.out; have := S3.out; have := S4.out; have := S5.out; have := S6.out; have := S7.out; have := S8.out; have := S9.out; have := SA.out; have := HGX.out; have := S12.out; have := S13.out; have := S14.out; have := S15.out; have := S16.out; have := S17.out; have := S18.out; have := S19.out; omega)).mono (by have := S0.out; have := S1.out; have := S2.out; have := S3.out; have := S4.out; have := S5.out; have := S6.out; have := S7.out; have := S8.out; have := S9.out; have := SA.out; have := HGX.out; have := S12.out; have := S13.out; have := S14.out; have := S15.out; have := S16.out; have := S17.out; have := S18.out; have := S19.out; omega)))
 replace HA := hid (HA.out.agree (G.agree (by have := S0.out; have := S1.out; have := S2.out; have := S3.out; have := S4.out; have := S5.out; have := S6.out; have := S7.out; have := S8.out; have := S9.out; have := SA.out; have := HGX.out; have := S12.out; have := S13.out; have := S14.out; have := S15.out; have := S16.out; have := S17.out; have := S18.out; have := S19.out; omega) (by have := S0.out; have := S1.out; have := S2.out; have := S3.out; have := S4.out; have := S5.out; have := S6.out; have := S7.out; have := S8.out; have := S9.out; have := SA.out; have := HGX.out; have := S12.out; have := S13.out; have := S14.out; have := S15.out; have := S16.out; have := S17.out; have := S18.out; have := S19.out; omega)))
 replace BX := hid (BX.out.agree (G.agree (by have := S0.out; have := S1.out; have := S2.out; have := S3.out; have := S4.out; have := S5.out; have := S6.out; have := S7.out; have := S8.out; have := S9.out; have := SA.out; have := HGX.out; have := S12.out; have := S13.out; have := S14.out; have := S15.out; have := S16.out; have := S17.out; have := S18.out; have := S19.out; omega) (by have := S0.out; have := S1.out; have := S2.out; have := S3.out; have := S4.out; have := S5.out; have := S6.out; have := S7.out; have := S8.out; have := S9.out; have := SA.out; have := HGX.out; have := S12.out; have := S13.out; have := S14.out; have := S15.out; have := S16.out; have := S17.out; have := S18.out; have := S19.out; omega)))
 replace HG := hid (HG.out.agree (G.agree (by have := S0.out; have := S1.out; have := S2.out; have := S3.out; have := S4.out; have := S5.out; have := S6.out; have := S7.out; have := S8.out; have := S9.out; have := SA.out; have := HGX.out; have := S12.out; have := S13.out; have := S14.out; have := S15.out; have := S16.out; have := S17.out; have := S18.out; have := S19.out; omega) (by have := S0.out; have := S1.out; have := S2.out; have := S3.out; have := S4.out; have := S5.out; have := S6.out; have := S7.out; have := S8.out; have := S9.out; have := SA.out; have := HGX.out; have := S12.out; have := S13.out; have := S14.out; have := S15.out; have := S16.out; have := S17.out; have := S18.out; have := S19.out; omega)))
 have S20 := hid (G.size)
 clear G
 clear HS
 rw [HKN.out]
 clear BX
 go_wp2_with fail
 refine (eqTrackS cHG cQ HG.out.rd (HQ0.out.below HQ.out (Nat.le_refl _)) (SameT.refl _) HN.out hNN hsR).mono ?_
 rintro e w16 ⟨rfl, b⟩
 replace HA := hid (HA.out.below b (by have := S0.out; have := S1.out; have := S2.out; have := S3.out; have := S4.out; have := S5.out; have := S6.out; have := S7.out; have := S8.out; have := S9.out; have := SA.out; have := HGX.out; have := S12.out; have := S13.out; have := S14.out; have := S15.out; have := S16.out; have := S17.out; have := S18.out; have := S19.out; have := S20.out; omega))
 replace HG := hid (HG.out.below b (by have := S0.out; have := S1.out; have := S2.out; have := S3.out; have := S4.out; have := S5.out; have := S6.out; have := S7.out; have := S8.out; have := S9.out; have := SA.out; have := HGX.out; have := S12.out; have := S13.out; have := S14.out; have := S15.out; have := S16.out; have := S17.out; have := S18.out; have := S19.out; have := S20.out; omega))
 replace HB := hid (HB.out.trans (b.mono HB.out.size))
 replace HQ := hid (HQ.out.trans (b.mono HQ.out.size))
 have S21 := hid (b.size)
 clear b
 go_wp2_with fail
 refine (markTrackS_own cHG 1 HG.out HN.out hNN hsR (by omega) (by omega)).mono ?_
 rintro e w17 ⟨rfl, o, G⟩
 replace HB := hid (HB.out.trans ((G.below (by have := S0.out; have := S1.out; have := S2.out; have := S3.out; have := S4.out; have := S5.out; have := S6.out; have := S7.out; have := S8.out; have := S9.out; have := SA.out; have := HGX.out; have := S12.out; have := S13.out; have := S14.out; have := S15.out; have := S16.out; have := S17.out; have := S18.out; have := S19.out; have := S20.out; have := S21.out; omega)).mono (by have := S0.out; have := S1.out; have := S2.out; have := S3.out; have := S4.out; have := S5.out; have := S6.out; have := S7.out; have := S8.out; have := S9.out; have := SA.out; have := HGX.out; have := S12.out; have := S13.out; have := S14.out; have := S15.out; have := S16.out; have := S17.out; have := S18.out; have := S19.out; have := S20.out; have := S21.out; omega)))
 replace HQ := hid (HQ.out.trans ((G.below (by have := S0.out; have := S1.out; have := S2.out; have := S3.out; have := S4.out; have := S5.out; have := S6.out; have := S7.out; have := S8.out; have := S9.out; have := SA.out; have := HGX.out; have := S12.out; have := S13.out; have := S14.out; have := S15.out; have := S16.out; have := S17.out; have := S18.out; have := S19.out; have := S20.out; have := S21.out; omega)).mono (by have := S0.out; have := S1.out; have := S2.out; have := S3.out; have := S4.out; have := S5.out; have := S6.out; have := S7.out; have := S8.out; have := S9.out; have := SA.out; have := HGX.out; have := S12.out; have := S13.out; have := S14.out; have := S15.out; have := S16.out; have := S17.out; have := S18.out; have := S19.out; have := S20.out; have := S21.out; omega)))
 replace HA := hid (HA.out.agree (G.agree (by have := S0.out; have := S1.out; have := S2.out; have := S3.out; have := S4.out; have := S5.out; have := S6.out; have := S7.out; have := S8.out; have := S9.out; have := SA.out; have := HGX.out; have := S12.out; have := S13.out; have := S14.out; have := S15.out; have := S16.out; have := S17.out; have := S18.out; have := S19.out; have := S20.out; have := S21.out; omega) (by have := S0.out; have := S1.out; have := S2.out; have := S3.out; have := S4.out; have := S5.out; have := S6.out; have := S7.out; have := S8.out; have := S9.out; have := SA.out; have := HGX.out; have := S12.out; have := S13.out; have := S14.out; have := S15.out; have := S16.out; have := S17.out; have := S18.out; have := S19.out; have := S20.out; have := S21.out; omega)))
 have S22 := hid (G.size)
 clear G
 rw [HM.out]
 replace HG := hid o
 clear o
 go_wp2_with fail
 refine (heldTrackS cHG 1 HG.out.rd HN.out hNN hsR (by omega) (by omega)).mono ?_
 rintro e w18 ⟨rfl, e1⟩
 subst w18
 rw [HM.out]
 go_wp2
 have b := (Below.refl w17.heap.size w17).drew
 replace HA := hid (HA.out.below b (by have := S0.out; have := S1.out; have := S2.out; have := S3.out; have := S4.out; have := S5.out; have := S6.out; have := S7.out; have := S8.out; have := S9.out; have := SA.out; have := HGX.out; have := S12.out; have := S13.out; have := S14.out; have := S15.out; have := S16.out; have := S17.out; have := S18.out; have := S19.out; have := S20.out; have := S21.out; have := S22.out; omega))
 replace HG := hid (HG.out.below b (by have := S0.out; have := S1.out; have := S2.out; have := S3.out; have := S4.out; have := S5.out; have := S6.out; have := S7.out; have := S8.out; have := S9.out; have := SA.out; have := HGX.out; have := S12.out; have := S13.out; have := S14.out; have := S15.out; have := S16.out; have := S17.out; have := S18.out; have := S19.out; have := S20.out; have := S21.out; have := S22.out; omega))
 replace HB := hid (HB.out.trans (b.mono HB.out.size))
 replace HQ := hid (HQ.out.trans (b.mono HQ.out.size))
 have S23 := hid (b.size)
 clear b
 refine region_K 99 (fun W => BoxJ W w.heap.size KX NX FX (.slice ax m cx)) (by kernel_rfl) ?_ (fun hHeld => ?_)
 · exact HA.out
 generalize w17.drew = v3 at *
 refine anyK_take2 (i := 0) (v := ?v11) rfl (by kernel_rfl) (by kernel_rfl) (by kernel_rfl) (by rfl) (fun _ _ _ h => h) (by rfl) hHeld ?hy11 (some 99) (by rfl) ?rest11
 case hy11 => (intro W hSw; obtain ⟨r0, r1, r2, r3⟩ := hSw; go_simp; (try with_reducible rfl))
 try simp only [Act.put]
 try simp only [List.setIfInBounds_toArray]
 try simp only [List.set_cons_succ, List.set_cons_zero]
 refine anyK_take2 (i := 2) (v := ?v12) rfl (by kernel_rfl) (by kernel_rfl) (by kernel_rfl) (by rfl) (fun _ _ _ h => h) (by rfl) hHeld ?hy12 (some 101) (by rfl) ?rest12
 case hy12 => (intro W hSw; obtain ⟨r0, r1, r2, r3⟩ := hSw; go_simp; (try with_reducible rfl))
 try simp only [Act.put]
 try simp only [List.setIfInBounds_toArray]
 try simp only [List.set_cons_succ, List.set_cons_zero]
 refine anyK_take2 (i := 3) (v := ?v13) rfl (by kernel_rfl) (by kernel_rfl) (by kernel_rfl) (by rfl) (fun _ _ _ h => h) (by rfl) hHeld ?hy13 (some 102) (by rfl) ?rest13
 case hy13 => (intro W hSw; obtain ⟨r0, r1, r2, r3⟩ := hSw; go_simp; (try with_reducible rfl))
 try simp only [Act.put]
 try simp only [List.setIfInBounds_toArray]
 try simp only [List.set_cons_succ, List.set_cons_zero]
 refine anyK_step (i := 1) (by kernel_rfl) rfl (fun KP hK => ?_)
 go_simp
 refine (toTrackS c (HL.out.below HB.out (Nat.le_refl _)) hl (by omega) (by omega)).mono ?_
 rintro e w19 ⟨rfl, o, b⟩
 replace HA := hid (HA.out.below b (by have := S0.out; have := S1.out; have := S2.out; have := S3.out; have := S4.out; have := S5.out; have := S6.out; have := S7.out; have := S8.out; have := S9.out; have := SA.out; have := HGX.out; have := S12.out; have := S13.out; have := S14.out; have := S15.out; have := S16.out; have := S17.out; have := S18.out; have := S19.out; have := S20.out; have := S21.out; have := S22.out; have := S23.out; omega))
 replace HG := hid (HG.out.below b (by have := S0.out; have := S1.out; have := S2.out; have := S3.out; have := S4.out; have := S5.out; have := S6.out; have := S7.out; have := S8.out; have := S9.out; have := SA.out; have := HGX.out; have := S12.out; have := S13.out; have := S14.out; have := S15.out; have := S16.out; have := S17.out; have := S18.out; have := S19.out; have := S20.out; have := S21.out; have := S22.out; have := S23.out; omega))
 replace HB := hid (HB.out.trans (b.mono HB.out.size))
 replace HQ := hid (HQ.out.trans (b.mono HQ.out.size))
 have S24 := hid (b.size)
 clear b
 have PV := hid o
 clear o
 go_wp2_with fail
 clear hHeld
 refine hK.out _ _ ?_ (fun hHeld => ?_)
 · exact HA.out
 clear hK KP
 try simp only [Act.put]
 try simp only [List.setIfInBounds_toArray]
 try simp only [List.set_cons_succ, List.set_cons_zero]
 refine anyK_step (i := 4) (by kernel_rfl) rfl (fun KP hK => ?_)
 go_simp
 refine (toItem KX NX FX cx (R1.out.below HB.out (Nat.le_refl _)) (by omega)).mono ?_
 rintro e w20 ⟨pw1, rfl, so1, b⟩
 replace HA := hid (HA.out.below b (by have := S0.out; have := S1.out; have := S2.out; have := S3.out; have := S4.out; have := S5.out; have := S6.out; have := S7.out; have := S8.out; have := S9.out; have := SA.out; have := HGX.out; have := S12.out; have := S13.out; have := S14.out; have := S15.out; have := S16.out; have := S17.out; have := S18.out; have := S19.out; have := S20.out; have := S21.out; have := S22.out; have := S23.out; have := S24.out; omega))
 replace HG := hid (HG.out.below b (by have := S0.out; have := S1.out; have := S2.out; have := S3.out; have := S4.out; have := S5.out; have := S6.out; have := S7.out; have := S8.out; have := S9.out; have := SA.out; have := HGX.out; have := S12.out; have := S13.out; have := S14.out; have := S15.out; have := S16.out; have := S17.out; have := S18.out; have := S19.out; have := S20.out; have := S21.out; have := S22.out; have := S23.out; have := S24.out; omega))
 replace PV := hid (PV.out.below b (by have := S0.out; have := S1.out; have := S2.out; have := S3.out; have := S4.out; have := S5.out; have := S6.out; have := S7.out; have := S8.out; have := S9.out; have := SA.out; have := HGX.out; have := S12.out; have := S13.out; have := S14.out; have := S15.out; have := S16.out; have := S17.out; have := S18.out; have := S19.out; have := S20.out; have := S21.out; have := S22.out; have := S23.out; have := S24.out; omega))
 replace HB := hid (HB.out.trans (b.mono HB.out.size))
 replace HQ := hid (HQ.out.trans (b.mono HQ.out.size))
 have S25 := hid (b.size)
 clear b
 have PW := hid (show OwnIt w20 w19.heap.size w20.heap.size pw1 m ZX from ⟨so1, (so1.lt _ rfl).2, BD.out⟩)
 clear so1
 go_wp2_with fail
 clear hHeld
 refine hK.out _ _ ?_ (fun hHeld => ?_)
 · exact HA.out
 clear hK KP
 try simp only [Act.put]
 try simp only [List.setIfInBounds_toArray]
 try simp only [List.set_cons_succ, List.set_cons_zero]
 refine anyK_step (i := 5) (by kernel_rfl) rfl (fun KP hK => ?_)
 go_simp
 refine (hI n KX NX FX m PV.out.rd hl hn hsz hbd x PW.out.r1 hfx (by omega)).mono ?_
 rintro e w21 ⟨v, rfl, o, b⟩
 replace HA := hid (HA.out.below b (by have := S0.out; have := S1.out; have := S2.out; have := S3.out; have := S4.out; have := S5.out; have := S6.out; have := S7.out; have := S8.out; have := S9.out; have := SA.out; have := HGX.out; have := S12.out; have := S13.out; have := S14.out; have := S15.out; have := S16.out; have := S17.out; have := S18.out; have := S19.out; have := S20.out; have := S21.out; have := S22.out; have := S23.out; have := S24.out; have := S25.out; omega))
 replace HG := hid (HG.out.below b (by have := S0.out; have := S1.out; have := S2.out; have := S3.out; have := S4.out; have := S5.out; have := S6.out; have := S7.out; have := S8.out; have := S9.out; have := SA.out; have := HGX.out; have := S12.out; have := S13.out; have := S14.out; have := S15.out; have := S16.out; have := S17.out; have := S18.out; have := S19.out; have := S20.out; have := S21.out; have := S22.out; have := S23.out; have := S24.out; have := S25.out; omega))
 replace PV := hid (PV.out.below b (by have := S0.out; have := S1.out; have := S2.out; have := S3.out; have := S4.out; have := S5.out; have := S6.out; have := S7.out; have := S8.out; have := S9.out; have := SA.out; have := HGX.out; have := S12.out; have := S13.out; have := S14.out; have := S15.out; have := S16.out; have := S17.out; have := S18.out; have := S19.out; have := S20.out; have := S21.out; have := S22.out; have := S23.out; have := S24.out; have := S25.out; omega))
 replace PW := hid (PW.out.below b (by have := S0.out; have := S1.out; have := S2.out; have := S3.out; have := S4.out; have := S5.out; have := S6.out; have := S7.out; have := S8.out; have := S9.out; have := SA.out; have := HGX.out; have := S12.out; have := S13.out; have := S14.out; have := S15.out; have := S16.out; have := S17.out; have := S18.out; have := S19.out; have := S20.out; have := S21.out; have := S22.out; have := S23.out; have := S24.out; have := S25.out; omega))
 replace HB := hid (HB.out.trans (b.mono HB.out.size))
 replace HQ := hid (HQ.out.trans (b.mono HQ.out.size))
 have S26 := hid (b.size)
 clear b
 rw [HRC.out.1] at o
 rw [HRC.out.2]
 obtain ⟨aHH, cHH, e1⟩ := o.slice
 rw [HN.out] at e1
 subst e1
 have HH := hid o
 clear o
 go_wp2_with fail
 clear hHeld
 refine hK.out _ _ ?_ (fun hHeld => ?_)
 · exact HA.out
 clear hK KP
 try simp only [Act.put]
 try simp only [List.setIfInBounds_toArray]
 try simp only [List.set_cons_succ, List.set_cons_zero]
 refine anyK_take2 (i := 6) (v := ?v14) rfl (by kernel_rfl) (by kernel_rfl) (by kernel_rfl) (by rfl) (fun _ _ _ h => h) (by rfl) hHeld ?hy14 (some 98) (by rfl) ?rest14
 case hy14 => (intro W hSw; obtain ⟨r0, r1, r2, r3⟩ := hSw; go_simp; (try with_reducible rfl))
 try simp only [Act.put]
 try simp only [List.setIfInBounds_toArray]
 try simp only [List.set_cons_succ, List.set_cons_zero]
 refine anyK_take2 (i := 7) (v := ?v15) rfl (by kernel_rfl) (by kernel_rfl) (by kernel_rfl) (by rfl) (fun _ _ _ h => h) (by rfl) hHeld ?hy15 (some 105) (by rfl) ?rest15
 case hy15 => (intro W hSw; obtain ⟨r0, r1, r2, r3⟩ := hSw; go_simp; (try with_reducible rfl))
 try simp only [Act.put]
 try simp only [List.setIfInBounds_toArray]
 try simp only [List.set_cons_succ, List.set_cons_zero]
 refine anyK_take2 (i := 8) (v := ?v16) rfl (by kernel_rfl) (by kernel_rfl) (by kernel_rfl) (by rfl) (fun _ _ _ h => h) (by rfl) hHeld ?hy16 (some 106) (by rfl) ?rest16
 case hy16 => (intro W hSw; obtain ⟨r0, r1, r2, r3⟩ := hSw; go_simp; (try with_reducible rfl))
 try simp only [Act.put]
 try simp only [List.setIfInBounds_toArray]
 try simp only [List.set_cons_succ, List.set_cons_zero]
 refine anyK_take2 (i := 9) (v := ?v17) rfl (by kernel_rfl) (by kernel_rfl) (by kernel_rfl) (by rfl) (fun _ _ _ h => h) (by rfl) hHeld ?hy17 (some 17) (by rfl) ?rest17
 case hy17 => (intro W hSw; obtain ⟨r0, r1, r2, r3⟩ := hSw; go_simp; (try with_reducible rfl))
 try simp only [Act.put]
 try simp only [List.setIfInBounds_toArray]
 try simp only [List.set_cons_succ, List.set_cons_zero]
 refine anyK_take2 (i := 10) (v := ?v18) rfl (by kernel_rfl) (by kernel_rfl) (by kernel_rfl) (by rfl) (fun _ _ _ h => h) (by rfl) hHeld ?hy18 (some 18) (by rfl) ?rest18
 case hy18 => (intro W hSw; obtain ⟨r0, r1, r2, r3⟩ := hSw; go_simp; (try with_reducible rfl))
 try simp only [Act.put]
 try simp only [List.setIfInBounds_toArray]
 try simp only [List.set_cons_succ, List.set_cons_zero]
 refine anyK_done (by kernel_rfl) ?_ _
 clear hHeld
 go_wp2_with fail
 refine (eqTrackS cHH cQ HH.out.rd (HQ0.out.below HQ.out (Nat.le_refl _)) (SameT.refl _) HN.out hNN hsR).mono ?_
 rintro e w22 ⟨rfl, b⟩
 replace HA := hid (HA.out.below b (by have := S0.out; have := S1.out; have := S2.out; have := S3.out; have := S4.out; have := S5.out; have := S6.out; have := S7.out; have := S8.out; have := S9.out; have := SA.out; have := HGX.out; have := S12.out; have := S13.out; have := S14.out; have := S15.out; have := S16.out; have := S17.out; have := S18.out; have := S19.out; have := S20.out; have := S21.out; have := S22.out; have := S23.out; have := S24.out; have := S25.out; have := S26.out; omega))
 replace HG := hid (HG.out.below b (by have := S0.out; have := S1.out; have := S2.out; have := S3.out; have := S4.out; have := S5.out; have := S6.out; have := S7.out; have := S8.out; have := S9.out; have := SA.out; have := HGX.out; have := S12.out; have := S13.out; have := S14.out; have := S15.out; have := S16.out; have := S17.out; have := S18.out; have := S19.out; have := S20.out; have := S21.out; have := S22.out; have := S23.out; have := S24.out; have := S25.out; have := S26.out; omega))
 replace PV := hid (PV.out.below b (by have := S0.out; have := S1.out; have := S2.out; have := S3.out; have := S4.out; have := S5.out; have := S6.out; have := S7.out; have := S8.out; have := S9.out; have := SA.out; have := HGX.out; have := S12.out; have := S13.out; have := S14.out; have := S15.out; have := S16.out; have := S17.out; have := S18.out; have := S19.out; have := S20.out; have := S21.out; have := S22.out; have := S23.out; have := S24.out; have := S25.out; have := S26.out; omega))
 replace PW := hid (PW.out.below b (by have := S0.out; have := S1.out; have := S2.out; have := S3.out; have := S4.out; have := S5.out; have := S6.out; have := S7.out; have := S8.out; have := S9.out; have := SA.out; have := HGX.out; have := S12.out; have := S13.out; have := S14.out; have := S15.out; have := S16.out; have := S17.out; have := S18.out; have := S19.out; have := S20.out; have := S21.out; have := S22.out; have := S23.out; have := S24.out; have := S25.out; have := S26.out; omega))
 replace HH := hid (HH.out.below b (by have := S0.out; have := S1.out; have := S2.out; have := S3.out; have := S4.out; have := S5.out; have := S6.out; have := S7.out; have := S8.out; have := S9.out; have := SA.out; have := HGX.out; have := S12.out; have := S13.out; have := S14.out; have := S15.out; have := S16.out; have := S17.out; have := S18.out; have := S19.out; have := S20.out; have := S21.out; have := S22.out; have := S23.out; have := S24.out; have := S25.out; have := S26.out; omega))
 replace HB := hid (HB.out.trans (b.mono HB.out.size))
 replace HQ := hid (HQ.out.trans (b.mono HQ.out.size))
 have S27 := hid (b.size)
 clear b
 go_wp2_with fail
 refine (heldTrackS cHG 1 HG.out.rd HN.out hNN hsR (by omega) (by omega)).mono ?_
 rintro e w23 ⟨rfl, e1⟩
 subst w23
 rw [HM.out]
 go_wp2_with fail
 go_ret
 exact ⟨rfl, HB.out⟩
end Go.Proofs.YtnhlfkffllbpiaaGreat
