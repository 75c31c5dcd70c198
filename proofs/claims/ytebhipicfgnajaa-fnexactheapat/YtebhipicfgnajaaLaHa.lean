/- FnExactHeapAt's walk, over a contract of the program's function. Conditions: none but what the arguments' types say. -/
import Derived.Test.YtebhipicfgnajaaHr10
import Derived.Test.YtebhipicfgnajaaMga
import Derived.Deep.RegionHeld3
namespace Go.Proofs.Ytebhipicfgnajaa
open Go.RowKit
set_option maxRecDepth 100000

set_option maxHeartbeats 12800000 in
theorem exactHeapAt (hI : ∀ (ad : Option Addr) (m cap : Nat) (qs : List Pg) (W : World), ReadsG W ad qs → qs.length = m → ∀ x y : Int, Calls Try.prog 19 #[.agg #[.slice ad m cap], .int .i64 x, .int .i64 y] W fun e w' => AnsTu (atH qs x y) W e w') {a : Option Addr} {n : Nat} (c : Nat) {ps : List Pg} {w : World} (h : ReadsG w a ps) (hl : ps.length = n) (hn0 : n ≤ maxLen) (x y : Int) :
    Calls Try.prog 5 #[.agg #[.slice a n c], .int .i64 x, .int .i64 y] w fun e w' => e = .returned (.bool true) ∧ Below w.heap.size w w' := by
  unfold maxLen at hn0
  have HA0 := hid (ArgH.new n c h 24 w.heap.size rfl)
  have HA := hid (ArgH.new n c h 24 w.heap.size rfl)
  have HB0 := hid (Below.alloc1 w (.cells #[.slice a n c] 24))
  have HSP := hid (fun (W : World) (ad : Option Addr) (cap : Nat) (r : ReadsG W ad ps) => spec_HeapAt (n := n) cap r hl x y)
  have HIP := hid (fun (W : World) (ad : Option Addr) (cap : Nat) (r : ReadsG W ad ps) => hI ad n cap ps W r hl x y)
  have hsm := atH_small ps x y
  have hby := atH_bytes h.bytes x y
  generalize atH ps x y = T at *
  obtain ⟨A, B, K, N, F, Z, L, M, H, Y, ok⟩ := T
  dsimp only at hsm hby
  have BZ := hid hby.1
  have BY := hid hby.2
  have lZ := hsm.1
  have lY := hsm.2
  have hok1 : (ok != ok) = false := by cases ok <;> rfl
  obtain ⟨KM, hKM⟩ : ∃ KM : Int, 1 + (sumG nmP ps : Int) = KM := ⟨_, rfl⟩
  have HKM := hid hKM
  have hKMn : ¬ KM < 0 := by omega
  clear h hI hsm hby hKM
  go_enter Try.func5, Try.ntmps5
  go_wp2_with fail
  have S0 := hid (alloc_size w (.cells #[.slice a n c] 24))
  generalize w.alloc (.cells #[.slice a n c] 24) = W0 at *
  have HC := hid (Below.refl W0.heap.size W0)
  refine (szHeap c HA.out.reads hl (by omega) 1048576 (by omega) (by omega)).mono ?_
  rintro e w1 ⟨rfl, b⟩
  replace HA := hid (HA.out.below b (Nat.le_refl _))
  replace HC := hid (HC.out.trans (b.mono HC.out.size))
  have S1 := hid (b.size)
  clear b
  by_cases hbig : (1048576 : Int) < (n + sumG szP ps : Nat)
  · rw [show lft 1048576 (n + sumG szP ps) = -1 by unfold lft; rw [if_pos hbig]]
    go_wp2_with fail
    go_ret
    exact ⟨rfl, HB0.out.trans (HC.out.mono HB0.out.size)⟩
  obtain ⟨LF, hLF⟩ : ∃ LF : Int, (1048576 : Int) - (n + sumG szP ps : Nat) = LF := ⟨_, rfl⟩
  rw [show lft 1048576 (n + sumG szP ps) = LF by unfold lft; rw [if_neg hbig, hLF]]
  have hq0 : ¬ LF < 0 := by omega
  have hn : n ≤ 1048576 := by omega
  have hsz : sumG szP ps ≤ 1048576 := by omega
  clear hbig hLF
  have y0 := (HA.out.box).c0
  go_wp2_with fail
  clear y0
  clear hq0
  refine (toHeap c HA.out.reads hl (by omega) (by omega)).mono ?_
  rintro e w2 ⟨gp, rfl, o, b⟩
  replace HA := hid (HA.out.below b (Nat.le_refl _))
  replace HC := hid (HC.out.trans (b.mono HC.out.size))
  have S2 := hid (b.size)
  clear b
  have PS := hid o
  clear o
  go_wp2_with fail
  refine (HSP.out _ _ n PS.out.rd).mono ?_
  rintro e w3 ⟨⟨s1, u1, s2, u2, rfl, hs1, hs2, Ss1, Ss2, o1, o2, ap, b⟩⟩
  replace HA := hid (HA.out.below b (Nat.le_refl _))
  replace PS := hid (PS.out.below b (by have := S0.out; have := S1.out; have := S2.out; omega))
  replace HC := hid (HC.out.trans (b.mono HC.out.size))
  have S3 := hid (b.size)
  clear b
  dsimp only at o1 o2 Ss1 Ss2
  obtain ⟨as1, cs1, e1⟩ := own_sl o1
  subst e1
  obtain ⟨as2, cs2, e2⟩ := own_sl o2
  subst e2
  have hsts1 := fun w a m => run_store Try.prog w a (.float .f64 s1) m rfl
  have hsts2 := fun w a m => run_store Try.prog w a (.float .f64 s2) m rfl
  have Os1 := hid o1
  have Os2 := hid o2
  have Aps := hid ap
  clear o1 o2 ap
  clear PS
  have HQ := hid (BoxTu.new (lo := w2.heap.size) Os1.out Os2.out Aps.out BZ.out BY.out rfl rfl A B K N s1 L M s2 43)
  have b := Below.alloc1 w3 (.cells #[.int .i64 A, .int .i64 B, .int .i64 K, .int .i64 N, .float .f64 s1, .slice as1 Z.length cs1, .int .i64 L, .int .i64 M, .float .f64 s2, .slice as2 Y.length cs2] 43)
  replace HA := hid (HA.out.below b (Nat.le_refl _))
  replace HC := hid (HC.out.trans (b.mono HC.out.size))
  have S4 := hid (alloc_size w3 (.cells #[.int .i64 A, .int .i64 B, .int .i64 K, .int .i64 N, .float .f64 s1, .slice as1 Z.length cs1, .int .i64 L, .int .i64 M, .float .f64 s2, .slice as2 Y.length cs2] 43))
  clear b
  have y0 := (HA.out.box).c0
  go_wp2_with fail
  clear y0
  generalize w3.alloc (.cells #[.int .i64 A, .int .i64 B, .int .i64 K, .int .i64 N, .float .f64 s1, .slice as1 Z.length cs1, .int .i64 L, .int .i64 M, .float .f64 s2, .slice as2 Y.length cs2] 43) = t1 at *
  clear Os1 Os2 Aps hsts1 hsts2
  refine (toHeap c HA.out.reads hl (by omega) (by omega)).mono ?_
  rintro e w4 ⟨gx, rfl, o, b⟩
  replace HA := hid (HA.out.below b (Nat.le_refl _))
  replace HQ := hid (HQ.out.below b (Nat.le_refl _))
  replace HC := hid (HC.out.trans (b.mono HC.out.size))
  have S5 := hid (b.size)
  clear b
  have HX := hid o
  clear o
  go_wp2_with fail
  have BX := hid (BoxH.mk (box1 w4 (.slice (some ⟨gx, 0, none⟩) n n) 29))
  have b := Below.alloc1 w4 (.cells #[.slice (some ⟨gx, 0, none⟩) n n] 29)
  replace HA := hid (HA.out.below b (Nat.le_refl _))
  replace HQ := hid (HQ.out.below b (Nat.le_refl _))
  replace HX := hid (HX.out.below b (by have := S0.out; have := S1.out; have := S2.out; have := S3.out; have := S4.out; have := S5.out; omega))
  replace HC := hid (HC.out.trans (b.mono HC.out.size))
  have S6 := hid (alloc_size w4 (.cells #[.slice (some ⟨gx, 0, none⟩) n n] 29))
  clear b
  generalize w4.alloc (.cells #[.slice (some ⟨gx, 0, none⟩) n n] 29) = t2 at *
  refine (HIP.out _ _ n HX.out.rd).mono ?_
  rintro e w5 ⟨⟨i1, u1, i2, u2, rfl, hi1, hi2, Si1, Si2, o1, o2, ap, b⟩⟩
  replace HA := hid (HA.out.below b (Nat.le_refl _))
  replace HQ := hid (HQ.out.below b (Nat.le_refl _))
  replace HX := hid (HX.out.below b (by have := S0.out; have := S1.out; have := S2.out; have := S3.out; have := S4.out; have := S5.out; have := S6.out; omega))
  replace BX := hid (BX.out.below b (Nat.le_refl _))
  replace HC := hid (HC.out.trans (b.mono HC.out.size))
  have S7 := hid (b.size)
  clear b
  dsimp only at o1 o2 Si1 Si2
  obtain ⟨ai1, ci1, e1⟩ := own_sl o1
  subst e1
  obtain ⟨ai2, ci2, e2⟩ := own_sl o2
  subst e2
  have hsti1 := fun w a m => run_store Try.prog w a (.float .f64 i1) m rfl
  have hsti2 := fun w a m => run_store Try.prog w a (.float .f64 i2) m rfl
  have Oi1 := hid o1
  have Oi2 := hid o2
  have Api := hid ap
  clear o1 o2 ap
  have HG := hid (BoxTu.new (lo := t2.heap.size) Oi1.out Oi2.out Api.out BZ.out BY.out rfl rfl A B K N i1 L M i2 43)
  have b := Below.alloc1 w5 (.cells #[.int .i64 A, .int .i64 B, .int .i64 K, .int .i64 N, .float .f64 i1, .slice ai1 Z.length ci1, .int .i64 L, .int .i64 M, .float .f64 i2, .slice ai2 Y.length ci2] 43)
  replace HA := hid (HA.out.below b (Nat.le_refl _))
  replace HQ := hid (HQ.out.below b (Nat.le_refl _))
  replace HX := hid (HX.out.below b (by have := S0.out; have := S1.out; have := S2.out; have := S3.out; have := S4.out; have := S5.out; have := S6.out; have := S7.out; omega))
  replace BX := hid (BX.out.below b (Nat.le_refl _))
  replace HC := hid (HC.out.trans (b.mono HC.out.size))
  have S8 := hid (alloc_size w5 (.cells #[.int .i64 A, .int .i64 B, .int .i64 K, .int .i64 N, .float .f64 i1, .slice ai1 Z.length ci1, .int .i64 L, .int .i64 M, .float .f64 i2, .slice ai2 Y.length ci2] 43))
  clear b
  obtain ⟨d0, d1, d2, d3, d4, d5, d6, d7, d8, d9⟩ := HQ.out.box
  go_wp2_with fail
  clear d0 d1 d2 d3 d4 d5 d6 d7 d8 d9
  generalize w5.alloc (.cells #[.int .i64 A, .int .i64 B, .int .i64 K, .int .i64 N, .float .f64 i1, .slice ai1 Z.length ci1, .int .i64 L, .int .i64 M, .float .f64 i2, .slice ai2 Y.length ci2] 43) = t3 at *
  clear Oi1 Oi2 Api hsti1 hsti2
  refine (eqTuple A B K N i1 s1 ci1 cs1 L M i2 s2 ci2 cs2 hi1 hs1 hi2 hs2 (hid (Same.both Si1.out Ss1.out)) (hid (Same.both Si2.out Ss2.out)) HG.out.rk HQ.out.rk HG.out.rv HQ.out.rv (by omega) (by omega)).mono ?_
  rintro e w6 ⟨rfl, b⟩
  replace HA := hid (HA.out.below b (Nat.le_refl _))
  replace HQ := hid (HQ.out.below b (Nat.le_refl _))
  replace HX := hid (HX.out.below b (by have := S0.out; have := S1.out; have := S2.out; have := S3.out; have := S4.out; have := S5.out; have := S6.out; have := S7.out; have := S8.out; omega))
  replace BX := hid (BX.out.below b (Nat.le_refl _))
  replace HG := hid (HG.out.below b (Nat.le_refl _))
  replace HC := hid (HC.out.trans (b.mono HC.out.size))
  have S9 := hid (b.size)
  clear b
  go_wp2_with fail
  replace HA := hid (HA.out.below ((Still.drew w6).below _) (Nat.le_refl _))
  replace HQ := hid (HQ.out.below ((Still.drew w6).below _) (Nat.le_refl _))
  replace HX := hid (HX.out.below ((Still.drew w6).below w6.heap.size) (by have := S0.out; have := S1.out; have := S2.out; have := S3.out; have := S4.out; have := S5.out; have := S6.out; have := S7.out; have := S8.out; have := S9.out; omega))
  replace BX := hid (BX.out.below ((Still.drew w6).below _) (Nat.le_refl _))
  replace HG := hid (HG.out.below ((Still.drew w6).below _) (Nat.le_refl _))
  replace HC := hid (HC.out.trans (((Still.drew w6).below _).mono HC.out.size))
  have S10 := hid ((Still.drew w6).size)
  refine region_K 99 (fun W => BoxH W w.heap.size (.slice a n c) ∧ BoxH W w4.heap.size (.slice (some ⟨gx, 0, none⟩) n n)) (by kernel_rfl) ?_ (fun hHeld => ?_)
  · exact ⟨HA.out.box, BX.out⟩
  generalize w6.drew = v0 at *
  refine anyK_take2 (i := 0) (v := ?v1) rfl (by kernel_rfl) (by kernel_rfl) (by kernel_rfl) (by rfl) (fun _ _ _ h => h) (by rfl) hHeld ?hy1 (some 49) (by rfl) ?rest1
  case hy1 => (intro W hSw; obtain ⟨⟨r0⟩, ⟨r2⟩⟩ := hSw; go_simp; (try with_reducible rfl))
  try simp only [Act.put]
  try simp only [List.setIfInBounds_toArray]
  try simp only [List.set_cons_succ, List.set_cons_zero]
  refine anyK_take2 (i := 1) (v := ?v2) rfl (by kernel_rfl) (by kernel_rfl) (by kernel_rfl) (by rfl) (fun _ _ _ h => h) (by rfl) hHeld ?hy2 (some 50) (by rfl) ?rest2
  case hy2 => (intro W hSw; obtain ⟨⟨r0⟩, ⟨r2⟩⟩ := hSw; go_simp; (try with_reducible rfl))
  try simp only [Act.put]
  try simp only [List.setIfInBounds_toArray]
  try simp only [List.set_cons_succ, List.set_cons_zero]
  refine anyK_step (i := 2) (by kernel_rfl) rfl (fun KP hK => ?_)
  go_simp
  refine (toHeap c HA.out.reads hl (by omega) (by omega)).mono ?_
  rintro e w7 ⟨gy, rfl, o, b⟩
  replace HA := hid (HA.out.below b (Nat.le_refl _))
  replace HQ := hid (HQ.out.below b (Nat.le_refl _))
  replace HX := hid (HX.out.below b (by have := S0.out; have := S1.out; have := S2.out; have := S3.out; have := S4.out; have := S5.out; have := S6.out; have := S7.out; have := S8.out; have := S9.out; have := S10.out; omega))
  replace BX := hid (BX.out.below b (Nat.le_refl _))
  replace HG := hid (HG.out.below b (Nat.le_refl _))
  replace HC := hid (HC.out.trans (b.mono HC.out.size))
  have S11 := hid (b.size)
  clear b
  have PY := hid o
  clear o
  go_wp2_with fail
  refine hK.out _ _ ?_ (fun hH2 => ?_)
  · exact ⟨HA.out.box, BX.out⟩
  clear hK KP hHeld
  have hHeld := hH2
  clear hH2
  try simp only [Act.put]
  try simp only [List.setIfInBounds_toArray]
  try simp only [List.set_cons_succ, List.set_cons_zero]
  refine anyK_step (i := 3) (by kernel_rfl) rfl (fun KP hK => ?_)
  go_simp
  refine (eqHeap n n HX.out.rd PY.out.rd hl (by omega) (by omega)).mono ?_
  rintro e w8 ⟨rfl, b⟩
  replace HA := hid (HA.out.below b (Nat.le_refl _))
  replace HQ := hid (HQ.out.below b (Nat.le_refl _))
  replace HX := hid (HX.out.below b (by have := S0.out; have := S1.out; have := S2.out; have := S3.out; have := S4.out; have := S5.out; have := S6.out; have := S7.out; have := S8.out; have := S9.out; have := S10.out; have := S11.out; omega))
  replace BX := hid (BX.out.below b (Nat.le_refl _))
  replace HG := hid (HG.out.below b (Nat.le_refl _))
  replace PY := hid (PY.out.below b (by have := S0.out; have := S1.out; have := S2.out; have := S3.out; have := S4.out; have := S5.out; have := S6.out; have := S7.out; have := S8.out; have := S9.out; have := S10.out; have := S11.out; omega))
  replace HC := hid (HC.out.trans (b.mono HC.out.size))
  have S12 := hid (b.size)
  clear b
  clear PY
  go_wp2_with fail
  refine hK.out _ _ ?_ (fun hH2 => ?_)
  · exact ⟨HA.out.box, BX.out⟩
  clear hK KP hHeld
  have hHeld := hH2
  clear hH2
  try simp only [Act.put]
  try simp only [List.setIfInBounds_toArray]
  try simp only [List.set_cons_succ, List.set_cons_zero]
  refine anyK_step (i := 4) (by kernel_rfl) rfl (fun KP hK => ?_)
  go_simp
  refine hK.out _ _ ?_ (fun hH2 => ?_)
  · exact ⟨HA.out.box, BX.out⟩
  clear hK KP hHeld
  have hHeld := hH2
  clear hH2
  try simp only [Act.put]
  try simp only [List.setIfInBounds_toArray]
  try simp only [List.set_cons_succ, List.set_cons_zero]
  refine anyK_done (by kernel_rfl) ?_ _
  clear hHeld
  have y0 := (BX.out).c0
  go_wp2_with fail
  clear y0
  refine (markHeap n 1 HX.out (by have := S0.out; have := S1.out; have := S2.out; have := S3.out; have := S4.out; have := S5.out; have := S6.out; have := S7.out; have := S8.out; have := S9.out; have := S10.out; have := S11.out; have := S12.out; omega) hl (by omega) (by omega) (by omega) (by omega)).mono ?_
  rintro e w9 ⟨rfl, _, G⟩
  replace HC := hid (HC.out.trans ((G.below (by have := S0.out; have := S1.out; have := S2.out; have := S3.out; have := S4.out; have := S5.out; have := S6.out; have := S7.out; have := S8.out; have := S9.out; have := S10.out; have := S11.out; have := S12.out; omega)).mono (by have := S0.out; have := S1.out; have := S2.out; have := S3.out; have := S4.out; have := S5.out; have := S6.out; have := S7.out; have := S8.out; have := S9.out; have := S10.out; have := S11.out; have := S12.out; omega)))
  replace HA := hid (HA0.out.below HC.out (Nat.le_refl _))
  replace HQ := hid (HQ.out.agree (G.agree (by have := S0.out; have := S1.out; have := S2.out; have := S3.out; have := S4.out; have := S5.out; have := S6.out; have := S7.out; have := S8.out; have := S9.out; have := S10.out; have := S11.out; have := S12.out; omega) (by have := S0.out; have := S1.out; have := S2.out; have := S3.out; have := S4.out; have := S5.out; have := S6.out; have := S7.out; have := S8.out; have := S9.out; have := S10.out; have := S11.out; have := S12.out; omega)) (by have := S0.out; have := S1.out; have := S2.out; have := S3.out; have := S4.out; have := S5.out; have := S6.out; have := S7.out; have := S8.out; have := S9.out; have := S10.out; have := S11.out; have := S12.out; omega))
  replace BX := hid (BX.out.within G (by have := S0.out; have := S1.out; have := S2.out; have := S3.out; have := S4.out; have := S5.out; have := S6.out; have := S7.out; have := S8.out; have := S9.out; have := S10.out; have := S11.out; have := S12.out; omega))
  replace HG := hid (HG.out.agree (G.agree (by have := S0.out; have := S1.out; have := S2.out; have := S3.out; have := S4.out; have := S5.out; have := S6.out; have := S7.out; have := S8.out; have := S9.out; have := S10.out; have := S11.out; have := S12.out; omega) (by have := S0.out; have := S1.out; have := S2.out; have := S3.out; have := S4.out; have := S5.out; have := S6.out; have := S7.out; have := S8.out; have := S9.out; have := S10.out; have := S11.out; have := S12.out; omega)) (by have := S0.out; have := S1.out; have := S2.out; have := S3.out; have := S4.out; have := S5.out; have := S6.out; have := S7.out; have := S8.out; have := S9.out; have := S10.out; have := S11.out; have := S12.out; omega))
  have S13 := hid (G.size)
  clear G
  clear HX BX
  rw [HKM.out]
  obtain ⟨c0, c1, c2, c3, c4, c5, c6, c7, c8, c9⟩ := HG.out.box
  obtain ⟨d0, d1, d2, d3, d4, d5, d6, d7, d8, d9⟩ := HQ.out.box
  go_wp2_with fail
  clear c0 c1 c2 c3 c4 c5 c6 c7 c8 c9 d0 d1 d2 d3 d4 d5 d6 d7 d8 d9
  refine (eqTuple A B K N i1 s1 ci1 cs1 L M i2 s2 ci2 cs2 hi1 hs1 hi2 hs2 (hid (Same.both Si1.out Ss1.out)) (hid (Same.both Si2.out Ss2.out)) HG.out.rk HQ.out.rk HG.out.rv HQ.out.rv (by omega) (by omega)).mono ?_
  rintro e w10 ⟨rfl, b⟩
  replace HA := hid (HA.out.below b (Nat.le_refl _))
  replace HQ := hid (HQ.out.below b (Nat.le_refl _))
  replace HG := hid (HG.out.below b (Nat.le_refl _))
  replace HC := hid (HC.out.trans (b.mono HC.out.size))
  have S14 := hid (b.size)
  clear b
  obtain ⟨c0, c1, c2, c3, c4, c5, c6, c7, c8, c9⟩ := HG.out.box
  go_wp2_with fail
  clear c0 c1 c2 c3 c4 c5 c6 c7 c8 c9
  refine (markTuple A B K N i1 L M i2 1 (by omega) (by omega) (by omega) (by omega) HG.out.o1 HG.out.o2 HG.out.ap).mono ?_
  rintro e w11 ⟨rfl, p1, p2, wm, g1, g2⟩
  obtain ⟨hg, G⟩ := HG.out.marked 1 g1 g2 p1 p2
  replace HC := hid (HC.out.trans ((G.below (by have := S0.out; have := S1.out; have := S2.out; have := S3.out; have := S4.out; have := S5.out; have := S6.out; have := S7.out; have := S8.out; have := S9.out; have := S10.out; have := S11.out; have := S12.out; have := S13.out; have := S14.out; omega)).mono (by have := S0.out; have := S1.out; have := S2.out; have := S3.out; have := S4.out; have := S5.out; have := S6.out; have := S7.out; have := S8.out; have := S9.out; have := S10.out; have := S11.out; have := S12.out; have := S13.out; have := S14.out; omega)))
  replace HA := hid (HA0.out.below HC.out (Nat.le_refl _))
  replace HQ := hid (HQ.out.agree (G.agree (by have := S0.out; have := S1.out; have := S2.out; have := S3.out; have := S4.out; have := S5.out; have := S6.out; have := S7.out; have := S8.out; have := S9.out; have := S10.out; have := S11.out; have := S12.out; have := S13.out; have := S14.out; omega) (by have := S0.out; have := S1.out; have := S2.out; have := S3.out; have := S4.out; have := S5.out; have := S6.out; have := S7.out; have := S8.out; have := S9.out; have := S10.out; have := S11.out; have := S12.out; have := S13.out; have := S14.out; omega)) (by have := S0.out; have := S1.out; have := S2.out; have := S3.out; have := S4.out; have := S5.out; have := S6.out; have := S7.out; have := S8.out; have := S9.out; have := S10.out; have := S11.out; have := S12.out; have := S13.out; have := S14.out; omega))
  have hgk := hg.rk
  have hgv := hg.rv
  have hgb := hg.box
  rw [marks_length] at hgk hgb
  rw [marks_length] at hgv hgb
  clear HG
  have HG := hid (ArgT.mk hgb hgk hgv)
  have S15 := hid (G.size)
  clear G g1 g2 p1 p2 hg hgk hgv hgb
  have hk2 : ¬ (1 + (Z.length : Int) + (Y.length : Int)) < 0 := by omega
  have hk3 : (1 + (Z.length : Int) + (Y.length : Int) != 1 + (Z.length : Int) + (Y.length : Int)) = false := by simp
  obtain ⟨c0, c1, c2, c3, c4, c5, c6, c7, c8, c9⟩ := HG.out.box
  go_wp2_with fail
  clear c0 c1 c2 c3 c4 c5 c6 c7 c8 c9
  refine (heldTuple A B K N i1 ci1 L M i2 ci2 1 HG.out.rk HG.out.rv (by omega) (by omega) (by omega) (by omega)).mono ?_
  rintro e w12 ⟨rfl, b⟩
  replace HA := hid (HA.out.below b (Nat.le_refl _))
  replace HQ := hid (HQ.out.below b (Nat.le_refl _))
  replace HG := hid (HG.out.below b (Nat.le_refl _))
  replace HC := hid (HC.out.trans (b.mono HC.out.size))
  have S16 := hid (b.size)
  clear b
  have y0 := (HA.out.box).c0
  go_wp2_with fail
  clear y0
  refine (toHeap c HA.out.reads hl (by omega) (by omega)).mono ?_
  rintro e w13 ⟨gz, rfl, o, b⟩
  replace HA := hid (HA.out.below b (Nat.le_refl _))
  replace HQ := hid (HQ.out.below b (Nat.le_refl _))
  replace HG := hid (HG.out.below b (Nat.le_refl _))
  replace HC := hid (HC.out.trans (b.mono HC.out.size))
  have S17 := hid (b.size)
  clear b
  have PZ := hid o
  clear o
  go_wp2_with fail
  refine (HIP.out _ _ n PZ.out.rd).mono ?_
  rintro e w14 ⟨⟨j1, u1, j2, u2, rfl, hj1, hj2, Sj1, Sj2, o1, o2, ap, b⟩⟩
  replace HA := hid (HA.out.below b (Nat.le_refl _))
  replace HQ := hid (HQ.out.below b (Nat.le_refl _))
  replace HG := hid (HG.out.below b (Nat.le_refl _))
  replace PZ := hid (PZ.out.below b (by have := S0.out; have := S1.out; have := S2.out; have := S3.out; have := S4.out; have := S5.out; have := S6.out; have := S7.out; have := S8.out; have := S9.out; have := S10.out; have := S11.out; have := S12.out; have := S13.out; have := S14.out; have := S15.out; have := S16.out; have := S17.out; omega))
  replace HC := hid (HC.out.trans (b.mono HC.out.size))
  have S18 := hid (b.size)
  clear b
  dsimp only at o1 o2 Sj1 Sj2
  obtain ⟨aj1, cj1, e1⟩ := own_sl o1
  subst e1
  obtain ⟨aj2, cj2, e2⟩ := own_sl o2
  subst e2
  have hstj1 := fun w a m => run_store Try.prog w a (.float .f64 j1) m rfl
  have hstj2 := fun w a m => run_store Try.prog w a (.float .f64 j2) m rfl
  have Oj1 := hid o1
  have Oj2 := hid o2
  have Apj := hid ap
  clear o1 o2 ap
  clear PZ
  have HJ := hid (BoxTu.new (lo := w13.heap.size) Oj1.out Oj2.out Apj.out BZ.out BY.out rfl rfl A B K N j1 L M j2 43)
  have b := Below.alloc1 w14 (.cells #[.int .i64 A, .int .i64 B, .int .i64 K, .int .i64 N, .float .f64 j1, .slice aj1 Z.length cj1, .int .i64 L, .int .i64 M, .float .f64 j2, .slice aj2 Y.length cj2] 43)
  replace HA := hid (HA.out.below b (Nat.le_refl _))
  replace HQ := hid (HQ.out.below b (Nat.le_refl _))
  replace HG := hid (HG.out.below b (Nat.le_refl _))
  replace HC := hid (HC.out.trans (b.mono HC.out.size))
  have S19 := hid (alloc_size w14 (.cells #[.int .i64 A, .int .i64 B, .int .i64 K, .int .i64 N, .float .f64 j1, .slice aj1 Z.length cj1, .int .i64 L, .int .i64 M, .float .f64 j2, .slice aj2 Y.length cj2] 43))
  clear b
  obtain ⟨d0, d1, d2, d3, d4, d5, d6, d7, d8, d9⟩ := HQ.out.box
  go_wp2_with fail
  clear d0 d1 d2 d3 d4 d5 d6 d7 d8 d9
  generalize w14.alloc (.cells #[.int .i64 A, .int .i64 B, .int .i64 K, .int .i64 N, .float .f64 j1, .slice aj1 Z.length cj1, .int .i64 L, .int .i64 M, .float .f64 j2, .slice aj2 Y.length cj2] 43) = t4 at *
  clear Oj1 Oj2 Apj hstj1 hstj2
  refine (eqTuple A B K N j1 s1 cj1 cs1 L M j2 s2 cj2 cs2 hj1 hs1 hj2 hs2 (hid (Same.both Sj1.out Ss1.out)) (hid (Same.both Sj2.out Ss2.out)) HJ.out.rk HQ.out.rk HJ.out.rv HQ.out.rv (by omega) (by omega)).mono ?_
  rintro e w15 ⟨rfl, b⟩
  replace HA := hid (HA.out.below b (Nat.le_refl _))
  replace HQ := hid (HQ.out.below b (Nat.le_refl _))
  replace HG := hid (HG.out.below b (Nat.le_refl _))
  replace HJ := hid (HJ.out.below b (Nat.le_refl _))
  replace HC := hid (HC.out.trans (b.mono HC.out.size))
  have S20 := hid (b.size)
  clear b
  clear HJ
  obtain ⟨c0, c1, c2, c3, c4, c5, c6, c7, c8, c9⟩ := HG.out.box
  go_wp2_with fail
  clear c0 c1 c2 c3 c4 c5 c6 c7 c8 c9
  refine (heldTuple A B K N i1 ci1 L M i2 ci2 1 HG.out.rk HG.out.rv (by omega) (by omega) (by omega) (by omega)).mono ?_
  rintro e w16 ⟨rfl, b⟩
  replace HA := hid (HA.out.below b (Nat.le_refl _))
  replace HQ := hid (HQ.out.below b (Nat.le_refl _))
  replace HG := hid (HG.out.below b (Nat.le_refl _))
  replace HC := hid (HC.out.trans (b.mono HC.out.size))
  have S21 := hid (b.size)
  clear b
  go_wp2_with fail
  go_ret
  exact ⟨rfl, HB0.out.trans (HC.out.mono HB0.out.size)⟩
end Go.Proofs.Ytebhipicfgnajaa
