/- FnExactConcurrent's walk, the program's contract being given. Conditions: none but what the arguments' types say. -/
import Derived.Test.YtnhlfkffllbpiaaEm13
namespace Go.Proofs.Ytnhlfkffllbpiaa
open Go.RowKit
set_option maxRecDepth 100000

set_option maxHeartbeats 12800000 in
theorem exactConcurrent (hI : ∀ (t u : Tk) (x y x' y' : Value) (w : World), bdT1 t → bdT1 u → Calls Try.prog 29 #[tkV t x y, tkV u x' y'] w fun e w' => e = .returned (.bool (concB t u)) ∧ Below w.heap.size w w')
    (xi be en : Int) (al io ot : Bool) {ra : Option Addr} {rn : Nat} (rc : Nat) {wa : Option Addr} {wn : Nat} (wc : Nat) {rs : List (Im × Im)} {ws : List Im} (xi' be' en' : Int) (al' io' ot' : Bool) {ra' : Option Addr} {rn' : Nat} (rc' : Nat) {wa' : Option Addr} {wn' : Nat} (wc' : Nat) {rs' : List (Im × Im)} {ws' : List Im} {w : World} (hr : ReadsM w ra (fl2 rs)) (hw : ReadsM w wa ws) (hrl : rs.length = rn) (hwl : ws.length = wn) (hrm : rn ≤ maxLen) (hwm : wn ≤ maxLen) (hbd : bdT1 ⟨xi, be, en, al, rs, ws, io, ot⟩) (hr' : ReadsM w ra' (fl2 rs')) (hw' : ReadsM w wa' ws') (hrl' : rs'.length = rn') (hwl' : ws'.length = wn') (hrm' : rn' ≤ maxLen) (hwm' : wn' ≤ maxLen) (hbd' : bdT1 ⟨xi', be', en', al', rs', ws', io', ot'⟩) :
    Calls Try.prog 6 #[.agg #[.int .i64 xi, .int .i64 be, .int .i64 en, .bool al, .slice ra rn rc, .slice wa wn wc, .bool io, .bool ot], .agg #[.int .i64 xi', .int .i64 be', .int .i64 en', .bool al', .slice ra' rn' rc', .slice wa' wn' wc', .bool io', .bool ot']] w fun e w' => e = .returned (.bool true) ∧ Below w.heap.size w w' := by
  unfold maxLen at hrm hwm hrm' hwm'
  have hB := two w (.cells #[.int .i64 xi, .int .i64 be, .int .i64 en, .bool al, .slice ra rn rc, .slice wa wn wc, .bool io, .bool ot] 39) (.cells #[.int .i64 xi', .int .i64 be', .int .i64 en', .bool al', .slice ra' rn' rc', .slice wa' wn' wc', .bool io', .bool ot'] 39)
  obtain ⟨T1, T2, z⟩ := two_rows13 w (.cells #[.int .i64 xi, .int .i64 be, .int .i64 en, .bool al, .slice ra rn rc, .slice wa wn wc, .bool io, .bool ot] 39) (.cells #[.int .i64 xi', .int .i64 be', .int .i64 en', .bool al', .slice ra' rn' rc', .slice wa' wn' wc', .bool io', .bool ot'] 39)
  have HB := hid hB
  have HA0 := hid (BoxK.row T1)
  have HA1 := hid (BoxK.row T2)
  have RR := hid (hr.below hB (Nat.le_refl _))
  have RW := hid (hw.below hB (Nat.le_refl _))
  have RR' := hid (hr'.below hB (Nat.le_refl _))
  have RW' := hid (hw'.below hB (Nat.le_refl _))
  clear hB T1 T2 z hr hw hr' hw'
  go_enter Try.func6, Try.ntmps6
  have y0_0 := HA0.out.c0
  have y0_1 := HA0.out.c1
  have y0_2 := HA0.out.c2
  have y0_3 := HA0.out.c3
  have y0_4 := HA0.out.c4
  have y0_5 := HA0.out.c5
  have y0_6 := HA0.out.c6
  have y0_7 := HA0.out.c7
  go_wp2_with fail
  clear y0_0 y0_1 y0_2 y0_3 y0_4 y0_5 y0_6 y0_7
  generalize (w.alloc (.cells #[.int .i64 xi, .int .i64 be, .int .i64 en, .bool al, .slice ra rn rc, .slice wa wn wc, .bool io, .bool ot] 39)).alloc (.cells #[.int .i64 xi', .int .i64 be', .int .i64 en', .bool al', .slice ra' rn' rc', .slice wa' wn' wc', .bool io', .bool ot'] 39) = W0 at *
  obtain ⟨ga, hga⟩ : ∃ ga, w.heap.size = ga := ⟨_, rfl⟩
  rw [hga] at HA0 HA1
  try simp only [hga]
  clear hga
  refine (szTrack xi be en al io ot rc wc RR.out RW.out hrl hwl (by omega) (by omega) 1048576 (by omega) (by omega)).mono ?_
  rintro e w1 ⟨rfl, b⟩
  replace HA0 := hid (HA0.out.below b (Nat.le_refl _))
  replace HA1 := hid (HA1.out.below b (Nat.le_refl _))
  replace RR := hid (RR.out.below b (Nat.le_refl _))
  replace RW := hid (RW.out.below b (Nat.le_refl _))
  replace RR' := hid (RR'.out.below b (Nat.le_refl _))
  replace RW' := hid (RW'.out.below b (Nat.le_refl _))
  replace HB := hid (HB.out.trans (b.mono HB.out.size))
  clear b
  by_cases hbig : (1048576 : Int) < ((((rn + sumI (fl2 rs)) + (wn + sumI ws)) : Nat) : Int)
  · rw [show lft13 1048576 ((rn + sumI (fl2 rs)) + (wn + sumI ws)) = -1 by unfold lft13; rw [if_pos hbig]]
    go_wp2_with fail
    go_ret
    exact ⟨rfl, HB.out⟩
  obtain ⟨LF, hLF⟩ : ∃ LF : Int, (1048576 : Int) - ((((rn + sumI (fl2 rs)) + (wn + sumI ws)) : Nat) : Int) = LF := ⟨_, rfl⟩
  rw [show lft13 1048576 ((rn + sumI (fl2 rs)) + (wn + sumI ws)) = LF by unfold lft13; rw [if_neg hbig, hLF]]
  have hq0 : ¬ LF < 0 := by omega
  have hq1 : LF ≤ 1048576 := by omega
  have hsa : rn ≤ 1048576 ∧ sumI (fl2 rs) ≤ 1048576 ∧ wn ≤ 1048576 ∧ sumI ws ≤ 1048576 := by omega
  have HSI := hid (show ∀ i, ((fl2 rs).getD i im0).Z.length ≤ 2097152 from fun i => Nat.le_trans (getD_le_sumI _ i) (by omega))
  clear hbig hLF
  have y0_0 := HA1.out.c0
  have y0_1 := HA1.out.c1
  have y0_2 := HA1.out.c2
  have y0_3 := HA1.out.c3
  have y0_4 := HA1.out.c4
  have y0_5 := HA1.out.c5
  have y0_6 := HA1.out.c6
  have y0_7 := HA1.out.c7
  go_wp2_with fail
  clear y0_0 y0_1 y0_2 y0_3 y0_4 y0_5 y0_6 y0_7
  refine (szTrack xi' be' en' al' io' ot' rc' wc' RR'.out RW'.out hrl' hwl' (by omega) (by omega) LF (by omega) hq1).mono ?_
  rintro e w2 ⟨rfl, b⟩
  replace HA0 := hid (HA0.out.below b (Nat.le_refl _))
  replace HA1 := hid (HA1.out.below b (Nat.le_refl _))
  replace RR := hid (RR.out.below b (Nat.le_refl _))
  replace RW := hid (RW.out.below b (Nat.le_refl _))
  replace RR' := hid (RR'.out.below b (Nat.le_refl _))
  replace RW' := hid (RW'.out.below b (Nat.le_refl _))
  replace HB := hid (HB.out.trans (b.mono HB.out.size))
  clear b
  by_cases hbig : LF < ((((rn' + sumI (fl2 rs')) + (wn' + sumI ws')) : Nat) : Int)
  · rw [show lft13 LF ((rn' + sumI (fl2 rs')) + (wn' + sumI ws')) = -1 by unfold lft13; rw [if_pos hbig]]
    go_wp2_with fail
    go_ret
    exact ⟨rfl, HB.out⟩
  obtain ⟨LG, hLG⟩ : ∃ LG : Int, LF - ((((rn' + sumI (fl2 rs')) + (wn' + sumI ws')) : Nat) : Int) = LG := ⟨_, rfl⟩
  rw [show lft13 LF ((rn' + sumI (fl2 rs')) + (wn' + sumI ws')) = LG by unfold lft13; rw [if_neg hbig, hLG]]
  have hq2 : ¬ LG < 0 := by omega
  have hsa' : rn' ≤ 1048576 ∧ sumI (fl2 rs') ≤ 1048576 ∧ wn' ≤ 1048576 ∧ sumI ws' ≤ 1048576 := by omega
  have HSI' := hid (show ∀ i, ((fl2 rs').getD i im0).Z.length ≤ 2097152 from fun i => Nat.le_trans (getD_le_sumI _ i) (by omega))
  clear hbig hLG hq0
  go_wp2_with fail
  clear hq1 hq2
  replace HA0 := hid (HA0.out.below ((Still.drew w2).below w2.heap.size) (Nat.le_refl _))
  replace HA1 := hid (HA1.out.below ((Still.drew w2).below w2.heap.size) (Nat.le_refl _))
  replace RR := hid (RR.out.below ((Still.drew w2).below w2.heap.size) (Nat.le_refl _))
  replace RW := hid (RW.out.below ((Still.drew w2).below w2.heap.size) (Nat.le_refl _))
  replace RR' := hid (RR'.out.below ((Still.drew w2).below w2.heap.size) (Nat.le_refl _))
  replace RW' := hid (RW'.out.below ((Still.drew w2).below w2.heap.size) (Nat.le_refl _))
  replace HB := hid (HB.out.trans (((Still.drew w2).below _).mono HB.out.size))
  refine region_K 99 (fun W => BoxK W ga xi be en al (.slice ra rn rc) (.slice wa wn wc) io ot ∧ BoxK W (ga + 1) xi' be' en' al' (.slice ra' rn' rc') (.slice wa' wn' wc') io' ot') (by kernel_rfl) ?_ (fun hHeld => ?_)
  · exact ⟨HA0.out, HA1.out⟩
  generalize w2.drew = v1 at *
  refine anyK_take2 (i := 0) (v := ?v1) rfl (by kernel_rfl) (by kernel_rfl) (by kernel_rfl) (by rfl) (fun _ _ _ h => h) (by rfl) hHeld ?hy1 (some 20) (by rfl) ?rest1
  case hy1 => (intro W hSw; obtain ⟨⟨r0, r1, r2, r3, r4, r5, r6, r7⟩, ⟨s0, s1, s2, s3, s4, s5, s6, s7⟩⟩ := hSw; go_simp; (try with_reducible rfl))
  try simp only [Act.put]
  try simp only [List.setIfInBounds_toArray]
  try simp only [List.set_cons_succ, List.set_cons_zero]
  refine anyK_take2 (i := 2) (v := ?v2) rfl (by kernel_rfl) (by kernel_rfl) (by kernel_rfl) (by rfl) (fun _ _ _ h => h) (by rfl) hHeld ?hy2 (some 22) (by rfl) ?rest2
  case hy2 => (intro W hSw; obtain ⟨⟨r0, r1, r2, r3, r4, r5, r6, r7⟩, ⟨s0, s1, s2, s3, s4, s5, s6, s7⟩⟩ := hSw; go_simp; (try with_reducible rfl))
  try simp only [Act.put]
  try simp only [List.setIfInBounds_toArray]
  try simp only [List.set_cons_succ, List.set_cons_zero]
  refine anyK_step (i := 1) (by kernel_rfl) rfl (fun KP hK => ?_)
  go_simp
  refine (toTrack xi be en al io ot rc wc RR.out RW.out hrl hwl (by omega) (by omega) (by omega) (by omega)).mono ?_
  rintro e w3 ⟨Pg1, Pg2, XX, YY, rfl, o, b⟩
  replace HA0 := hid (HA0.out.below b (Nat.le_refl _))
  replace HA1 := hid (HA1.out.below b (Nat.le_refl _))
  replace RR := hid (RR.out.below b (Nat.le_refl _))
  replace RW := hid (RW.out.below b (Nat.le_refl _))
  replace RR' := hid (RR'.out.below b (Nat.le_refl _))
  replace RW' := hid (RW'.out.below b (Nat.le_refl _))
  replace HB := hid (HB.out.trans (b.mono HB.out.size))
  clear b
  have Pr := hid ((show ReadsM _ _ _ from o.rd.rd))
  have Pw := hid ((show ReadsM _ _ _ from o.wr.rd))
  clear o
  go_wp2_with fail
  refine hK.out _ _ ?_ (fun hH2 => ?_)
  · exact ⟨HA0.out, HA1.out⟩
  clear hK KP hHeld
  have hHeld := hH2
  clear hH2
  try simp only [Act.put]
  try simp only [List.setIfInBounds_toArray]
  try simp only [List.set_cons_succ, List.set_cons_zero]
  refine anyK_step (i := 3) (by kernel_rfl) rfl (fun KP hK => ?_)
  go_simp
  refine (toTrack xi' be' en' al' io' ot' rc' wc' RR'.out RW'.out hrl' hwl' (by omega) (by omega) (by omega) (by omega)).mono ?_
  rintro e w4 ⟨Qg1, Qg2, XX, YY, rfl, o, b⟩
  replace HA0 := hid (HA0.out.below b (Nat.le_refl _))
  replace HA1 := hid (HA1.out.below b (Nat.le_refl _))
  replace RR := hid (RR.out.below b (Nat.le_refl _))
  replace RW := hid (RW.out.below b (Nat.le_refl _))
  replace RR' := hid (RR'.out.below b (Nat.le_refl _))
  replace RW' := hid (RW'.out.below b (Nat.le_refl _))
  replace Pr := hid (Pr.out.below b (Nat.le_refl _))
  replace Pw := hid (Pw.out.below b (Nat.le_refl _))
  replace HB := hid (HB.out.trans (b.mono HB.out.size))
  clear b
  have Qr := hid ((show ReadsM _ _ _ from o.rd.rd))
  have Qw := hid ((show ReadsM _ _ _ from o.wr.rd))
  clear o
  go_wp2_with fail
  refine hK.out _ _ ?_ (fun hH2 => ?_)
  · exact ⟨HA0.out, HA1.out⟩
  clear hK KP hHeld
  have hHeld := hH2
  clear hH2
  try simp only [Act.put]
  try simp only [List.setIfInBounds_toArray]
  try simp only [List.set_cons_succ, List.set_cons_zero]
  refine anyK_step (i := 4) (by kernel_rfl) rfl (fun KP hK => ?_)
  go_simp
  refine (spec_Concurrent ⟨xi, be, en, al, rs, ws, io, ot⟩ ⟨xi', be', en', al', rs', ws', io', ot'⟩ _ _ _ _ _).mono ?_
  rintro e w5 ⟨rfl, b⟩
  replace HA0 := hid (HA0.out.below b (Nat.le_refl _))
  replace HA1 := hid (HA1.out.below b (Nat.le_refl _))
  replace RR := hid (RR.out.below b (Nat.le_refl _))
  replace RW := hid (RW.out.below b (Nat.le_refl _))
  replace RR' := hid (RR'.out.below b (Nat.le_refl _))
  replace RW' := hid (RW'.out.below b (Nat.le_refl _))
  replace Pr := hid (Pr.out.below b (Nat.le_refl _))
  replace Pw := hid (Pw.out.below b (Nat.le_refl _))
  replace Qr := hid (Qr.out.below b (Nat.le_refl _))
  replace Qw := hid (Qw.out.below b (Nat.le_refl _))
  replace HB := hid (HB.out.trans (b.mono HB.out.size))
  clear b
  clear Pr Pw
  clear Qr Qw
  obtain ⟨S, hS⟩ : ∃ S, concB ⟨xi, be, en, al, rs, ws, io, ot⟩ ⟨xi', be', en', al', rs', ws', io', ot'⟩ = S := ⟨_, rfl⟩
  rw [hS]
  have HS := hid hS
  have q2 : (S != S) = false := by simp
  clear hS
  go_wp2_with fail
  refine hK.out _ _ ?_ (fun hH2 => ?_)
  · exact ⟨HA0.out, HA1.out⟩
  clear hK KP hHeld
  have hHeld := hH2
  clear hH2
  try simp only [Act.put]
  try simp only [List.setIfInBounds_toArray]
  try simp only [List.set_cons_succ, List.set_cons_zero]
  refine anyK_take2 (i := 5) (v := ?v3) rfl (by kernel_rfl) (by kernel_rfl) (by kernel_rfl) (by rfl) (fun _ _ _ h => h) (by rfl) hHeld ?hy3 (some 6) (by rfl) ?rest3
  case hy3 => (intro W hSw; obtain ⟨⟨r0, r1, r2, r3, r4, r5, r6, r7⟩, ⟨s0, s1, s2, s3, s4, s5, s6, s7⟩⟩ := hSw; go_simp; (try with_reducible rfl))
  try simp only [Act.put]
  try simp only [List.setIfInBounds_toArray]
  try simp only [List.set_cons_succ, List.set_cons_zero]
  refine anyK_done (by kernel_rfl) ?_ _
  clear hHeld
  have y0_0 := HA0.out.c0
  have y0_1 := HA0.out.c1
  have y0_2 := HA0.out.c2
  have y0_3 := HA0.out.c3
  have y0_4 := HA0.out.c4
  have y0_5 := HA0.out.c5
  have y0_6 := HA0.out.c6
  have y0_7 := HA0.out.c7
  go_wp2_with fail
  clear y0_0 y0_1 y0_2 y0_3 y0_4 y0_5 y0_6 y0_7
  refine (toTrack xi be en al io ot rc wc RR.out RW.out hrl hwl (by omega) (by omega) (by omega) (by omega)).mono ?_
  rintro e w6 ⟨Xg1, Xg2, XX, YY, rfl, o, b⟩
  replace HA0 := hid (HA0.out.below b (Nat.le_refl _))
  replace HA1 := hid (HA1.out.below b (Nat.le_refl _))
  replace RR := hid (RR.out.below b (Nat.le_refl _))
  replace RW := hid (RW.out.below b (Nat.le_refl _))
  replace RR' := hid (RR'.out.below b (Nat.le_refl _))
  replace RW' := hid (RW'.out.below b (Nat.le_refl _))
  replace HB := hid (HB.out.trans (b.mono HB.out.size))
  clear b
  have Xr := hid ((show ReadsM _ _ _ from o.rd.rd))
  have Xw := hid ((show ReadsM _ _ _ from o.wr.rd))
  clear o
  have BX := hid (BoxK.row (heap_alloc_new w6 (.cells #[.int .i64 xi, .int .i64 be, .int .i64 en, .bool al, .slice (some ⟨Xg1, 0, none⟩) rn rn, .slice (some ⟨Xg2, 0, none⟩) wn wn, .bool io, .bool ot] 46)))
  have b := Below.alloc1 w6 (.cells #[.int .i64 xi, .int .i64 be, .int .i64 en, .bool al, .slice (some ⟨Xg1, 0, none⟩) rn rn, .slice (some ⟨Xg2, 0, none⟩) wn wn, .bool io, .bool ot] 46)
  replace HA0 := hid (HA0.out.below b (Nat.le_refl _))
  replace HA1 := hid (HA1.out.below b (Nat.le_refl _))
  replace RR := hid (RR.out.below b (Nat.le_refl _))
  replace RW := hid (RW.out.below b (Nat.le_refl _))
  replace RR' := hid (RR'.out.below b (Nat.le_refl _))
  replace RW' := hid (RW'.out.below b (Nat.le_refl _))
  replace Xr := hid (Xr.out.below b (Nat.le_refl _))
  replace Xw := hid (Xw.out.below b (Nat.le_refl _))
  replace HB := hid (HB.out.trans (b.mono HB.out.size))
  clear b
  have y0_0 := HA1.out.c0
  have y0_1 := HA1.out.c1
  have y0_2 := HA1.out.c2
  have y0_3 := HA1.out.c3
  have y0_4 := HA1.out.c4
  have y0_5 := HA1.out.c5
  have y0_6 := HA1.out.c6
  have y0_7 := HA1.out.c7
  go_wp2_with fail
  clear y0_0 y0_1 y0_2 y0_3 y0_4 y0_5 y0_6 y0_7
  generalize w6.alloc (.cells #[.int .i64 xi, .int .i64 be, .int .i64 en, .bool al, .slice (some ⟨Xg1, 0, none⟩) rn rn, .slice (some ⟨Xg2, 0, none⟩) wn wn, .bool io, .bool ot] 46) = W1 at *
  obtain ⟨gx, hgx⟩ : ∃ gx, w6.heap.size = gx := ⟨_, rfl⟩
  rw [hgx] at BX
  try simp only [hgx]
  clear hgx
  refine (toTrack xi' be' en' al' io' ot' rc' wc' RR'.out RW'.out hrl' hwl' (by omega) (by omega) (by omega) (by omega)).mono ?_
  rintro e w7 ⟨Yg1, Yg2, XX, YY, rfl, o, b⟩
  replace HA0 := hid (HA0.out.below b (Nat.le_refl _))
  replace HA1 := hid (HA1.out.below b (Nat.le_refl _))
  replace RR := hid (RR.out.below b (Nat.le_refl _))
  replace RW := hid (RW.out.below b (Nat.le_refl _))
  replace RR' := hid (RR'.out.below b (Nat.le_refl _))
  replace RW' := hid (RW'.out.below b (Nat.le_refl _))
  replace Xr := hid (Xr.out.below b (Nat.le_refl _))
  replace Xw := hid (Xw.out.below b (Nat.le_refl _))
  replace BX := hid (BX.out.below b (Nat.le_refl _))
  replace HB := hid (HB.out.trans (b.mono HB.out.size))
  clear b
  have Yr := hid ((show ReadsM _ _ _ from o.rd.rd))
  have Yw := hid ((show ReadsM _ _ _ from o.wr.rd))
  clear o
  have BY := hid (BoxK.row (heap_alloc_new w7 (.cells #[.int .i64 xi', .int .i64 be', .int .i64 en', .bool al', .slice (some ⟨Yg1, 0, none⟩) rn' rn', .slice (some ⟨Yg2, 0, none⟩) wn' wn', .bool io', .bool ot'] 46)))
  have b := Below.alloc1 w7 (.cells #[.int .i64 xi', .int .i64 be', .int .i64 en', .bool al', .slice (some ⟨Yg1, 0, none⟩) rn' rn', .slice (some ⟨Yg2, 0, none⟩) wn' wn', .bool io', .bool ot'] 46)
  replace HA0 := hid (HA0.out.below b (Nat.le_refl _))
  replace HA1 := hid (HA1.out.below b (Nat.le_refl _))
  replace RR := hid (RR.out.below b (Nat.le_refl _))
  replace RW := hid (RW.out.below b (Nat.le_refl _))
  replace RR' := hid (RR'.out.below b (Nat.le_refl _))
  replace RW' := hid (RW'.out.below b (Nat.le_refl _))
  replace Xr := hid (Xr.out.below b (Nat.le_refl _))
  replace Xw := hid (Xw.out.below b (Nat.le_refl _))
  replace BX := hid (BX.out.below b (Nat.le_refl _))
  replace Yr := hid (Yr.out.below b (Nat.le_refl _))
  replace Yw := hid (Yw.out.below b (Nat.le_refl _))
  replace HB := hid (HB.out.trans (b.mono HB.out.size))
  clear b
  have y0_0 := BX.out.c0
  have y0_1 := BX.out.c1
  have y0_2 := BX.out.c2
  have y0_3 := BX.out.c3
  have y0_4 := BX.out.c4
  have y0_5 := BX.out.c5
  have y0_6 := BX.out.c6
  have y0_7 := BX.out.c7
  have y1_0 := BY.out.c0
  have y1_1 := BY.out.c1
  have y1_2 := BY.out.c2
  have y1_3 := BY.out.c3
  have y1_4 := BY.out.c4
  have y1_5 := BY.out.c5
  have y1_6 := BY.out.c6
  have y1_7 := BY.out.c7
  go_wp2_with fail
  clear y0_0 y0_1 y0_2 y0_3 y0_4 y0_5 y0_6 y0_7 y1_0 y1_1 y1_2 y1_3 y1_4 y1_5 y1_6 y1_7
  generalize w7.alloc (.cells #[.int .i64 xi', .int .i64 be', .int .i64 en', .bool al', .slice (some ⟨Yg1, 0, none⟩) rn' rn', .slice (some ⟨Yg2, 0, none⟩) wn' wn', .bool io', .bool ot'] 46) = W2 at *
  obtain ⟨gy, hgy⟩ : ∃ gy, w7.heap.size = gy := ⟨_, rfl⟩
  rw [hgy] at BY
  try simp only [hgy]
  clear hgy
  refine (hI ⟨xi, be, en, al, rs, ws, io, ot⟩ ⟨xi', be', en', al', rs', ws', io', ot'⟩ _ _ _ _ _ hbd hbd').mono ?_
  rintro e w8 ⟨rfl, b⟩
  replace HA0 := hid (HA0.out.below b (Nat.le_refl _))
  replace HA1 := hid (HA1.out.below b (Nat.le_refl _))
  replace RR := hid (RR.out.below b (Nat.le_refl _))
  replace RW := hid (RW.out.below b (Nat.le_refl _))
  replace RR' := hid (RR'.out.below b (Nat.le_refl _))
  replace RW' := hid (RW'.out.below b (Nat.le_refl _))
  replace Xr := hid (Xr.out.below b (Nat.le_refl _))
  replace Xw := hid (Xw.out.below b (Nat.le_refl _))
  replace BX := hid (BX.out.below b (Nat.le_refl _))
  replace Yr := hid (Yr.out.below b (Nat.le_refl _))
  replace Yw := hid (Yw.out.below b (Nat.le_refl _))
  replace BY := hid (BY.out.below b (Nat.le_refl _))
  replace HB := hid (HB.out.trans (b.mono HB.out.size))
  clear b
  rw [HS.out]
  go_wp2_with fail
  replace HA0 := hid (HA0.out.below ((Still.drew w8).below w8.heap.size) (Nat.le_refl _))
  replace HA1 := hid (HA1.out.below ((Still.drew w8).below w8.heap.size) (Nat.le_refl _))
  replace RR := hid (RR.out.below ((Still.drew w8).below w8.heap.size) (Nat.le_refl _))
  replace RW := hid (RW.out.below ((Still.drew w8).below w8.heap.size) (Nat.le_refl _))
  replace RR' := hid (RR'.out.below ((Still.drew w8).below w8.heap.size) (Nat.le_refl _))
  replace RW' := hid (RW'.out.below ((Still.drew w8).below w8.heap.size) (Nat.le_refl _))
  replace Xr := hid (Xr.out.below ((Still.drew w8).below w8.heap.size) (Nat.le_refl _))
  replace Xw := hid (Xw.out.below ((Still.drew w8).below w8.heap.size) (Nat.le_refl _))
  replace BX := hid (BX.out.below ((Still.drew w8).below w8.heap.size) (Nat.le_refl _))
  replace Yr := hid (Yr.out.below ((Still.drew w8).below w8.heap.size) (Nat.le_refl _))
  replace Yw := hid (Yw.out.below ((Still.drew w8).below w8.heap.size) (Nat.le_refl _))
  replace BY := hid (BY.out.below ((Still.drew w8).below w8.heap.size) (Nat.le_refl _))
  replace HB := hid (HB.out.trans (((Still.drew w8).below _).mono HB.out.size))
  refine region_K 99 (fun W => BoxK W gx xi be en al (.slice (some ⟨Xg1, 0, none⟩) rn rn) (.slice (some ⟨Xg2, 0, none⟩) wn wn) io ot ∧ BoxK W ga xi be en al (.slice ra rn rc) (.slice wa wn wc) io ot) (by kernel_rfl) ?_ (fun hHeld => ?_)
  · exact ⟨BX.out, HA0.out⟩
  generalize w8.drew = v2 at *
  refine anyK_take2 (i := 0) (v := ?v4) rfl (by kernel_rfl) (by kernel_rfl) (by kernel_rfl) (by rfl) (fun _ _ _ h => h) (by rfl) hHeld ?hy4 (some 35) (by rfl) ?rest4
  case hy4 => (intro W hSw; obtain ⟨⟨r0, r1, r2, r3, r4, r5, r6, r7⟩, ⟨s0, s1, s2, s3, s4, s5, s6, s7⟩⟩ := hSw; go_simp; (try with_reducible rfl))
  try simp only [Act.put]
  try simp only [List.setIfInBounds_toArray]
  try simp only [List.set_cons_succ, List.set_cons_zero]
  refine anyK_take2 (i := 1) (v := ?v5) rfl (by kernel_rfl) (by kernel_rfl) (by kernel_rfl) (by rfl) (fun _ _ _ h => h) (by rfl) hHeld ?hy5 (some 36) (by rfl) ?rest5
  case hy5 => (intro W hSw; obtain ⟨⟨r0, r1, r2, r3, r4, r5, r6, r7⟩, ⟨s0, s1, s2, s3, s4, s5, s6, s7⟩⟩ := hSw; go_simp; (try with_reducible rfl))
  try simp only [Act.put]
  try simp only [List.setIfInBounds_toArray]
  try simp only [List.set_cons_succ, List.set_cons_zero]
  refine anyK_step (i := 2) (by kernel_rfl) rfl (fun KP hK => ?_)
  go_simp
  refine (toTrack xi be en al io ot rc wc RR.out RW.out hrl hwl (by omega) (by omega) (by omega) (by omega)).mono ?_
  rintro e w9 ⟨ZXg1, ZXg2, XX, YY, rfl, o, b⟩
  replace HA0 := hid (HA0.out.below b (Nat.le_refl _))
  replace HA1 := hid (HA1.out.below b (Nat.le_refl _))
  replace RR := hid (RR.out.below b (Nat.le_refl _))
  replace RW := hid (RW.out.below b (Nat.le_refl _))
  replace RR' := hid (RR'.out.below b (Nat.le_refl _))
  replace RW' := hid (RW'.out.below b (Nat.le_refl _))
  replace Xr := hid (Xr.out.below b (Nat.le_refl _))
  replace Xw := hid (Xw.out.below b (Nat.le_refl _))
  replace BX := hid (BX.out.below b (Nat.le_refl _))
  replace Yr := hid (Yr.out.below b (Nat.le_refl _))
  replace Yw := hid (Yw.out.below b (Nat.le_refl _))
  replace BY := hid (BY.out.below b (Nat.le_refl _))
  replace HB := hid (HB.out.trans (b.mono HB.out.size))
  clear b
  have ZXr := hid ((show ReadsM _ _ _ from o.rd.rd))
  have ZXw := hid ((show ReadsM _ _ _ from o.wr.rd))
  clear o
  go_wp2_with fail
  refine hK.out _ _ ?_ (fun hH2 => ?_)
  · exact ⟨BX.out, HA0.out⟩
  clear hK KP hHeld
  have hHeld := hH2
  clear hH2
  try simp only [Act.put]
  try simp only [List.setIfInBounds_toArray]
  try simp only [List.set_cons_succ, List.set_cons_zero]
  refine anyK_step (i := 3) (by kernel_rfl) rfl (fun KP hK => ?_)
  go_simp
  refine (eqTrack xi be en al io ot rn rn wn wn Xr.out ZXr.out Xw.out ZXw.out (SameM.refl _) (SameM.refl _) hrl hwl (by omega) (by omega) (by omega) (by omega)).mono ?_
  rintro e w10 ⟨rfl, b⟩
  replace HA0 := hid (HA0.out.below b (Nat.le_refl _))
  replace HA1 := hid (HA1.out.below b (Nat.le_refl _))
  replace RR := hid (RR.out.below b (Nat.le_refl _))
  replace RW := hid (RW.out.below b (Nat.le_refl _))
  replace RR' := hid (RR'.out.below b (Nat.le_refl _))
  replace RW' := hid (RW'.out.below b (Nat.le_refl _))
  replace Xr := hid (Xr.out.below b (Nat.le_refl _))
  replace Xw := hid (Xw.out.below b (Nat.le_refl _))
  replace BX := hid (BX.out.below b (Nat.le_refl _))
  replace Yr := hid (Yr.out.below b (Nat.le_refl _))
  replace Yw := hid (Yw.out.below b (Nat.le_refl _))
  replace BY := hid (BY.out.below b (Nat.le_refl _))
  replace ZXr := hid (ZXr.out.below b (Nat.le_refl _))
  replace ZXw := hid (ZXw.out.below b (Nat.le_refl _))
  replace HB := hid (HB.out.trans (b.mono HB.out.size))
  clear b
  clear ZXr ZXw
  go_wp2_with fail
  refine hK.out _ _ ?_ (fun hH2 => ?_)
  · exact ⟨BX.out, HA0.out⟩
  clear hK KP hHeld
  have hHeld := hH2
  clear hH2
  try simp only [Act.put]
  try simp only [List.setIfInBounds_toArray]
  try simp only [List.set_cons_succ, List.set_cons_zero]
  refine anyK_step (i := 4) (by kernel_rfl) rfl (fun KP hK => ?_)
  go_simp
  refine hK.out _ _ ?_ (fun hH2 => ?_)
  · exact ⟨BX.out, HA0.out⟩
  clear hK KP hHeld
  have hHeld := hH2
  clear hH2
  try simp only [Act.put]
  try simp only [List.setIfInBounds_toArray]
  try simp only [List.set_cons_succ, List.set_cons_zero]
  refine anyK_done (by kernel_rfl) ?_ _
  clear hHeld
  go_wp2_with fail
  replace HA0 := hid (HA0.out.below ((Still.drew w10).below w10.heap.size) (Nat.le_refl _))
  replace HA1 := hid (HA1.out.below ((Still.drew w10).below w10.heap.size) (Nat.le_refl _))
  replace RR := hid (RR.out.below ((Still.drew w10).below w10.heap.size) (Nat.le_refl _))
  replace RW := hid (RW.out.below ((Still.drew w10).below w10.heap.size) (Nat.le_refl _))
  replace RR' := hid (RR'.out.below ((Still.drew w10).below w10.heap.size) (Nat.le_refl _))
  replace RW' := hid (RW'.out.below ((Still.drew w10).below w10.heap.size) (Nat.le_refl _))
  replace Xr := hid (Xr.out.below ((Still.drew w10).below w10.heap.size) (Nat.le_refl _))
  replace Xw := hid (Xw.out.below ((Still.drew w10).below w10.heap.size) (Nat.le_refl _))
  replace BX := hid (BX.out.below ((Still.drew w10).below w10.heap.size) (Nat.le_refl _))
  replace Yr := hid (Yr.out.below ((Still.drew w10).below w10.heap.size) (Nat.le_refl _))
  replace Yw := hid (Yw.out.below ((Still.drew w10).below w10.heap.size) (Nat.le_refl _))
  replace BY := hid (BY.out.below ((Still.drew w10).below w10.heap.size) (Nat.le_refl _))
  replace HB := hid (HB.out.trans (((Still.drew w10).below _).mono HB.out.size))
  refine region_K 99 (fun W => BoxK W gy xi' be' en' al' (.slice (some ⟨Yg1, 0, none⟩) rn' rn') (.slice (some ⟨Yg2, 0, none⟩) wn' wn') io' ot' ∧ BoxK W (ga + 1) xi' be' en' al' (.slice ra' rn' rc') (.slice wa' wn' wc') io' ot') (by kernel_rfl) ?_ (fun hHeld => ?_)
  · exact ⟨BY.out, HA1.out⟩
  generalize w10.drew = v3 at *
  refine anyK_take2 (i := 0) (v := ?v6) rfl (by kernel_rfl) (by kernel_rfl) (by kernel_rfl) (by rfl) (fun _ _ _ h => h) (by rfl) hHeld ?hy6 (some 40) (by rfl) ?rest6
  case hy6 => (intro W hSw; obtain ⟨⟨r0, r1, r2, r3, r4, r5, r6, r7⟩, ⟨s0, s1, s2, s3, s4, s5, s6, s7⟩⟩ := hSw; go_simp; (try with_reducible rfl))
  try simp only [Act.put]
  try simp only [List.setIfInBounds_toArray]
  try simp only [List.set_cons_succ, List.set_cons_zero]
  refine anyK_take2 (i := 1) (v := ?v7) rfl (by kernel_rfl) (by kernel_rfl) (by kernel_rfl) (by rfl) (fun _ _ _ h => h) (by rfl) hHeld ?hy7 (some 41) (by rfl) ?rest7
  case hy7 => (intro W hSw; obtain ⟨⟨r0, r1, r2, r3, r4, r5, r6, r7⟩, ⟨s0, s1, s2, s3, s4, s5, s6, s7⟩⟩ := hSw; go_simp; (try with_reducible rfl))
  try simp only [Act.put]
  try simp only [List.setIfInBounds_toArray]
  try simp only [List.set_cons_succ, List.set_cons_zero]
  refine anyK_step (i := 2) (by kernel_rfl) rfl (fun KP hK => ?_)
  go_simp
  refine (toTrack xi' be' en' al' io' ot' rc' wc' RR'.out RW'.out hrl' hwl' (by omega) (by omega) (by omega) (by omega)).mono ?_
  rintro e w11 ⟨ZYg1, ZYg2, XX, YY, rfl, o, b⟩
  replace HA0 := hid (HA0.out.below b (Nat.le_refl _))
  replace HA1 := hid (HA1.out.below b (Nat.le_refl _))
  replace RR := hid (RR.out.below b (Nat.le_refl _))
  replace RW := hid (RW.out.below b (Nat.le_refl _))
  replace RR' := hid (RR'.out.below b (Nat.le_refl _))
  replace RW' := hid (RW'.out.below b (Nat.le_refl _))
  replace Xr := hid (Xr.out.below b (Nat.le_refl _))
  replace Xw := hid (Xw.out.below b (Nat.le_refl _))
  replace BX := hid (BX.out.below b (Nat.le_refl _))
  replace Yr := hid (Yr.out.below b (Nat.le_refl _))
  replace Yw := hid (Yw.out.below b (Nat.le_refl _))
  replace BY := hid (BY.out.below b (Nat.le_refl _))
  replace HB := hid (HB.out.trans (b.mono HB.out.size))
  clear b
  have ZYr := hid ((show ReadsM _ _ _ from o.rd.rd))
  have ZYw := hid ((show ReadsM _ _ _ from o.wr.rd))
  clear o
  go_wp2_with fail
  refine hK.out _ _ ?_ (fun hH2 => ?_)
  · exact ⟨BY.out, HA1.out⟩
  clear hK KP hHeld
  have hHeld := hH2
  clear hH2
  try simp only [Act.put]
  try simp only [List.setIfInBounds_toArray]
  try simp only [List.set_cons_succ, List.set_cons_zero]
  refine anyK_step (i := 3) (by kernel_rfl) rfl (fun KP hK => ?_)
  go_simp
  refine (eqTrack xi' be' en' al' io' ot' rn' rn' wn' wn' Yr.out ZYr.out Yw.out ZYw.out (SameM.refl _) (SameM.refl _) hrl' hwl' (by omega) (by omega) (by omega) (by omega)).mono ?_
  rintro e w12 ⟨rfl, b⟩
  replace HA0 := hid (HA0.out.below b (Nat.le_refl _))
  replace HA1 := hid (HA1.out.below b (Nat.le_refl _))
  replace RR := hid (RR.out.below b (Nat.le_refl _))
  replace RW := hid (RW.out.below b (Nat.le_refl _))
  replace RR' := hid (RR'.out.below b (Nat.le_refl _))
  replace RW' := hid (RW'.out.below b (Nat.le_refl _))
  replace Xr := hid (Xr.out.below b (Nat.le_refl _))
  replace Xw := hid (Xw.out.below b (Nat.le_refl _))
  replace BX := hid (BX.out.below b (Nat.le_refl _))
  replace Yr := hid (Yr.out.below b (Nat.le_refl _))
  replace Yw := hid (Yw.out.below b (Nat.le_refl _))
  replace BY := hid (BY.out.below b (Nat.le_refl _))
  replace ZYr := hid (ZYr.out.below b (Nat.le_refl _))
  replace ZYw := hid (ZYw.out.below b (Nat.le_refl _))
  replace HB := hid (HB.out.trans (b.mono HB.out.size))
  clear b
  clear ZYr ZYw
  go_wp2_with fail
  refine hK.out _ _ ?_ (fun hH2 => ?_)
  · exact ⟨BY.out, HA1.out⟩
  clear hK KP hHeld
  have hHeld := hH2
  clear hH2
  try simp only [Act.put]
  try simp only [List.setIfInBounds_toArray]
  try simp only [List.set_cons_succ, List.set_cons_zero]
  refine anyK_step (i := 4) (by kernel_rfl) rfl (fun KP hK => ?_)
  go_simp
  refine hK.out _ _ ?_ (fun hH2 => ?_)
  · exact ⟨BY.out, HA1.out⟩
  clear hK KP hHeld
  have hHeld := hH2
  clear hH2
  try simp only [Act.put]
  try simp only [List.setIfInBounds_toArray]
  try simp only [List.set_cons_succ, List.set_cons_zero]
  refine anyK_done (by kernel_rfl) ?_ _
  clear hHeld
  go_wp2_with fail
  go_ret
  exact ⟨rfl, HB.out⟩
end Go.Proofs.Ytnhlfkffllbpiaa
