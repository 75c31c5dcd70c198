/- Texts of this proof in one: Vc14 Vh14 Wg14 Hp14 Hq14. -/
import Derived.Test.YtjcjoabblafboaaGreatMgg
import Derived.Test.YtjcjoabblafboaaGreatGg14
import Derived.Test.YtjcjoabblafboaaGreatMgb
import Derived.Maps.AppendAt
/- Pairs of an edge, plain, and the contract of the specification's GraphEdges. Conditions: texts of at most 2^21 bytes. -/


namespace Go.Proofs.YtjcjoabblafboaaGreat
open Go.RowKit
set_option maxRecDepth 100000
abbrev Pr := Nat × Nat
def encP (p : Pr) : List Value := [.int .i64 (p.1 : Int), .int .i64 (p.2 : Int)]
def fP (l : List Pr) : List Value := l.flatMap encP
theorem fP_app (a b : List Pr) : fP (a ++ b) = fP a ++ fP b := by simp [fP]
theorem fP_one (p : Pr) : fP [p] = [.int .i64 (p.1 : Int), .int .i64 (p.2 : Int)] := by simp [fP, encP]
def edB (ts : List Tk) (i j : Nat) : Bool := decide (i ≠ j) && edgeB (ts.getD i tk0) (ts.getD j tk0)
def rowE (ts : List Tk) (i m : Nat) : List Pr := ((List.range m).filter (edB ts i)).map (fun j => (i, j))
theorem rowE_succ (ts : List Tk) (i m : Nat) : rowE ts i (m + 1) = rowE ts i m ++ (if edB ts i m = true then [(i, m)] else []) := by
 unfold rowE
 rw [List.range_succ, List.filter_append, List.map_append]
 by_cases h : edB ts i m = true
 · simp [h]
 · simp [h]
theorem rowE_le (ts : List Tk) (i m : Nat) : (rowE ts i m).length ≤ m := by
 unfold rowE
 rw [List.length_map]
 exact Nat.le_trans (List.length_filter_le _ _) (by rw [List.length_range]; exact Nat.le_refl _)
def prE (ts : List Tk) (n m : Nat) : List Pr := (List.range m).flatMap (fun i => rowE ts i n)
theorem prE_succ (ts : List Tk) (n m : Nat) : prE ts n (m + 1) = prE ts n m ++ rowE ts m n := by
 unfold prE
 rw [List.range_succ, List.flatMap_append]; simp
theorem prE_le (ts : List Tk) (n : Nat) : ∀ m, (prE ts n m).length ≤ m * n
 | 0 => by simp [prE]
 | m + 1 => by
  have h1 := prE_le ts n m
  have h2 := rowE_le ts m n
  rw [prE_succ, List.length_append, Nat.succ_mul]
  omega
noncomputable def edP (ts : List Tk) : List Pr := if deedsB ts = true then prE ts ts.length ts.length else []
theorem Tryz.infoP14 : (Tryz.prog.info? 33).map (fun i => (i.zero, i.size, i.bytes)) = some (some (.agg #[.int .i64 0, .int .i64 0]), 2, 16) := by kernel_rfl
theorem infoP : ∃ i, Tryz.prog.info? 33 = some i ∧ i.zero = some (.agg #[.int .i64 0, .int .i64 0]) ∧ i.size = 2 ∧ i.bytes = 16 := by
 have := Tryz.infoP14
 cases hh : Tryz.prog.info? 33 with
 | none => rw [hh] at this; cases this
 | some i => rw [hh] at this; simp at this; exact ⟨i, rfl, this.1, this.2.1, this.2.2⟩
set_option maxHeartbeats 12800000 in
theorem spec_GraphEdges {a : Option Addr} {n : Nat} (c : Nat) {ts : List Tk} {w : World} (h : ReadsV w a ts) (hl : ts.length = n) (hsm : smT ts) :
 Calls Tryz.prog 13 #[.slice a n c] w fun e w' => ∃ g cg, e = .returned (.slice g (edP ts).length cg) ∧ w'.ownsRow w.heap.size 33 2 (.slice g (edP ts).length cg) (edP ts).length (fP (edP ts)) ∧ Below w.heap.size w w' := by
 obtain ⟨V, hV⟩ : ∃ V, edP ts = V := ⟨_, rfl⟩
 rw [hV]
 have HVV := hid hV
 have HL := hid hl
 have HSm := hid hsm
 obtain ⟨i0, hinf, hz0, hz1, hz2⟩ := infoP
 clear hV
 go_enter Tryz.func13, Tryz.ntmps13
 go_wp2_with fail
 refine (spec_DeedsOk c h hl hsm).mono ?_
 rintro e w1 ⟨rfl, b1⟩
 have B1 := hid b1
 have HR := hid (h.below b1 (Nat.le_refl _))
 clear b1 h hl hsm
 cases hdb : deedsB ts with
 | false =>
  have HF := hid (show V = [] by rw [← HVV.out]; unfold edP; rw [if_neg (by rw [hdb]; simp)])
  clear hdb
  go_wp2_with fail
  go_ret
  rw [HF.out]
  exact ⟨none, 0, rfl, World.ownsRow_nil _ _ _ _, B1.out⟩
 | true =>
 have HVe := hid (show V = prE ts n n by rw [← HVV.out]; unfold edP; rw [if_pos hdb, HL.out])
 have HOk := hid (deedsB_ok hdb)
 have hn : n ≤ 100 := by have := HOk.out.1; have := HL.out; omega
 clear hdb HVV
 go_wp2_with fail
 go_loopw [3, 4] (fun s3 s4 wr => ∃ (i : Nat) (g : Option Addr) (cg : Nat), i ≤ n ∧ s4 = .int .i64 i ∧ s3 = .slice g (prE ts n i).length cg ∧ Hid (wr.ownsRow w1.heap.size 33 2 (.slice g (prE ts n i).length cg) (prE ts n i).length (fP (prE ts n i))) ∧ Hid (Below w1.heap.size w1 wr)) (fun _ s _ => n - (intOf s).toNat)
 case atStart => exact ⟨0, none, 0, Nat.zero_le _, rfl, rfl, hid (World.ownsRow_nil _ _ _ _), hid (Below.refl _ _)⟩
 case round =>
  obtain ⟨i, g, cg, hi, rfl, rfl, HO, HW⟩ := hrel
  by_cases hlt : i < n
  · have hlt' : (i : Int) < (n : Int) := by omega
    have hi0 : (0 : Int) ≤ (i : Int) := by omega
    have HLe := hid (show (prE ts n i).length ≤ 10000 by have := prE_le ts n i; have := Nat.mul_le_mul (show i ≤ 100 by omega) hn; omega)
    have HPs := hid (prE_succ ts n i)
    obtain ⟨bb, off, ar, cr, aw, cw, rfl, bi, r1, q1, r2, q2⟩ := HR.out.at (k := i) (by have := HL.out; omega)
    have hs1 := (HSm.out i).1
    have hs2 := (HSm.out i).2
    obtain ⟨hc1, hc2, -, -⟩ := okDs_at HOk.out (k := i) (by have := HL.out; omega)
    obtain ⟨ti, hti⟩ : ∃ t, ts.getD i tk0 = t := ⟨_, rfl⟩
    have HTi := hid hti
    rw [hti] at bi r1 r2 hs1 hs2 hc1 hc2
    obtain ⟨nr, hnr⟩ : ∃ x, ti.rs.length = x := ⟨_, rfl⟩
    obtain ⟨nw, hnw⟩ : ∃ x, ti.ws.length = x := ⟨_, rfl⟩
    rw [hnr, hnw] at bi
    rw [hnr] at hc1
    rw [hnw] at hc2
    have HNr := hid hnr
    have HNw := hid hnw
    have HBi := hid bi
    have HR1 := hid r1
    have HR2 := hid r2
    have HS1 := hid hs1
    have HS2 := hid hs2
    obtain ⟨Q, hQ⟩ : ∃ Q, prE ts n i = Q := ⟨_, rfl⟩
    rw [hQ] at HO HLe HPs
    try rw [hQ]
    clear hti hnr hnw bi r1 r2 q1 q2 hs1 hs2 hQ
    go_wp2_with fail
    go_loopw [3, 5] (fun s3 s5 wq => ∃ (j : Nat) (g : Option Addr) (cg : Nat), j ≤ n ∧ s5 = .int .i64 j ∧ s3 = .slice g (Q ++ rowE ts i j).length cg ∧ Hid (wq.ownsRow w1.heap.size 33 2 (.slice g (Q ++ rowE ts i j).length cg) (Q ++ rowE ts i j).length (fP (Q ++ rowE ts i j))) ∧ Hid (Below w1.heap.size w1 wq)) (fun _ s _ => n - (intOf s).toNat)
    case atStart => exact ⟨0, g, cg, Nat.zero_le _, rfl, by simp [rowE], by simpa [rowE] using HO, HW⟩
    case round =>
     clear HO HW
     obtain ⟨j, g, cg, hj, rfl, rfl, HO, HW⟩ := hrel
     by_cases hjn : j < n
     · have hjn' : (j : Int) < (n : Int) := by omega
       have hj0 : (0 : Int) ≤ (j : Int) := by omega
       have HRs := hid (rowE_succ ts i j)
       have HRl := hid (rowE_le ts i j)
       obtain ⟨bb2, off2, br, dr, bw, dw, e2, bj, s1, q1, s2, q2⟩ := HR.out.at (k := j) (by have := HL.out; omega)
       obtain ⟨rfl, rfl⟩ : bb = bb2 ∧ off = off2 := by simpa using e2
       have hs1 := (HSm.out j).1
       have hs2 := (HSm.out j).2
       obtain ⟨hd1, hd2, -, -⟩ := okDs_at HOk.out (k := j) (by have := HL.out; omega)
       have HEd := hid (show edB ts i j = (decide (i ≠ j) && edgeB ti (ts.getD j tk0)) by unfold edB; rw [HTi.out])
       obtain ⟨tj, htj⟩ : ∃ t, ts.getD j tk0 = t := ⟨_, rfl⟩
       rw [htj] at bj s1 s2 hs1 hs2 hd1 hd2 HEd
       obtain ⟨mr, hmr⟩ : ∃ x, tj.rs.length = x := ⟨_, rfl⟩
       obtain ⟨mw, hmw⟩ : ∃ x, tj.ws.length = x := ⟨_, rfl⟩
       rw [hmr, hmw] at bj
       rw [hmr] at hd1
       rw [hmw] at hd2
       have HMr := hid hmr
       have HMw := hid hmw
       have HT1 := hid s1
       have HT2 := hid s2
       have HS3 := hid hs1
       have HS4 := hid hs2
       obtain ⟨R, hR⟩ : ∃ R, Q ++ rowE ts i j = R := ⟨_, rfl⟩
       have HRn := hid (show Q ++ rowE ts i (j + 1) = R ++ (if edB ts i j = true then [(i, j)] else []) by rw [HRs.out, ← List.append_assoc, hR])
       have HRz := hid (show R.length ≤ 10100 by rw [← hR, List.length_append]; have := HLe.out; have := HRl.out; omega)
       rw [hR] at HO
       try rw [hR]
       have bD := (Below.refl wr.heap.size wr).drew
       have HOD := hid (owns_below bD (Nat.le_refl _) HO.out)
       have HWD := hid (HW.out.trans (bD.mono HW.out.size))
       have HS := hid (show (fun W => Box5 W bb (off + i * 5) ti (.slice ar nr cr) (.slice aw nw cw) ∧ Box5 W bb (off + j * 5) tj (.slice br mr dr) (.slice bw mw dw)) wr.drew from ⟨(HBi.out.below HW.out (Nat.le_refl _)).below bD (Nat.le_refl _), (bj.below HW.out (Nat.le_refl _)).below bD (Nat.le_refl _)⟩)
       clear bj s1 s2 q1 q2 hs1 hs2 e2 htj hmr hmw hR bD HRs HO HW HRl
       go_wp2
       refine region_K 99 (fun W => Box5 W bb (off + i * 5) ti (.slice ar nr cr) (.slice aw nw cw) ∧ Box5 W bb (off + j * 5) tj (.slice br mr dr) (.slice bw mw dw)) (by kernel_rfl) ?_ (fun hHeld => ?_)
       · exact HS.out
       generalize wr.drew = v0 at *
       obtain ⟨rl, hrl⟩ : ∃ rl, R.length = rl := ⟨_, rfl⟩
       rw [hrl] at HOD HRz
       try rw [hrl]
       have HRL := hid hrl
       clear hrl
       by_cases hij : i = j
       · have hne : ((i : Int) != (j : Int)) = false := by simpa using (show (i : Int) = (j : Int) by omega)
         have HN2 := hid (show Q ++ rowE ts i (j + 1) = R by rw [HRn.out, HEd.out, decide_eq_false (fun z => z hij), Bool.false_and, if_neg (by simp), List.append_nil])
         clear hij
         refine anyK_take2 (i := 0) (v := ?v0_1) rfl (by kernel_rfl) (by kernel_rfl) (by kernel_rfl) (by rfl) (fun _ _ _ h => h) (by rfl) hHeld ?hy0_1 (some 22) (by rfl) ?rest0_1
         case hy0_1 => (intro W hSw; obtain ⟨⟨x0, x1, x2, x3, x4⟩, y0, y1, y2, y3, y4⟩ := hSw; go_simp; (try with_reducible rfl))
         try simp only [Act.put, List.setIfInBounds_toArray, List.set_cons_succ, List.set_cons_zero]
         refine anyK_take2 (i := 1) (v := ?v1_2) rfl (by kernel_rfl) (by kernel_rfl) (by kernel_rfl) (by rfl) (fun _ _ _ h => h) (by rfl) hHeld ?hy1_2 (some 23) (by rfl) ?rest1_2
         case hy1_2 => (intro W hSw; obtain ⟨⟨x0, x1, x2, x3, x4⟩, y0, y1, y2, y3, y4⟩ := hSw; go_simp; (try with_reducible rfl))
         try simp only [Act.put, List.setIfInBounds_toArray, List.set_cons_succ, List.set_cons_zero]
         refine anyK_take2 (i := 2) (v := ?v2_3) rfl (by kernel_rfl) (by kernel_rfl) (by kernel_rfl) (by rfl) (fun _ _ _ h => h) (by rfl) hHeld ?hy2_3 (some 24) (by rfl) ?rest2_3
         case hy2_3 => (intro W hSw; obtain ⟨⟨x0, x1, x2, x3, x4⟩, y0, y1, y2, y3, y4⟩ := hSw; go_simp; (try with_reducible rfl))
         try simp only [Act.put, List.setIfInBounds_toArray, List.set_cons_succ, List.set_cons_zero]
         refine anyK_take2 (i := 3) (v := ?v3_4) rfl (by kernel_rfl) (by kernel_rfl) (by kernel_rfl) (by rfl) (fun _ _ _ h => h) (by rfl) hHeld ?hy3_4 (some 25) (by rfl) ?rest3_4
         case hy3_4 => (intro W hSw; obtain ⟨⟨x0, x1, x2, x3, x4⟩, y0, y1, y2, y3, y4⟩ := hSw; go_simp; (try with_reducible rfl))
         try simp only [Act.put, List.setIfInBounds_toArray, List.set_cons_succ, List.set_cons_zero]
         refine anyK_skip (i := 4) rfl (by kernel_rfl) (by kernel_rfl) (by kernel_rfl) (by kernel_rfl) (fun _ _ _ h => h) (by rfl) hHeld (some 26) (by rfl) ?_
         try simp only [Act.put, List.setIfInBounds_toArray, List.set_cons_succ, List.set_cons_zero]
         refine anyK_skip (i := 5) rfl (by kernel_rfl) (by kernel_rfl) (by kernel_rfl) (by kernel_rfl) (fun _ _ _ h => h) (by rfl) hHeld (some 27) (by rfl) ?_
         try simp only [Act.put, List.setIfInBounds_toArray, List.set_cons_succ, List.set_cons_zero]
         refine anyK_skip (i := 6) rfl (by kernel_rfl) (by kernel_rfl) (by kernel_rfl) (by kernel_rfl) (fun _ _ _ h => h) (by rfl) hHeld (some 28) (by rfl) ?_
         try simp only [Act.put, List.setIfInBounds_toArray, List.set_cons_succ, List.set_cons_zero]
         refine anyK_skip (i := 7) rfl (by kernel_rfl) (by kernel_rfl) (by kernel_rfl) (by kernel_rfl) (fun _ _ _ h => h) (by rfl) hHeld (some 29) (by rfl) ?_
         try simp only [Act.put, List.setIfInBounds_toArray, List.set_cons_succ, List.set_cons_zero]
         refine anyK_skip (i := 8) rfl (by kernel_rfl) (by kernel_rfl) (by kernel_rfl) (by kernel_rfl) (fun _ _ _ h => h) (by rfl) hHeld (some 30) (by rfl) ?_
         try simp only [Act.put, List.setIfInBounds_toArray, List.set_cons_succ, List.set_cons_zero]
         refine anyK_skip (i := 9) rfl (by kernel_rfl) (by kernel_rfl) (by kernel_rfl) (by kernel_rfl) (fun _ _ _ h => h) (by rfl) hHeld (some 31) (by rfl) ?_
         try simp only [Act.put, List.setIfInBounds_toArray, List.set_cons_succ, List.set_cons_zero]
         refine anyK_skip (i := 10) rfl (by kernel_rfl) (by kernel_rfl) (by kernel_rfl) (by kernel_rfl) (fun _ _ _ h => h) (by rfl) hHeld (some 32) (by rfl) ?_
         try simp only [Act.put, List.setIfInBounds_toArray, List.set_cons_succ, List.set_cons_zero]
         refine anyK_skip (i := 11) rfl (by kernel_rfl) (by kernel_rfl) (by kernel_rfl) (by kernel_rfl) (fun _ _ _ h => h) (by rfl) hHeld (some 33) (by rfl) ?_
         try simp only [Act.put, List.setIfInBounds_toArray, List.set_cons_succ, List.set_cons_zero]
         refine anyK_skip (i := 12) rfl (by kernel_rfl) (by kernel_rfl) (by kernel_rfl) (by kernel_rfl) (fun _ _ _ h => h) (by rfl) hHeld (some 34) (by rfl) ?_
         try simp only [Act.put, List.setIfInBounds_toArray, List.set_cons_succ, List.set_cons_zero]
         refine anyK_take2 (i := 13) (v := ?v13_5) rfl (by kernel_rfl) (by kernel_rfl) (by kernel_rfl) (by rfl) (fun _ _ _ h => h) (by rfl) hHeld ?hy13_5 (some 35) (by rfl) ?rest13_5
         case hy13_5 => (intro W hSw; obtain ⟨⟨x0, x1, x2, x3, x4⟩, y0, y1, y2, y3, y4⟩ := hSw; go_simp; (try with_reducible rfl))
         try simp only [Act.put, List.setIfInBounds_toArray, List.set_cons_succ, List.set_cons_zero]
         refine anyK_done (by kernel_rfl) ?_ _
         clear hHeld
         go_wp2_with fail
         go_roundw
         case rel =>
          refine ⟨j + 1, g, cg, by omega, by go_num, by rw [HN2.out, HRL.out], hid ?_, HWD⟩
          rw [HN2.out, HRL.out]; exact HOD.out
         case measure => simp [intOf]; omega
       · have hne : ((i : Int) != (j : Int)) = true := by rw [bne_iff_ne]; omega
         have HEd2 := hid (show edB ts i j = edgeB ti tj by rw [HEd.out, decide_eq_true hij, Bool.true_and])
         clear hij
         refine anyK_take2 (i := 0) (v := ?v0_6) rfl (by kernel_rfl) (by kernel_rfl) (by kernel_rfl) (by rfl) (fun _ _ _ h => h) (by rfl) hHeld ?hy0_6 (some 22) (by rfl) ?rest0_6
         case hy0_6 => (intro W hSw; obtain ⟨⟨x0, x1, x2, x3, x4⟩, y0, y1, y2, y3, y4⟩ := hSw; go_simp; (try with_reducible rfl))
         try simp only [Act.put, List.setIfInBounds_toArray, List.set_cons_succ, List.set_cons_zero]
         refine anyK_take2 (i := 1) (v := ?v1_7) rfl (by kernel_rfl) (by kernel_rfl) (by kernel_rfl) (by rfl) (fun _ _ _ h => h) (by rfl) hHeld ?hy1_7 (some 23) (by rfl) ?rest1_7
         case hy1_7 => (intro W hSw; obtain ⟨⟨x0, x1, x2, x3, x4⟩, y0, y1, y2, y3, y4⟩ := hSw; go_simp; (try with_reducible rfl))
         try simp only [Act.put, List.setIfInBounds_toArray, List.set_cons_succ, List.set_cons_zero]
         refine anyK_take2 (i := 2) (v := ?v2_8) rfl (by kernel_rfl) (by kernel_rfl) (by kernel_rfl) (by rfl) (fun _ _ _ h => h) (by rfl) hHeld ?hy2_8 (some 24) (by rfl) ?rest2_8
         case hy2_8 => (intro W hSw; obtain ⟨⟨x0, x1, x2, x3, x4⟩, y0, y1, y2, y3, y4⟩ := hSw; go_simp; (try with_reducible rfl))
         try simp only [Act.put, List.setIfInBounds_toArray, List.set_cons_succ, List.set_cons_zero]
         refine anyK_take2 (i := 3) (v := ?v3_9) rfl (by kernel_rfl) (by kernel_rfl) (by kernel_rfl) (by rfl) (fun _ _ _ h => h) (by rfl) hHeld ?hy3_9 (some 25) (by rfl) ?rest3_9
         case hy3_9 => (intro W hSw; obtain ⟨⟨x0, x1, x2, x3, x4⟩, y0, y1, y2, y3, y4⟩ := hSw; go_simp; (try with_reducible rfl))
         try simp only [Act.put, List.setIfInBounds_toArray, List.set_cons_succ, List.set_cons_zero]
         refine anyK_take2 (i := 4) (v := ?v4_10) rfl (by kernel_rfl) (by kernel_rfl) (by kernel_rfl) (by rfl) (fun _ _ _ h => h) (by rfl) hHeld ?hy4_10 (some 26) (by rfl) ?rest4_10
         case hy4_10 => (intro W hSw; obtain ⟨⟨x0, x1, x2, x3, x4⟩, y0, y1, y2, y3, y4⟩ := hSw; go_simp; (try with_reducible rfl))
         try simp only [Act.put, List.setIfInBounds_toArray, List.set_cons_succ, List.set_cons_zero]
         refine anyK_take2 (i := 5) (v := ?v5_11) rfl (by kernel_rfl) (by kernel_rfl) (by kernel_rfl) (by rfl) (fun _ _ _ h => h) (by rfl) hHeld ?hy5_11 (some 27) (by rfl) ?rest5_11
         case hy5_11 => (intro W hSw; obtain ⟨⟨x0, x1, x2, x3, x4⟩, y0, y1, y2, y3, y4⟩ := hSw; go_simp; (try with_reducible rfl))
         try simp only [Act.put, List.setIfInBounds_toArray, List.set_cons_succ, List.set_cons_zero]
         refine anyK_take2 (i := 6) (v := ?v6_12) rfl (by kernel_rfl) (by kernel_rfl) (by kernel_rfl) (by rfl) (fun _ _ _ h => h) (by rfl) hHeld ?hy6_12 (some 28) (by rfl) ?rest6_12
         case hy6_12 => (intro W hSw; obtain ⟨⟨x0, x1, x2, x3, x4⟩, y0, y1, y2, y3, y4⟩ := hSw; go_simp; (try with_reducible rfl))
         try simp only [Act.put, List.setIfInBounds_toArray, List.set_cons_succ, List.set_cons_zero]
         refine anyK_take2 (i := 7) (v := ?v7_13) rfl (by kernel_rfl) (by kernel_rfl) (by kernel_rfl) (by rfl) (fun _ _ _ h => h) (by rfl) hHeld ?hy7_13 (some 29) (by rfl) ?rest7_13
         case hy7_13 => (intro W hSw; obtain ⟨⟨x0, x1, x2, x3, x4⟩, y0, y1, y2, y3, y4⟩ := hSw; go_simp; (try with_reducible rfl))
         try simp only [Act.put, List.setIfInBounds_toArray, List.set_cons_succ, List.set_cons_zero]
         refine anyK_take2 (i := 8) (v := ?v8_14) rfl (by kernel_rfl) (by kernel_rfl) (by kernel_rfl) (by rfl) (fun _ _ _ h => h) (by rfl) hHeld ?hy8_14 (some 30) (by rfl) ?rest8_14
         case hy8_14 => (intro W hSw; obtain ⟨⟨x0, x1, x2, x3, x4⟩, y0, y1, y2, y3, y4⟩ := hSw; go_simp; (try with_reducible rfl))
         try simp only [Act.put, List.setIfInBounds_toArray, List.set_cons_succ, List.set_cons_zero]
         refine anyK_take2 (i := 9) (v := ?v9_15) rfl (by kernel_rfl) (by kernel_rfl) (by kernel_rfl) (by rfl) (fun _ _ _ h => h) (by rfl) hHeld ?hy9_15 (some 31) (by rfl) ?rest9_15
         case hy9_15 => (intro W hSw; obtain ⟨⟨x0, x1, x2, x3, x4⟩, y0, y1, y2, y3, y4⟩ := hSw; go_simp; (try with_reducible rfl))
         try simp only [Act.put, List.setIfInBounds_toArray, List.set_cons_succ, List.set_cons_zero]
         refine anyK_take2 (i := 10) (v := ?v10_16) rfl (by kernel_rfl) (by kernel_rfl) (by kernel_rfl) (by rfl) (fun _ _ _ h => h) (by rfl) hHeld ?hy10_16 (some 32) (by rfl) ?rest10_16
         case hy10_16 => (intro W hSw; obtain ⟨⟨x0, x1, x2, x3, x4⟩, y0, y1, y2, y3, y4⟩ := hSw; go_simp; (try with_reducible rfl))
         try simp only [Act.put, List.setIfInBounds_toArray, List.set_cons_succ, List.set_cons_zero]
         refine anyK_take2 (i := 11) (v := ?v11_17) rfl (by kernel_rfl) (by kernel_rfl) (by kernel_rfl) (by rfl) (fun _ _ _ h => h) (by rfl) hHeld ?hy11_17 (some 33) (by rfl) ?rest11_17
         case hy11_17 => (intro W hSw; obtain ⟨⟨x0, x1, x2, x3, x4⟩, y0, y1, y2, y3, y4⟩ := hSw; go_simp; (try with_reducible rfl))
         try simp only [Act.put, List.setIfInBounds_toArray, List.set_cons_succ, List.set_cons_zero]
         refine anyK_step (i := 12) (by kernel_rfl) rfl (fun KP hK => ?_)
         go_simp
         refine (spec_l14edge ti tj cr cw dr dw (HR1.out.below HWD.out (Nat.le_refl _)) (HR2.out.below HWD.out (Nat.le_refl _)) (HT1.out.below HWD.out (Nat.le_refl _)) (HT2.out.below HWD.out (Nat.le_refl _)) HNr.out HNw.out HMr.out HMw.out (by omega) (by omega) (by omega) (by omega) HS1.out HS2.out HS3.out HS4.out).mono ?_
         rintro e u1 ⟨rfl, bb1⟩
         have HSC := hid (show (fun W => Box5 W bb (off + i * 5) ti (.slice ar nr cr) (.slice aw nw cw) ∧ Box5 W bb (off + j * 5) tj (.slice br mr dr) (.slice bw mw dw)) u1 from ⟨HS.out.1.below bb1 (Nat.le_refl _), HS.out.2.below bb1 (Nat.le_refl _)⟩)
         have HWE := hid (HWD.out.trans (bb1.mono HWD.out.size))
         have HOE := hid (owns_below bb1 (Nat.le_refl _) HOD.out)
         clear bb1 HOD
         obtain ⟨G, hG⟩ : ∃ G, edgeB ti tj = G := ⟨_, rfl⟩
         rw [hG] at HEd2
         rw [hG]
         clear hG
         go_wp2_with fail
         clear hHeld
         refine hK.out _ _ HSC.out (fun hHeld => ?_)
         clear hK KP
         try simp only [Act.put, List.setIfInBounds_toArray, List.set_cons_succ, List.set_cons_zero]
         cases G with
         | false =>
          have HN2 := hid (show Q ++ rowE ts i (j + 1) = R by rw [HRn.out, HEd2.out, if_neg (by simp), List.append_nil])
          refine anyK_take2 (i := 13) (v := ?v13_18) rfl (by kernel_rfl) (by kernel_rfl) (by kernel_rfl) (by rfl) (fun _ _ _ h => h) (by rfl) hHeld ?hy13_18 (some 35) (by rfl) ?rest13_18
          case hy13_18 => (intro W hSw; obtain ⟨⟨x0, x1, x2, x3, x4⟩, y0, y1, y2, y3, y4⟩ := hSw; go_simp; (try with_reducible rfl))
          try simp only [Act.put, List.setIfInBounds_toArray, List.set_cons_succ, List.set_cons_zero]
          refine anyK_done (by kernel_rfl) ?_ _
          clear hHeld
          go_wp2_with fail
          go_roundw
          case rel =>
           refine ⟨j + 1, g, cg, by omega, by go_num, by rw [HN2.out, HRL.out], hid ?_, HWE⟩
           rw [HN2.out, HRL.out]; exact HOE.out
          case measure => simp [intOf]; omega
         | true =>
          have HN2 := hid (show Q ++ rowE ts i (j + 1) = R ++ [(i, j)] by rw [HRn.out, HEd2.out, if_pos rfl])
          refine anyK_take2 (i := 13) (v := ?v13_19) rfl (by kernel_rfl) (by kernel_rfl) (by kernel_rfl) (by rfl) (fun _ _ _ h => h) (by rfl) hHeld ?hy13_19 (some 35) (by rfl) ?rest13_19
          case hy13_19 => (intro W hSw; obtain ⟨⟨x0, x1, x2, x3, x4⟩, y0, y1, y2, y3, y4⟩ := hSw; go_simp; (try with_reducible rfl))
          try simp only [Act.put, List.setIfInBounds_toArray, List.set_cons_succ, List.set_cons_zero]
          refine anyK_done (by kernel_rfl) ?_ _
          clear hHeld HS HSC
          have bA := Below.alloc1 u1 (.cells #[.int .i64 (i : Int), .int .i64 (j : Int)] 33)
          have HA1 := hid (heap_alloc_new u1 (.cells #[.int .i64 (i : Int), .int .i64 (j : Int)] 33))
          have OA := hid (owns_below bA (Nat.le_refl _) HOE.out)
          have BA := hid (HWE.out.trans (bA.mono HWE.out.size))
          clear bA
          go_wp2_with (at_builtin; refine wpList_append_row rfl _ _ 27 rfl w1.heap.size 33 i0 (.agg #[.int .i64 0, .int .i64 0]) 2 16 Tryz.underlying27 hinf hz0 hz1 hz2 rfl (by decide) _ rl (fP R) rfl OA.out (some ⟨u1.heap.size, 0, none⟩) 1 1 [.int .i64 (i : Int), .int .i64 (j : Int)] rfl rfl (.inr ⟨_, rfl, World.news_of_block HA1.out⟩) (fun e => by cases e) ?k1 ?k2 ?k3 ?k4 ?_)
          case k1 => simp [Value.oneCell']
          case k2 => unfold maxLen; have := HRz.out; omega
          case k3 => have := HRz.out; omega
          case k4 => exact BA.out.size
          intro a5 c5 w5 o5 hg5
          have O5 := hid (show w5.ownsRow w1.heap.size 33 2 (.slice a5 (rl + 1) c5) (rl + 1) (fP (R ++ [(i, j)])) by rw [fP_app, fP_one]; exact o5)
          have B5 := hid (BA.out.grown hg5 BA.out.size (fun r e => (OA.out.lt r e).1))
          have HN3 := hid (show (R ++ [(i, j)]).length = rl + 1 by rw [List.length_append, HRL.out]; rfl)
          clear o5 hg5
          go_wp2_with fail
          go_roundw
          case rel =>
           refine ⟨j + 1, a5, c5, by omega, by go_num, by rw [HN2.out, HN3.out], hid ?_, B5⟩
           rw [HN2.out, HN3.out]; exact O5.out
          case measure => simp [intOf]; omega
     · have hjn' : ¬ (j : Int) < (n : Int) := by omega
       obtain rfl : j = n := by omega
       have HE := hid HPs.out
       rw [← HPs.out] at HO
       go_wp2_with fail
       go_roundw
       case rel => exact ⟨i + 1, g, cg, by omega, by go_num, by rw [HE.out], HO, HW⟩
       case measure => simp [intOf]; omega
  · have hlt' : ¬ (i : Int) < (n : Int) := by omega
    obtain rfl : i = n := by omega
    rw [← HVe.out] at HO
    try rw [← HVe.out]
    have B2 := hid (B1.out.trans (HW.out.mono B1.out.size))
    have HO2 := hid (owns_lower HO.out B1.out.size)
    go_wp2_with fail
    go_ret
    exact ⟨g, cg, rfl, HO2.out, B2.out⟩
end Go.Proofs.YtjcjoabblafboaaGreat
/- Rows of pairs in the laws: whether two are alike, marks, whether marks are held. Conditions: at most 2^21 pairs. -/


namespace Go.Proofs.YtjcjoabblafboaaGreat
open Go.RowKit
set_option maxRecDepth 100000
def fI (l : List Pr) : List Int := l.flatMap (fun p => [(p.1 : Int), (p.2 : Int)])
theorem fP_ins : ∀ l : List Pr, fP l = ins (fI l)
 | [] => rfl
 | p :: r => by
  have h := fP_ins r
  unfold fP fI ins at *
  rw [List.flatMap_cons, List.flatMap_cons, List.map_append, h]; rfl
structure ReadsP (w : World) (ad : Option Addr) (m : Nat) (zs : List Int) : Prop where
 cells : m = 0 ∨ ∃ b off, ad = some ⟨b, off, none⟩ ∧ ∀ j, j < m → w.cell? ⟨b, off + j * 2, none⟩ = some (.int .i64 (zs.getD (j * 2) 0)) ∧ w.cell? ⟨b, off + j * 2 + 1, none⟩ = some (.int .i64 (zs.getD (j * 2 + 1) 0))
theorem ReadsP.below {w w' : World} {ad : Option Addr} {m : Nat} {zs : List Int} (h : ReadsP w ad m zs) {B : Nat} (hb : Below B w w') (hB : w.heap.size ≤ B) : ReadsP w' ad m zs := by
 refine ⟨?_⟩
 rcases h.cells with q | ⟨b, off, e, hc⟩
 · exact .inl q
 · exact .inr ⟨b, off, e, fun j hj => ⟨(hb.cell (p := ⟨b, off + j * 2, none⟩) (Nat.lt_of_lt_of_le (World.block_lt_of_cell? _ _ (hc j hj).1) hB)).trans (hc j hj).1, (hb.cell (p := ⟨b, off + j * 2 + 1, none⟩) (Nat.lt_of_lt_of_le (World.block_lt_of_cell? _ _ (hc j hj).2) hB)).trans (hc j hj).2⟩⟩
theorem own_readsP {w : World} {base m c : Nat} {a : Option Addr} {zs : List Int} (o : w.ownsRow base 33 2 (.slice a m c) m (ins zs)) : ReadsP w a m zs := by
 refine ⟨?_⟩
 rcases o.2 with ⟨e, _⟩ | ⟨g, cap, cur, e, _⟩
 · exact .inl (Value.slice.inj e).2.1
 · have ea := (Value.slice.inj e).1
   subst ea
   have hz : zs.length = m * 2 := by have := o.1; simpa [ins] using this
   refine .inr ⟨g, 0, rfl, fun j hj => ⟨?_, ?_⟩⟩
   · rw [Nat.zero_add, o.cellAt (j * 2) (by omega)]
     have hq : j * 2 < zs.length := by omega
     simp [ins, List.getD, hq]
   · rw [Nat.zero_add, o.cellAt (j * 2 + 1) (by omega)]
     have hq : j * 2 + 1 < zs.length := by omega
     simp [ins, List.getD, hq]
end Go.Proofs.YtjcjoabblafboaaGreat
/- The contract of the specification's l14ahead. Conditions: at most 2^21 edges, among the deeds. -/

namespace Go.Proofs.YtjcjoabblafboaaGreat
open Go.RowKit
set_option maxRecDepth 100000
theorem fI_at : ∀ (E : List Pr) (j : Nat) (h : j < E.length), (fI E).getD (j * 2) 0 = ((E[j].1 : Nat) : Int) ∧ (fI E).getD (j * 2 + 1) 0 = ((E[j].2 : Nat) : Int)
 | [], j, h => by simp at h
 | p :: E, 0, _ => by simp [fI]
 | p :: E, j + 1, h => by
  have := fI_at E j (by simpa using h)
  rw [show fI (p :: E) = (p.1 : Int) :: (p.2 : Int) :: fI E by simp [fI], show (j + 1) * 2 = j * 2 + 1 + 1 by omega]
  simpa using this
def toB (lf : List Bool) (d : Nat) (p : Pr) : Bool := decide (p.2 = d) && lf.getD p.1 false
def ahV (E : List Pr) (lf : List Bool) (d : Nat) : Int × Bool := match E.find? (toB lf d) with
 | none => (0, false)
 | some p => ((p.1 : Int), true)
end Go.Proofs.YtjcjoabblafboaaGreat
/- Uses of keys in memory: a row of pairs of lists, each in memory of its own. No conditions. -/


namespace Go.Proofs.YtjcjoabblafboaaGreat
open Go.RowKit
set_option maxRecDepth 100000
theorem wpList_append_at {P : Program} {w : World} {ops : Array Oper} {rest : List Oper} {o : Oper} {a : Act} {Q : Exit → Act → World → Prop} (hgd : o.guard = none) (s x : Operand) (t : TypeId)
 (ho : o.op = .call { callee := .builtin .append, args := #[s, x], argTypes := #[t, t] })
 (base : Nat) (e : TypeId) (i : TypeInfo) (z : Value) (size bytes : Nat) (ht : P.underlying t = some (.slice e)) (hi : P.info? e = some i) (hz : i.zero = some z)
 (hsize : i.size = size) (hby : i.bytes = bytes) (hzs : z.cells.size = size) (hsz : 0 < size)
 (v : Value) (n : Nat) (xs : List Value) (hs : a.eval s = v) (hown : w.ownsRow base e size v n xs)
 (ad : Addr) (m c : Nat) (news : List Value) (hx : a.eval x = .slice (some ad) m c) (hl : news.length = m * size) (hnews : ∀ j u, news[j]? = some u → w.cell? (ad.add j) = some u) (h1 : ∀ u ∈ news, u.oneCell' = true)
 (h63 : n + m ≤ maxLen) (hbytes : (n + m) * bytes ≤ 140737488355328) (hbase : base ≤ w.heap.size)
 (h : ∀ a' cap w', w'.ownsRow base e size (.slice a' (n + m) cap) (n + m) (xs ++ news) → w.grownBy w' v.ownBlock → ((Value.slice a' (n + m) cap).ownBlock = v.ownBlock ∨ (Value.slice a' (n + m) cap).ownBlock = some w.heap.size) → wpList P ops Q rest (a.put o.dst (.slice a' (n + m) cap)) w') : wpList P ops Q (o :: rest) a w := by
 refine wpList_plain hgd fun K' hK' => ?_
 obtain ⟨v', w', hr, h2, h3, _, h5⟩ := run_append_own_at (P := P) w base t o.type e i z size bytes ht hi hz hsize hby hzs hsz v n xs hown ad m c news hl hnews h1 h63 hbytes hbase
 obtain ⟨a', c', rfl⟩ := own_sl h2
 unfold Oper.wp execOp
 simp only [ho, resolve, invoke, builtin, Sem.run_bind, Sem.run_pure, Result.andThen_ok, List.map_toArray, List.map_cons, List.map_nil, hs, hx, hr]
 exact hK' _ _ (h a' c' w' h2 h3 h5)
theorem row_set {w : World} {base g n c s : Nat} {t : TypeId} {xs : List Value} (o : w.ownsRow base t s (.slice (some ⟨g, 0, none⟩) n c) n xs) {j : Nat} (hj : j < n * s) (v : Value) : (w.setCell ⟨g, j, none⟩ v).ownsRow base t s (.slice (some ⟨g, 0, none⟩) n c) n (xs.set j v) := by
 obtain ⟨rest, hr, hl, hc, hm, hb⟩ := owns_blk o
 have h1 := heap_setCell_same w g j _ t v hr
 rw [List.setIfInBounds_toArray, List.set_append_left _ _ (by rw [o.1]; exact hj)] at h1
 exact blk_owns h1 (by rw [List.length_set]; exact o.1) (by rw [List.length_append, List.length_set, ← List.length_append]; exact hl) hc hm hb
theorem grown_set (w : World) (g j : Nat) (v : Value) : w.grownBy (w.setCell ⟨g, j, none⟩ v) (some g) := by
 have k := Keeps.set (X := fun b => b = g) w (p := ⟨g, j, none⟩) rfl v
 exact ⟨k.os, k.tape, k.output, k.size, fun i hi hne => k.block i hi (fun e => hne (by rw [e]))⟩
def upd {α : Type} (f : Nat → α) (q : Nat) (v : α) : Nat → α := fun i => if i = q then v else f i
theorem upd_same {α : Type} (f : Nat → α) (q : Nat) (v : α) : upd f q v q = v := by simp [upd]
theorem upd_other {α : Type} (f : Nat → α) {q i : Nat} (v : α) (h : i ≠ q) : upd f q v i = f i := by simp [upd, h]
theorem map_upd {α : Type} (f : Nat → α) (q : Nat) (v : α) (m : Nat) : (List.range m).map (upd f q v) = ((List.range m).map f).set q v := by
 apply List.ext_getElem?
 intro i
 rw [List.getElem?_set]
 by_cases hi : i < m
 · by_cases e : q = i
   · subst e; simp [hi, upd]
   · have : ¬ i = q := fun x => e x.symm
     simp [hi, upd, e, this]
 · by_cases e : q = i
   · subst e; simp [hi]
   · simp [hi, e]
structure OwnU (w : World) (base g n cap : Nat) (X : Nat → Value) (L : Nat → List Nat) : Prop where
 row : w.ownsRow base 91 2 (.slice (some ⟨g, 0, none⟩) n cap) n ((List.range (n * 2)).map X)
 own : ∀ q, q < n * 2 → w.ownsRow base 3 1 (X q) (L q).length (ins (nI (L q)))
 apart : ∀ q r, q < n * 2 → r < n * 2 → q ≠ r → ∀ b, (X q).ownBlock = some b → (X r).ownBlock ≠ some b
section
variable {w w' : World} {base g n cap : Nat} {X : Nat → Value} {L : Nat → List Nat}
theorem OwnU.below (h : OwnU w base g n cap X L) (hb : Below w.heap.size w w') : OwnU w' base g n cap X L :=
 ⟨owns_below hb (Nat.le_refl _) h.row, fun q hq => owns_below hb (Nat.le_refl _) (h.own q hq), h.apart⟩
theorem OwnU.cell (h : OwnU w base g n cap X L) {q : Nat} (hq : q < n * 2) : w.cell? ⟨g, q, none⟩ = some (X q) := by
 rw [h.row.cellAt q hq]; simp [hq]
theorem OwnU.slice (h : OwnU w base g n cap X L) {q : Nat} (hq : q < n * 2) : ∃ a c, X q = .slice a (L q).length c := own_sl (h.own q hq)
theorem OwnU.congr (h : OwnU w base g n cap X L) {L' : Nat → List Nat} (e : ∀ q, q < n * 2 → L' q = L q) : OwnU w base g n cap X L' :=
 ⟨h.row, fun q hq => by rw [e q hq]; exact h.own q hq, h.apart⟩
theorem OwnU.off (h : OwnU w base g n cap X L) {q : Nat} (hq : q < n * 2) : (X q).ownBlock ≠ some g := by
 intro e
 rcases owns_ne (h.own q hq) h.row (by decide) with e1 | e1
 · rw [e1] at e; cases e
 · exact e1 (by rw [e]; rfl)
theorem OwnU.add (h : OwnU w base g n cap X L) {q : Nat} (hq : q < n * 2) {v' : Value} {p : Nat} (o : w'.ownsRow base 3 1 v' ((L q).length + 1) (ins (nI (L q)) ++ [.int .i64 (p : Int)])) (gr : w.grownBy w' (X q).ownBlock) (hb : v'.ownBlock = (X q).ownBlock ∨ v'.ownBlock = some w.heap.size) :
 OwnU (w'.setCell ⟨g, q, none⟩ v') base g n cap (upd X q v') (upd L q (L q ++ [p])) := by
 have hgs := grown_set w' g q v'
 have r1 := h.row.kept gr (owns_ne h.row (h.own q hq) (by decide))
 have hvg : v'.ownBlock ≠ some g := by
  intro e
  rcases owns_ne o r1 (by decide) with e1 | e1
  · rw [e1] at e; cases e
  · exact e1 (by rw [e]; rfl)
 refine ⟨?_, ?_, ?_⟩
 · rw [map_upd]; exact row_set r1 hq v'
 · intro r hr
   by_cases e : r = q
   · subst e
     rw [upd_same, upd_same, List.length_append, nI_app, ins_append]
     exact o.kept hgs (.inr hvg)
   · rw [upd_other _ _ e, upd_other _ _ e]
     have k1 := (h.own r hr).kept gr (by
      cases hx : (X r).ownBlock with
      | none => exact .inl rfl
      | some b => exact .inr (fun e2 => h.apart r q hr hq e b hx e2.symm))
     exact k1.kept hgs (.inr (h.off hr))
 · have hnew : ∀ r, r < n * 2 → r ≠ q → ∀ b, (X r).ownBlock = some b → v'.ownBlock ≠ some b := by
    intro r hr hne b hb' e
    rcases hb with hb | hb
    · exact h.apart r q hr hq hne b hb' (hb ▸ e)
    · rw [hb] at e
      have := ((h.own r hr).lt b hb').2
      have e2 : w.heap.size = b := Option.some.inj e
      omega
   intro r s hr hs hne b hb1 hb2
   by_cases e1 : r = q
   · subst e1
     rw [upd_same] at hb1
     rw [upd_other _ _ (fun e => hne e.symm)] at hb2
     exact hnew s hs (fun e => hne e.symm) b hb2 hb1
   · rw [upd_other _ _ e1] at hb1
     by_cases e2 : s = q
     · subst e2
       rw [upd_same] at hb2
       exact hnew r hr e1 b hb1 hb2
     · rw [upd_other _ _ e2] at hb2
       exact h.apart r s hr hs hne b hb1 hb2
end
end Go.Proofs.YtjcjoabblafboaaGreat
/- Who writes and who reads each key: plain, and the contract of the program's usesOf. Conditions: the deeds are right. -/

namespace Go.Proofs.YtjcjoabblafboaaGreat
open Go.RowKit
set_option maxRecDepth 100000
def dupM (ws : List Im) : List (Im × Im) := ws.map (fun x => (x, x))
def wrB (t : Tk) (x : Im) : Bool := anyS (dupM t.ws) x
def rdB (t : Tk) (x : Im) : Bool := anyS t.rs x
def useB (ts : List Tk) (ks : List Im) (q p : Nat) : Bool := if q % 2 = 0 then wrB (ts.getD p tk0) (ks.getD (q / 2) im0) else rdB (ts.getD p tk0) (ks.getD (q / 2) im0)
def useL (ts : List Tk) (ks : List Im) (k q : Nat) : List Nat := (List.range k).filter (useB ts ks q)
theorem useL_len (ts : List Tk) (ks : List Im) (k q : Nat) : (useL ts ks k q).length ≤ k := by
 unfold useL
 exact Nat.le_trans (List.length_filter_le _ _) (by simp)
theorem filter_snoc14 (f : Nat → Bool) (k : Nat) : (List.range (k + 1)).filter f = (List.range k).filter f ++ (if f k = true then [k] else []) := by
 rw [List.range_succ, List.filter_append]
 congr 1
 cases h : f k <;> simp [h]
theorem useL_succ (ts : List Tk) (ks : List Im) (k q : Nat) : useL ts ks (k + 1) q = useL ts ks k q ++ (if useB ts ks q k = true then [k] else []) := filter_snoc14 _ _
def addL (L : Nat → List Nat) (s : Nat) (P : List Nat) (k : Nat) : Nat → List Nat := fun q => if q % 2 = s ∧ q / 2 ∈ P then L q ++ [k] else L q
theorem addL_nil (L : Nat → List Nat) (s k : Nat) : addL L s [] k = L := by funext q; simp [addL]
theorem addL_step (L : Nat → List Nat) (s : Nat) (hs : s < 2) (P : List Nat) (k x : Nat) (hx : x ∉ P) : addL L s (P ++ [x]) k = upd (addL L s P k) (x * 2 + s) (addL L s P k (x * 2 + s) ++ [k]) := by
 funext q
 by_cases e : q = x * 2 + s
 · subst e
   rw [upd_same]
   have e1 : (x * 2 + s) % 2 = s := by omega
   have e2 : (x * 2 + s) / 2 = x := by omega
   unfold addL
   rw [e1, e2, if_pos ⟨rfl, by simp⟩, if_neg (fun q => hx q.2)]
 · rw [upd_other _ _ e]
   unfold addL
   by_cases e1 : q % 2 = s ∧ q / 2 ∈ P
   · rw [if_pos e1, if_pos ⟨e1.1, by simp [e1.2]⟩]
   · rw [if_neg e1, if_neg]
     rintro ⟨h1, h2⟩
     rcases List.mem_append.1 h2 with h2 | h2
     · exact e1 ⟨h1, h2⟩
     · have : q / 2 = x := by simpa using h2
       omega
theorem plS_mem {ks : List Im} {rs : List (Im × Im)} {i : Nat} (hi : i < ks.length) : i ∈ plS ks rs ↔ anyS rs (ks.getD i im0) = true := by
 unfold plS
 rw [List.mem_filter, List.mem_range]
 exact ⟨fun h => h.2, fun h => ⟨hi, h⟩⟩
theorem plS_lt {ks : List Im} {rs : List (Im × Im)} {i : Nat} (h : i ∈ plS ks rs) : i < ks.length := by
 unfold plS at h
 rw [List.mem_filter, List.mem_range] at h
 exact h.1
theorem plS_nodup (ks : List Im) (rs : List (Im × Im)) : (plS ks rs).Nodup := by
 unfold plS
 exact List.nodup_range.sublist List.filter_sublist
theorem take_nat (P : List Nat) {t : Nat} (h : t < P.length) : P.take (t + 1) = P.take t ++ [P.getD t 0] := by
 rw [List.take_succ_eq_append_getElem h]; simp [List.getD, h]
theorem nodup_at {P : List Nat} (h : P.Nodup) {t : Nat} (ht : t < P.length) : P.getD t 0 ∉ P.take t := by
 have h1 : (P.take (t + 1)).Nodup := h.sublist (List.take_sublist _ _)
 rw [take_nat P ht, List.nodup_append] at h1
 exact fun q => h1.2.2 _ q _ (by simp) rfl
theorem use_done (ts : List Tk) (ks : List Im) (k q : Nat) (hq : q < ks.length * 2) : addL (addL (useL ts ks k) 0 (plS ks (dupM (ts.getD k tk0).ws)) k) 1 (plS ks (ts.getD k tk0).rs) k q = useL ts ks (k + 1) q := by
 rw [useL_succ]
 have hq2 : q / 2 < ks.length := by omega
 rcases Nat.mod_two_eq_zero_or_one q with e | e
 · have hu : useB ts ks q k = anyS (dupM (ts.getD k tk0).ws) (ks.getD (q / 2) im0) := by unfold useB; rw [if_pos e]; rfl
   rw [hu]
   unfold addL
   rw [if_neg (fun x => by omega)]
   by_cases h : q / 2 ∈ plS ks (dupM (ts.getD k tk0).ws)
   · rw [if_pos ⟨e, h⟩, if_pos ((plS_mem hq2).1 h)]
   · rw [if_neg (fun x => h x.2), if_neg (fun x => h ((plS_mem hq2).2 x)), List.append_nil]
 · have hu : useB ts ks q k = anyS (ts.getD k tk0).rs (ks.getD (q / 2) im0) := by unfold useB; rw [if_neg (by omega)]; rfl
   rw [hu]
   unfold addL
   rw [if_neg (fun x => by omega : ¬ (q % 2 = 0 ∧ q / 2 ∈ plS ks (dupM (ts.getD k tk0).ws)))]
   by_cases h : q / 2 ∈ plS ks (ts.getD k tk0).rs
   · rw [if_pos ⟨e, h⟩, if_pos ((plS_mem hq2).1 h)]
   · rw [if_neg (fun x => h x.2), if_neg (fun x => h ((plS_mem hq2).2 x)), List.append_nil]
theorem dupM_ok {ws : List Im} (h : ∀ x ∈ ws, okM x = true) : ∀ p ∈ dupM ws, spB p = true := by
 intro p hp
 obtain ⟨x, hx, rfl⟩ := List.mem_map.1 hp
 unfold spB
 rw [h x hx, cmpM_self (h x hx)]; rfl
theorem Tryz.infoU14 : (Tryz.prog.info? 91).map (fun i => (i.zero, i.size, i.bytes)) = some (some (.agg #[.slice none 0 0, .slice none 0 0]), 2, 48) := by kernel_rfl
theorem madeU (n : Nat) : (madeCells #[.slice none 0 0, .slice none 0 0] (n * 2)).toList = (List.range (n * 2)).map (fun _ => nilS) := by
 simp only [madeCells, Array.toList_map, Array.toList_range]
 refine List.map_congr_left (fun i _ => ?_)
 have : i % 2 < 2 := Nat.mod_lt _ (by omega)
 show (#[(Value.slice none 0 0), .slice none 0 0][i % 2]! : Value) = nilS
 generalize i % 2 = j at this
 rcases j with _ | _ | j
 · rfl
 · rfl
 · omega
theorem OwnU.kept_cell {w w' : World} {base g n cap : Nat} {X : Nat → Value} {L : Nat → List Nat} (h : OwnU w base g n cap X L) {q : Nat} (hq : q < n * 2) (gr : w.grownBy w' (X q).ownBlock) : w'.cell? ⟨g, q, none⟩ = some (X q) ∧ w'.frozen? ⟨g, q, none⟩ = false := by
 have r1 := h.row.kept gr (owns_ne h.row (h.own q hq) (by decide))
 refine ⟨by rw [r1.cellAt q hq]; simp [hq], ?_⟩
 obtain ⟨rest, hr, _⟩ := owns_blk r1
 exact frozen_of_row _ _ _ _ _ hr
end Go.Proofs.YtjcjoabblafboaaGreat
