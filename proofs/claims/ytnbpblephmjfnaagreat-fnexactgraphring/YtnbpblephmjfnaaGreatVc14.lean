/- Pairs of an edge, plain, and the contract of the specification's GraphEdges. Conditions: texts of at most 2^21 bytes. -/
import Derived.Test.YtnbpblephmjfnaaGreatMgd
import Derived.Test.YtnbpblephmjfnaaGreatGg14
namespace Go.Proofs.YtnbpblephmjfnaaGreat
open Go.RowKit
set_option maxRecDepth 100000
abbrev Pr := Nat × Nat
def encP (p : Pr) : List Value := [.int .i64 (p.1 : Int), .int .i64 (p.2 : Int)]
def fP (l : List Pr) : List Value := l.flatMap encP
theorem fP_app (a b : List Pr) : fP (a ++ b) = fP a ++ fP b := by simp [fP]
theorem fP_one (p : Pr) : fP [p] = [.int .i64 (p.1 : Int), .int .i64 (p.2 : Int)] := by simp [fP, encP]
def edB (ts : List Tk) (i j : Nat) : Bool := decide (i ≠ j) && edgeB (ts.getD i tk0) (ts.getD j tk0)
def rowE (ts : List Tk) (i m : Nat) : List Pr := ((List.range m).filter (edB ts i)).map (fun j => (i, j))
theorem rowE_succ (ts : List Tk) (i m : Nat) : rowE ts i (m + 1) = rowE ts i m ++ (if edB ts i m = true then [(i, m)] else []) := by
 unfold rowE
 rw [List.range_succ, List.filter_append, List.map_append]
 by_cases h : edB ts i m = true
 · simp [h]
 · simp [h]
theorem rowE_le (ts : List Tk) (i m : Nat) : (rowE ts i m).length ≤ m := by
 unfold rowE
 rw [List.length_map]
 exact Nat.le_trans (List.length_filter_le _ _) (by rw [List.length_range]; exact Nat.le_refl _)
def prE (ts : List Tk) (n m : Nat) : List Pr := (List.range m).flatMap (fun i => rowE ts i n)
theorem prE_succ (ts : List Tk) (n m : Nat) : prE ts n (m + 1) = prE ts n m ++ rowE ts m n := by
 unfold prE
 rw [List.range_succ, List.flatMap_append]; simp
theorem prE_le (ts : List Tk) (n : Nat) : ∀ m, (prE ts n m).length ≤ m * n
 | 0 => by simp [prE]
 | m + 1 => by
  have h1 := prE_le ts n m
  have h2 := rowE_le ts m n
  rw [prE_succ, List.length_append, Nat.succ_mul]
  omega
noncomputable def edP (ts : List Tk) : List Pr := if deedsB ts = true then prE ts ts.length ts.length else []
theorem Tryz.infoP14 : (Tryz.prog.info? 33).map (fun i => (i.zero, i.size, i.bytes)) = some (some (.agg #[.int .i64 0, .int .i64 0]), 2, 16) := by kernel_rfl
theorem infoP : ∃ i, Tryz.prog.info? 33 = some i ∧ i.zero = some (.agg #[.int .i64 0, .int .i64 0]) ∧ i.size = 2 ∧ i.bytes = 16 := by
 have := Tryz.infoP14
 cases hh : Tryz.prog.info? 33 with
 | none => rw [hh] at this; cases this
 | some i => rw [hh] at this; simp at this; exact ⟨i, rfl, this.1, this.2.1, this.2.2⟩
set_option maxHeartbeats 12800000 in
theorem spec_GraphEdges {a : Option Addr} {n : Nat} (c : Nat) {ts : List Tk} {w : World} (h : ReadsV w a ts) (hl : ts.length = n) (hsm : smT ts) :
 Calls Tryz.prog 13 #[.slice a n c] w fun e w' => ∃ g cg, e = .returned (.slice g (edP ts).length cg) ∧ w'.ownsRow w.heap.size 33 2 (.slice g (edP ts).length cg) (edP ts).length (fP (edP ts)) ∧ Below w.heap.size w w' := by
 obtain ⟨V, hV⟩ : ∃ V, edP ts = V := ⟨_, rfl⟩
 rw [hV]
 have HVV := hid hV
 have HL := hid hl
 have HSm := hid hsm
 obtain ⟨i0, hinf, hz0, hz1, hz2⟩ := infoP
 clear hV
 go_enter Tryz.func13, Tryz.ntmps13
 go_wp2_with fail
 refine (spec_DeedsOk c h hl hsm).mono ?_
 rintro e w1 ⟨rfl, b1⟩
 have B1 := hid b1
 have HR := hid (h.below b1 (Nat.le_refl _))
 clear b1 h hl hsm
 cases hdb : deedsB ts with
 | false =>
  have HF := hid (show V = [] by rw [← HVV.out]; unfold edP; rw [if_neg (by rw [hdb]; simp)])
  clear hdb
  go_wp2_with fail
  go_ret
  rw [HF.out]
  exact ⟨none, 0, rfl, World.ownsRow_nil _ _ _ _, B1.out⟩
 | true =>
 have HVe := hid (show V = prE ts n n by rw [← HVV.out]; unfold edP; rw [if_pos hdb, HL.out])
 have HOk := hid (deedsB_ok hdb)
 have hn : n ≤ 100 := by have := HOk.out.1; have := HL.out; omega
 clear hdb HVV
 go_wp2_with fail
 go_loopw [3, 4] (fun s3 s4 wr => ∃ (i : Nat) (g : Option Addr) (cg : Nat), i ≤ n ∧ s4 = .int .i64 i ∧ s3 = .slice g (prE ts n i).length cg ∧ Hid (wr.ownsRow w1.heap.size 33 2 (.slice g (prE ts n i).length cg) (prE ts n i).length (fP (prE ts n i))) ∧ Hid (Below w1.heap.size w1 wr)) (fun _ s _ => n - (intOf s).toNat)
 case atStart => exact ⟨0, none, 0, Nat.zero_le _, rfl, rfl, hid (World.ownsRow_nil _ _ _ _), hid (Below.refl _ _)⟩
 case round =>
  obtain ⟨i, g, cg, hi, rfl, rfl, HO, HW⟩ := hrel
  by_cases hlt : i < n
  · have hlt' : (i : Int) < (n : Int) := by omega
    have hi0 : (0 : Int) ≤ (i : Int) := by omega
    have HLe := hid (show (prE ts n i).length ≤ 10000 by have := prE_le ts n i; have := Nat.mul_le_mul (show i ≤ 100 by omega) hn; omega)
    have HPs := hid (prE_succ ts n i)
    obtain ⟨bb, off, ar, cr, aw, cw, rfl, bi, r1, q1, r2, q2⟩ := HR.out.at (k := i) (by have := HL.out; omega)
    have hs1 := (HSm.out i).1
    have hs2 := (HSm.out i).2
    obtain ⟨hc1, hc2, -, -⟩ := okDs_at HOk.out (k := i) (by have := HL.out; omega)
    obtain ⟨ti, hti⟩ : ∃ t, ts.getD i tk0 = t := ⟨_, rfl⟩
    have HTi := hid hti
    rw [hti] at bi r1 r2 hs1 hs2 hc1 hc2
    obtain ⟨nr, hnr⟩ : ∃ x, ti.rs.length = x := ⟨_, rfl⟩
    obtain ⟨nw, hnw⟩ : ∃ x, ti.ws.length = x := ⟨_, rfl⟩
    rw [hnr, hnw] at bi
    rw [hnr] at hc1
    rw [hnw] at hc2
    have HNr := hid hnr
    have HNw := hid hnw
    have HBi := hid bi
    have HR1 := hid r1
    have HR2 := hid r2
    have HS1 := hid hs1
    have HS2 := hid hs2
    obtain ⟨Q, hQ⟩ : ∃ Q, prE ts n i = Q := ⟨_, rfl⟩
    rw [hQ] at HO HLe HPs
    try rw [hQ]
    clear hti hnr hnw bi r1 r2 q1 q2 hs1 hs2 hQ
    go_wp2_with fail
    go_loopw [3, 5] (fun s3 s5 wq => ∃ (j : Nat) (g : Option Addr) (cg : Nat), j ≤ n ∧ s5 = .int .i64 j ∧ s3 = .slice g (Q ++ rowE ts i j).length cg ∧ Hid (wq.ownsRow w1.heap.size 33 2 (.slice g (Q ++ rowE ts i j).length cg) (Q ++ rowE ts i j).length (fP (Q ++ rowE ts i j))) ∧ Hid (Below w1.heap.size w1 wq)) (fun _ s _ => n - (intOf s).toNat)
    case atStart => exact ⟨0, g, cg, Nat.zero_le _, rfl, by simp [rowE], by simpa [rowE] using HO, HW⟩
    case round =>
     clear HO HW
     obtain ⟨j, g, cg, hj, rfl, rfl, HO, HW⟩ := hrel
     by_cases hjn : j < n
     · have hjn' : (j : Int) < (n : Int) := by omega
       have hj0 : (0 : Int) ≤ (j : Int) := by omega
       have HRs := hid (rowE_succ ts i j)
       have HRl := hid (rowE_le ts i j)
       obtain ⟨bb2, off2, br, dr, bw, dw, e2, bj, s1, q1, s2, q2⟩ := HR.out.at (k := j) (by have := HL.out; omega)
       obtain ⟨rfl, rfl⟩ : bb = bb2 ∧ off = off2 := by simpa using e2
       have hs1 := (HSm.out j).1
       have hs2 := (HSm.out j).2
       obtain ⟨hd1, hd2, -, -⟩ := okDs_at HOk.out (k := j) (by have := HL.out; omega)
       have HEd := hid (show edB ts i j = (decide (i ≠ j) && edgeB ti (ts.getD j tk0)) by unfold edB; rw [HTi.out])
       obtain ⟨tj, htj⟩ : ∃ t, ts.getD j tk0 = t := ⟨_, rfl⟩
       rw [htj] at bj s1 s2 hs1 hs2 hd1 hd2 HEd
       obtain ⟨mr, hmr⟩ : ∃ x, tj.rs.length = x := ⟨_, rfl⟩
       obtain ⟨mw, hmw⟩ : ∃ x, tj.ws.length = x := ⟨_, rfl⟩
       rw [hmr, hmw] at bj
       rw [hmr] at hd1
       rw [hmw] at hd2
       have HMr := hid hmr
       have HMw := hid hmw
       have HT1 := hid s1
       have HT2 := hid s2
       have HS3 := hid hs1
       have HS4 := hid hs2
       obtain ⟨R, hR⟩ : ∃ R, Q ++ rowE ts i j = R := ⟨_, rfl⟩
       have HRn := hid (show Q ++ rowE ts i (j + 1) = R ++ (if edB ts i j = true then [(i, j)] else []) by rw [HRs.out, ← List.append_assoc, hR])
       have HRz := hid (show R.length ≤ 10100 by rw [← hR, List.length_append]; have := HLe.out; have := HRl.out; omega)
       rw [hR] at HO
       try rw [hR]
       have bD := (Below.refl wr.heap.size wr).drew
       have HOD := hid (owns_below bD (Nat.le_refl _) HO.out)
       have HWD := hid (HW.out.trans (bD.mono HW.out.size))
       have HS := hid (show (fun W => Box5 W bb (off + i * 5) ti (.slice ar nr cr) (.slice aw nw cw) ∧ Box5 W bb (off + j * 5) tj (.slice br mr dr) (.slice bw mw dw)) wr.drew from ⟨(HBi.out.below HW.out (Nat.le_refl _)).below bD (Nat.le_refl _), (bj.below HW.out (Nat.le_refl _)).below bD (Nat.le_refl _)⟩)
       clear bj s1 s2 q1 q2 hs1 hs2 e2 htj hmr hmw hR bD HRs HO HW HRl
       go_wp2
       refine region_K 99 (fun W => Box5 W bb (off + i * 5) ti (.slice ar nr cr) (.slice aw nw cw) ∧ Box5 W bb (off + j * 5) tj (.slice br mr dr) (.slice bw mw dw)) (by kernel_rfl) ?_ (fun hHeld => ?_)
       · exact HS.out
       generalize wr.drew = v0 at *
       obtain ⟨rl, hrl⟩ : ∃ rl, R.length = rl := ⟨_, rfl⟩
       rw [hrl] at HOD HRz
       try rw [hrl]
       have HRL := hid hrl
       clear hrl
       by_cases hij : i = j
       · have hne : ((i : Int) != (j : Int)) = false := by simpa using (show (i : Int) = (j : Int) by omega)
         have HN2 := hid (show Q ++ rowE ts i (j + 1) = R by rw [HRn.out, HEd.out, decide_eq_false (fun z => z hij), Bool.false_and, if_neg (by simp), List.append_nil])
         clear hij
         refine anyK_take2 (i := 0) (v := ?v0_1) rfl (by kernel_rfl) (by kernel_rfl) (by kernel_rfl) (by rfl) (fun _ _ _ h => h) (by rfl) hHeld ?hy0_1 (some 22) (by rfl) ?rest0_1
         case hy0_1 => (intro W hSw; obtain ⟨⟨x0, x1, x2, x3, x4⟩, y0, y1, y2, y3, y4⟩ := hSw; go_simp; (try with_reducible rfl))
         try simp only [Act.put, List.setIfInBounds_toArray, List.set_cons_succ, List.set_cons_zero]
         refine anyK_take2 (i := 1) (v := ?v1_2) rfl (by kernel_rfl) (by kernel_rfl) (by kernel_rfl) (by rfl) (fun _ _ _ h => h) (by rfl) hHeld ?hy1_2 (some 23) (by rfl) ?rest1_2
         case hy1_2 => (intro W hSw; obtain ⟨⟨x0, x1, x2, x3, x4⟩, y0, y1, y2, y3, y4⟩ := hSw; go_simp; (try with_reducible rfl))
         try simp only [Act.put, List.setIfInBounds_toArray, List.set_cons_succ, List.set_cons_zero]
         refine anyK_take2 (i := 2) (v := ?v2_3) rfl (by kernel_rfl) (by kernel_rfl) (by kernel_rfl) (by rfl) (fun _ _ _ h => h) (by rfl) hHeld ?hy2_3 (some 24) (by rfl) ?rest2_3
         case hy2_3 => (intro W hSw; obtain ⟨⟨x0, x1, x2, x3, x4⟩, y0, y1, y2, y3, y4⟩ := hSw; go_simp; (try with_reducible rfl))
         try simp only [Act.put, List.setIfInBounds_toArray, List.set_cons_succ, List.set_cons_zero]
         refine anyK_take2 (i := 3) (v := ?v3_4) rfl (by kernel_rfl) (by kernel_rfl) (by kernel_rfl) (by rfl) (fun _ _ _ h => h) (by rfl) hHeld ?hy3_4 (some 25) (by rfl) ?rest3_4
         case hy3_4 => (intro W hSw; obtain ⟨⟨x0, x1, x2, x3, x4⟩, y0, y1, y2, y3, y4⟩ := hSw; go_simp; (try with_reducible rfl))
         try simp only [Act.put, List.setIfInBounds_toArray, List.set_cons_succ, List.set_cons_zero]
         refine anyK_skip (i := 4) rfl (by kernel_rfl) (by kernel_rfl) (by kernel_rfl) (by kernel_rfl) (fun _ _ _ h => h) (by rfl) hHeld (some 26) (by rfl) ?_
         try simp only [Act.put, List.setIfInBounds_toArray, List.set_cons_succ, List.set_cons_zero]
         refine anyK_skip (i := 5) rfl (by kernel_rfl) (by kernel_rfl) (by kernel_rfl) (by kernel_rfl) (fun _ _ _ h => h) (by rfl) hHeld (some 27) (by rfl) ?_
         try simp only [Act.put, List.setIfInBounds_toArray, List.set_cons_succ, List.set_cons_zero]
         refine anyK_skip (i := 6) rfl (by kernel_rfl) (by kernel_rfl) (by kernel_rfl) (by kernel_rfl) (fun _ _ _ h => h) (by rfl) hHeld (some 28) (by rfl) ?_
         try simp only [Act.put, List.setIfInBounds_toArray, List.set_cons_succ, List.set_cons_zero]
         refine anyK_skip (i := 7) rfl (by kernel_rfl) (by kernel_rfl) (by kernel_rfl) (by kernel_rfl) (fun _ _ _ h => h) (by rfl) hHeld (some 29) (by rfl) ?_
         try simp only [Act.put, List.setIfInBounds_toArray, List.set_cons_succ, List.set_cons_zero]
         refine anyK_skip (i := 8) rfl (by kernel_rfl) (by kernel_rfl) (by kernel_rfl) (by kernel_rfl) (fun _ _ _ h => h) (by rfl) hHeld (some 30) (by rfl) ?_
         try simp only [Act.put, List.setIfInBounds_toArray, List.set_cons_succ, List.set_cons_zero]
         refine anyK_skip (i := 9) rfl (by kernel_rfl) (by kernel_rfl) (by kernel_rfl) (by kernel_rfl) (fun _ _ _ h => h) (by rfl) hHeld (some 31) (by rfl) ?_
         try simp only [Act.put, List.setIfInBounds_toArray, List.set_cons_succ, List.set_cons_zero]
         refine anyK_skip (i := 10) rfl (by kernel_rfl) (by kernel_rfl) (by kernel_rfl) (by kernel_rfl) (fun _ _ _ h => h) (by rfl) hHeld (some 32) (by rfl) ?_
         try simp only [Act.put, List.setIfInBounds_toArray, List.set_cons_succ, List.set_cons_zero]
         refine anyK_skip (i := 11) rfl (by kernel_rfl) (by kernel_rfl) (by kernel_rfl) (by kernel_rfl) (fun _ _ _ h => h) (by rfl) hHeld (some 33) (by rfl) ?_
         try simp only [Act.put, List.setIfInBounds_toArray, List.set_cons_succ, List.set_cons_zero]
         refine anyK_skip (i := 12) rfl (by kernel_rfl) (by kernel_rfl) (by kernel_rfl) (by kernel_rfl) (fun _ _ _ h => h) (by rfl) hHeld (some 34) (by rfl) ?_
         try simp only [Act.put, List.setIfInBounds_toArray, List.set_cons_succ, List.set_cons_zero]
         refine anyK_take2 (i := 13) (v := ?v13_5) rfl (by kernel_rfl) (by kernel_rfl) (by kernel_rfl) (by rfl) (fun _ _ _ h => h) (by rfl) hHeld ?hy13_5 (some 35) (by rfl) ?rest13_5
         case hy13_5 => (intro W hSw; obtain ⟨⟨x0, x1, x2, x3, x4⟩, y0, y1, y2, y3, y4⟩ := hSw; go_simp; (try with_reducible rfl))
         try simp only [Act.put, List.setIfInBounds_toArray, List.set_cons_succ, List.set_cons_zero]
         refine anyK_done (by kernel_rfl) ?_ _
         clear hHeld
         go_wp2_with fail
         go_roundw
         case rel =>
          refine ⟨j + 1, g, cg, by omega, by go_num, by rw [HN2.out, HRL.out], hid ?_, HWD⟩
          rw [HN2.out, HRL.out]; exact HOD.out
         case measure => simp [intOf]; omega
       · have hne : ((i : Int) != (j : Int)) = true := by rw [bne_iff_ne]; omega
         have HEd2 := hid (show edB ts i j = edgeB ti tj by rw [HEd.out, decide_eq_true hij, Bool.true_and])
         clear hij
         refine anyK_take2 (i := 0) (v := ?v0_6) rfl (by kernel_rfl) (by kernel_rfl) (by kernel_rfl) (by rfl) (fun _ _ _ h => h) (by rfl) hHeld ?hy0_6 (some 22) (by rfl) ?rest0_6
         case hy0_6 => (intro W hSw; obtain ⟨⟨x0, x1, x2, x3, x4⟩, y0, y1, y2, y3, y4⟩ := hSw; go_simp; (try with_reducible rfl))
         try simp only [Act.put, List.setIfInBounds_toArray, List.set_cons_succ, List.set_cons_zero]
         refine anyK_take2 (i := 1) (v := ?v1_7) rfl (by kernel_rfl) (by kernel_rfl) (by kernel_rfl) (by rfl) (fun _ _ _ h => h) (by rfl) hHeld ?hy1_7 (some 23) (by rfl) ?rest1_7
         case hy1_7 => (intro W hSw; obtain ⟨⟨x0, x1, x2, x3, x4⟩, y0, y1, y2, y3, y4⟩ := hSw; go_simp; (try with_reducible rfl))
         try simp only [Act.put, List.setIfInBounds_toArray, List.set_cons_succ, List.set_cons_zero]
         refine anyK_take2 (i := 2) (v := ?v2_8) rfl (by kernel_rfl) (by kernel_rfl) (by kernel_rfl) (by rfl) (fun _ _ _ h => h) (by rfl) hHeld ?hy2_8 (some 24) (by rfl) ?rest2_8
         case hy2_8 => (intro W hSw; obtain ⟨⟨x0, x1, x2, x3, x4⟩, y0, y1, y2, y3, y4⟩ := hSw; go_simp; (try with_reducible rfl))
         try simp only [Act.put, List.setIfInBounds_toArray, List.set_cons_succ, List.set_cons_zero]
         refine anyK_take2 (i := 3) (v := ?v3_9) rfl (by kernel_rfl) (by kernel_rfl) (by kernel_rfl) (by rfl) (fun _ _ _ h => h) (by rfl) hHeld ?hy3_9 (some 25) (by rfl) ?rest3_9
         case hy3_9 => (intro W hSw; obtain ⟨⟨x0, x1, x2, x3, x4⟩, y0, y1, y2, y3, y4⟩ := hSw; go_simp; (try with_reducible rfl))
         try simp only [Act.put, List.setIfInBounds_toArray, List.set_cons_succ, List.set_cons_zero]
         refine anyK_take2 (i := 4) (v := ?v4_10) rfl (by kernel_rfl) (by kernel_rfl) (by kernel_rfl) (by rfl) (fun _ _ _ h => h) (by rfl) hHeld ?hy4_10 (some 26) (by rfl) ?rest4_10
         case hy4_10 => (intro W hSw; obtain ⟨⟨x0, x1, x2, x3, x4⟩, y0, y1, y2, y3, y4⟩ := hSw; go_simp; (try with_reducible rfl))
         try simp only [Act.put, List.setIfInBounds_toArray, List.set_cons_succ, List.set_cons_zero]
         refine anyK_take2 (i := 5) (v := ?v5_11) rfl (by kernel_rfl) (by kernel_rfl) (by kernel_rfl) (by rfl) (fun _ _ _ h => h) (by rfl) hHeld ?hy5_11 (some 27) (by rfl) ?rest5_11
         case hy5_11 => (intro W hSw; obtain ⟨⟨x0, x1, x2, x3, x4⟩, y0, y1, y2, y3, y4⟩ := hSw; go_simp; (try with_reducible rfl))
         try simp only [Act.put, List.setIfInBounds_toArray, List.set_cons_succ, List.set_cons_zero]
         refine anyK_take2 (i := 6) (v := ?v6_12) rfl (by kernel_rfl) (by kernel_rfl) (by kernel_rfl) (by rfl) (fun _ _ _ h => h) (by rfl) hHeld ?hy6_12 (some 28) (by rfl) ?rest6_12
         case hy6_12 => (intro W hSw; obtain ⟨⟨x0, x1, x2, x3, x4⟩, y0, y1, y2, y3, y4⟩ := hSw; go_simp; (try with_reducible rfl))
         try simp only [Act.put, List.setIfInBounds_toArray, List.set_cons_succ, List.set_cons_zero]
         refine anyK_take2 (i := 7) (v := ?v7_13) rfl (by kernel_rfl) (by kernel_rfl) (by kernel_rfl) (by rfl) (fun _ _ _ h => h) (by rfl) hHeld ?hy7_13 (some 29) (by rfl) ?rest7_13
         case hy7_13 => (intro W hSw; obtain ⟨⟨x0, x1, x2, x3, x4⟩, y0, y1, y2, y3, y4⟩ := hSw; go_simp; (try with_reducible rfl))
         try simp only [Act.put, List.setIfInBounds_toArray, List.set_cons_succ, List.set_cons_zero]
         refine anyK_take2 (i := 8) (v := ?v8_14) rfl (by kernel_rfl) (by kernel_rfl) (by kernel_rfl) (by rfl) (fun _ _ _ h => h) (by rfl) hHeld ?hy8_14 (some 30) (by rfl) ?rest8_14
         case hy8_14 => (intro W hSw; obtain ⟨⟨x0, x1, x2, x3, x4⟩, y0, y1, y2, y3, y4⟩ := hSw; go_simp; (try with_reducible rfl))
         try simp only [Act.put, List.setIfInBounds_toArray, List.set_cons_succ, List.set_cons_zero]
         refine anyK_take2 (i := 9) (v := ?v9_15) rfl (by kernel_rfl) (by kernel_rfl) (by kernel_rfl) (by rfl) (fun _ _ _ h => h) (by rfl) hHeld ?hy9_15 (some 31) (by rfl) ?rest9_15
         case hy9_15 => (intro W hSw; obtain ⟨⟨x0, x1, x2, x3, x4⟩, y0, y1, y2, y3, y4⟩ := hSw; go_simp; (try with_reducible rfl))
         try simp only [Act.put, List.setIfInBounds_toArray, List.set_cons_succ, List.set_cons_zero]
         refine anyK_take2 (i := 10) (v := ?v10_16) rfl (by kernel_rfl) (by kernel_rfl) (by kernel_rfl) (by rfl) (fun _ _ _ h => h) (by rfl) hHeld ?hy10_16 (some 32) (by rfl) ?rest10_16
         case hy10_16 => (intro W hSw; obtain ⟨⟨x0, x1, x2, x3, x4⟩, y0, y1, y2, y3, y4⟩ := hSw; go_simp; (try with_reducible rfl))
         try simp only [Act.put, List.setIfInBounds_toArray, List.set_cons_succ, List.set_cons_zero]
         refine anyK_take2 (i := 11) (v := ?v11_17) rfl (by kernel_rfl) (by kernel_rfl) (by kernel_rfl) (by rfl) (fun _ _ _ h => h) (by rfl) hHeld ?hy11_17 (some 33) (by rfl) ?rest11_17
         case hy11_17 => (intro W hSw; obtain ⟨⟨x0, x1, x2, x3, x4⟩, y0, y1, y2, y3, y4⟩ := hSw; go_simp; (try with_reducible rfl))
         try simp only [Act.put, List.setIfInBounds_toArray, List.set_cons_succ, List.set_cons_zero]
         refine anyK_step (i := 12) (by kernel_rfl) rfl (fun KP hK => ?_)
         go_simp
         refine (spec_l14edge ti tj cr cw dr dw (HR1.out.below HWD.out (Nat.le_refl _)) (HR2.out.below HWD.out (Nat.le_refl _)) (HT1.out.below HWD.out (Nat.le_refl _)) (HT2.out.below HWD.out (Nat.le_refl _)) HNr.out HNw.out HMr.out HMw.out (by omega) (by omega) (by omega) (by omega) HS1.out HS2.out HS3.out HS4.out).mono ?_
         rintro e u1 ⟨rfl, bb1⟩
         have HSC := hid (show (fun W => Box5 W bb (off + i * 5) ti (.slice ar nr cr) (.slice aw nw cw) ∧ Box5 W bb (off + j * 5) tj (.slice br mr dr) (.slice bw mw dw)) u1 from ⟨HS.out.1.below bb1 (Nat.le_refl _), HS.out.2.below bb1 (Nat.le_refl _)⟩)
         have HWE := hid (HWD.out.trans (bb1.mono HWD.out.size))
         have HOE := hid (owns_below bb1 (Nat.le_refl _) HOD.out)
         clear bb1 HOD
         obtain ⟨G, hG⟩ : ∃ G, edgeB ti tj = G := ⟨_, rfl⟩
         rw [hG] at HEd2
         rw [hG]
         clear hG
         go_wp2_with fail
         clear hHeld
         refine hK.out _ _ HSC.out (fun hHeld => ?_)
         clear hK KP
         try simp only [Act.put, List.setIfInBounds_toArray, List.set_cons_succ, List.set_cons_zero]
         cases G with
         | false =>
          have HN2 := hid (show Q ++ rowE ts i (j + 1) = R by rw [HRn.out, HEd2.out, if_neg (by simp), List.append_nil])
          refine anyK_take2 (i := 13) (v := ?v13_18) rfl (by kernel_rfl) (by kernel_rfl) (by kernel_rfl) (by rfl) (fun _ _ _ h => h) (by rfl) hHeld ?hy13_18 (some 35) (by rfl) ?rest13_18
          case hy13_18 => (intro W hSw; obtain ⟨⟨x0, x1, x2, x3, x4⟩, y0, y1, y2, y3, y4⟩ := hSw; go_simp; (try with_reducible rfl))
          try simp only [Act.put, List.setIfInBounds_toArray, List.set_cons_succ, List.set_cons_zero]
          refine anyK_done (by kernel_rfl) ?_ _
          clear hHeld
          go_wp2_with fail
          go_roundw
          case rel =>
           refine ⟨j + 1, g, cg, by omega, by go_num, by rw [HN2.out, HRL.out], hid ?_, HWE⟩
           rw [HN2.out, HRL.out]; exact HOE.out
          case measure => simp [intOf]; omega
         | true =>
          have HN2 := hid (show Q ++ rowE ts i (j + 1) = R ++ [(i, j)] by rw [HRn.out, HEd2.out, if_pos rfl])
          refine anyK_take2 (i := 13) (v := ?v13_19) rfl (by kernel_rfl) (by kernel_rfl) (by kernel_rfl) (by rfl) (fun _ _ _ h => h) (by rfl) hHeld ?hy13_19 (some 35) (by rfl) ?rest13_19
          case hy13_19 => (intro W hSw; obtain ⟨⟨x0, x1, x2, x3, x4⟩, y0, y1, y2, y3, y4⟩ := hSw; go_simp; (try with_reducible rfl))
          try simp only [Act.put, List.setIfInBounds_toArray, List.set_cons_succ, List.set_cons_zero]
          refine anyK_done (by kernel_rfl) ?_ _
          clear hHeld HS HSC
          have bA := Below.alloc1 u1 (.cells #[.int .i64 (i : Int), .int .i64 (j : Int)] 33)
          have HA1 := hid (heap_alloc_new u1 (.cells #[.int .i64 (i : Int), .int .i64 (j : Int)] 33))
          have OA := hid (owns_below bA (Nat.le_refl _) HOE.out)
          have BA := hid (HWE.out.trans (bA.mono HWE.out.size))
          clear bA
          go_wp2_with (at_builtin; refine wpList_append_row rfl _ _ 27 rfl w1.heap.size 33 i0 (.agg #[.int .i64 0, .int .i64 0]) 2 16 Tryz.underlying27 hinf hz0 hz1 hz2 rfl (by decide) _ rl (fP R) rfl OA.out (some ⟨u1.heap.size, 0, none⟩) 1 1 [.int .i64 (i : Int), .int .i64 (j : Int)] rfl rfl (.inr ⟨_, rfl, World.news_of_block HA1.out⟩) (fun e => by cases e) ?k1 ?k2 ?k3 ?k4 ?_)
          case k1 => simp [Value.oneCell']
          case k2 => unfold maxLen; have := HRz.out; omega
          case k3 => have := HRz.out; omega
          case k4 => exact BA.out.size
          intro a5 c5 w5 o5 hg5
          have O5 := hid (show w5.ownsRow w1.heap.size 33 2 (.slice a5 (rl + 1) c5) (rl + 1) (fP (R ++ [(i, j)])) by rw [fP_app, fP_one]; exact o5)
          have B5 := hid (BA.out.grown hg5 BA.out.size (fun r e => (OA.out.lt r e).1))
          have HN3 := hid (show (R ++ [(i, j)]).length = rl + 1 by rw [List.length_append, HRL.out]; rfl)
          clear o5 hg5
          go_wp2_with fail
          go_roundw
          case rel =>
           refine ⟨j + 1, a5, c5, by omega, by go_num, by rw [HN2.out, HN3.out], hid ?_, B5⟩
           rw [HN2.out, HN3.out]; exact O5.out
          case measure => simp [intOf]; omega
     · have hjn' : ¬ (j : Int) < (n : Int) := by omega
       obtain rfl : j = n := by omega
       have HE := hid HPs.out
       rw [← HPs.out] at HO
       go_wp2_with fail
       go_roundw
       case rel => exact ⟨i + 1, g, cg, by omega, by go_num, by rw [HE.out], HO, HW⟩
       case measure => simp [intOf]; omega
  · have hlt' : ¬ (i : Int) < (n : Int) := by omega
    obtain rfl : i = n := by omega
    rw [← HVe.out] at HO
    try rw [← HVe.out]
    have B2 := hid (B1.out.trans (HW.out.mono B1.out.size))
    have HO2 := hid (owns_lower HO.out B1.out.size)
    go_wp2_with fail
    go_ret
    exact ⟨g, cg, rfl, HO2.out, B2.out⟩
end Go.Proofs.YtnbpblephmjfnaaGreat
