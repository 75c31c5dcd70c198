/- Texts of this proof in one: En13 Eo13 Ep13 Eu13. -/
import Derived.Test.YtnbpblephmjfnaaGreatMgc
import Derived.Test.YtnbpblephmjfnaaGreatMgb
/- The contracts of the specification's l13items and l13spans. Conditions: at most 100000 of them, texts of at most 2^21 bytes. -/


namespace Go.Proofs.YtnbpblephmjfnaaGreat
open Go.RowKit
set_option maxRecDepth 100000
end Go.Proofs.YtnbpblephmjfnaaGreat
/- The contract of the specification's l13copy. Conditions: at most 2^20 tracks, reads and writes, texts of at most 2^21 bytes. -/


namespace Go.Proofs.YtnbpblephmjfnaaGreat
open Go.RowKit
set_option maxRecDepth 100000
end Go.Proofs.YtnbpblephmjfnaaGreat
/- Marks of tracks that are the call's own; EdgeBegin, plain, and the contract of the specification's. Conditions: at most 2^20 tracks, reads and writes, texts of at most 2^21 bytes. -/


namespace Go.Proofs.YtnbpblephmjfnaaGreat
open Go.RowKit
set_option maxRecDepth 100000
def newT (xid now : Int) : Tk := ⟨xid, now, 0, false, [], [], false, false⟩
open Classical in
noncomputable def beginS (ts : List Tk) (xid now : Int) : List Tk := if tracksB ts = true ∧ tracksB (ts ++ [newT xid now]) = true then ts ++ [newT xid now] else []
open Classical in
noncomputable def beginC (ts : List Tk) (xid now : Int) : Int := if tracksB ts = true ∧ tracksB (ts ++ [newT xid now]) = true then 0 else 1
end Go.Proofs.YtnbpblephmjfnaaGreat
/- The contract of the specification's l13has. Conditions: texts of at most 2^21 bytes, at most 2^21 items. -/


namespace Go.Proofs.YtnbpblephmjfnaaGreat
open Go.RowKit
set_option maxRecDepth 100000
def hasM (ws : List Im) (x : Im) : Bool := ws.any (fun e => decide (cmpM e x = 0))
theorem hasM_none {ws : List Im} {x : Im} (h : ∀ i, i < ws.length → decide (cmpM (ws.getD i im0) x = 0) = false) : hasM ws x = false := by
 unfold hasM
 rw [List.any_eq_false]
 intro p hp
 obtain ⟨i, hi, rfl⟩ := List.getElem_of_mem hp
 have := h i hi
 rw [show ws.getD i im0 = ws[i] by simp [List.getD, hi]] at this
 rw [this]; simp
theorem hasM_one {ws : List Im} {x : Im} {i : Nat} (hi : i < ws.length) (h : decide (cmpM (ws.getD i im0) x = 0) = true) : hasM ws x = true := by
 unfold hasM
 rw [List.any_eq_true]
 refine ⟨ws[i], List.getElem_mem hi, ?_⟩
 rw [show ws.getD i im0 = ws[i] by simp [List.getD, hi]] at h
 exact h
set_option maxHeartbeats 6400000 in
theorem spec_l13has {ad : Option Addr} {n : Nat} (cap : Nat) {ws : List Im} {KX NX : Int} {FX : Nat} {ZX : List Int} {ax : Option Addr} {m : Nat} (cx : Nat) {w : World} (h : ReadsM w ad ws) (hl : ws.length = n) (hn : n ≤ 2097152) (hM : ZX.length = m) (hx : Reads w ax m ZX) (hfx : FX < 18446744073709551616) (hnx : m ≤ 2097152) (hs : ∀ i, (ws.getD i im0).Z.length ≤ 2097152) :
 Calls Tryz.prog 52 #[.slice ad n cap, .agg #[.int .i64 KX, .int .i64 NX, .float .f64 FX, .slice ax m cx]] w fun e w' => e = .returned (.bool (hasM ws ⟨KX, NX, FX, ZX⟩)) ∧ Below w.heap.size w w' := by
 have hst := fun w a m => run_store Tryz.prog w a (.float .f64 FX) m rfl
 have hB := Below.alloc1 w (.cells #[.int .i64 KX, .int .i64 NX, .float .f64 FX, .slice ax m cx] 72)
 have R1 := heap_alloc_new w (.cells #[.int .i64 KX, .int .i64 NX, .float .f64 FX, .slice ax m cx] 72)
 have z := alloc_size w (.cells #[.int .i64 KX, .int .i64 NX, .float .f64 FX, .slice ax m cx] 72)
 have HRM := hid h
 have HRX := hid hx
 obtain ⟨V, hV⟩ : ∃ V, hasM ws ⟨KX, NX, FX, ZX⟩ = V := ⟨_, rfl⟩
 rw [hV]
 have HV := hid hV
 have HM := hid hM
 have HL := hid hl
 have HS := hid hs
 have HB := hid hB
 have HR1 := hid R1
 have HZ := hid z
 clear hB R1 z h hx hV hM hl hs
 go_enter Tryz.func52, Tryz.ntmps52
 go_wp2_with fail
 obtain ⟨w1, hw1⟩ : ∃ w1, w.alloc (.cells #[.int .i64 KX, .int .i64 NX, .float .f64 FX, .slice ax m cx] 72) = w1 := ⟨_, rfl⟩
 rw [hw1] at HB HR1 HZ
 try rw [hw1]
 clear hw1
 go_loopw [5] (fun i wr => ∃ k : Nat, k ≤ n ∧ i = .int .i64 k ∧ Hid (∀ i, i < k → decide (cmpM (ws.getD i im0) ⟨KX, NX, FX, ZX⟩ = 0) = false) ∧ Hid (Below w1.heap.size w1 wr)) (fun i _ => n - (intOf i).toNat)
 case atStart => exact ⟨0, Nat.zero_le _, rfl, hid (fun i hi => by omega), hid (Below.refl _ _)⟩
 case round =>
  obtain ⟨k, hk, rfl, HNo, HW⟩ := hrel
  have HBW := hid (HB.out.trans (HW.out.mono HB.out.size))
  by_cases hlt : k < n
  · have hlt' : (k : Int) < (n : Int) := by omega
    have hk0 : (0 : Int) ≤ (k : Int) := by omega
    have r1 := (HW.out.block w.heap.size (by have := HZ.out; omega)).trans HR1.out
    obtain ⟨b, off, p1, d1, rfl, bx, q1, _, _, hf1⟩ := HRM.out.at (k := k) (by have := HL.out; omega)
    have hz1 := HS.out k
    have HOne := hid (fun q => hasM_one (ws := ws) (x := ⟨KX, NX, FX, ZX⟩) (i := k) (by have := HL.out; omega) q)
    have HNx := hid (fun (q : decide (cmpM (ws.getD k im0) ⟨KX, NX, FX, ZX⟩ = 0) = false) i (hi : i < k + 1) => show decide (cmpM (ws.getD i im0) ⟨KX, NX, FX, ZX⟩ = 0) = false from by
     by_cases hc : i < k
     · exact HNo.out i hc
     · have : i = k := by omega
       subst this; exact q)
    generalize ws.getD k im0 = pp at *
    obtain ⟨K1, N1, F1, Z1⟩ := pp
    simp only at bx q1 hf1 hz1
    have HCm := hid (show cmpM ⟨K1, N1, F1, Z1⟩ ⟨KX, NX, FX, ZX⟩ = cmpI K1 N1 F1 Z1.length Z1 KX NX FX m ZX by unfold cmpM; simp only [HM.out])
    obtain ⟨m1, hm1⟩ : ∃ m, Z1.length = m := ⟨_, rfl⟩
    rw [hm1] at bx q1 hz1 HCm
    have bD := (Still.drew wr).below wr.heap.size
    have BX := hid ((bx.below HBW.out (Nat.le_refl _)).below bD (Nat.le_refl _))
    have BK := hid (show Box4 wr.drew w.heap.size 0 KX NX FX (.slice ax m cx) from Box4.below (w := wr) ⟨by rw [cell_of_row _ _ _ _ _ _ r1]; rfl, by rw [cell_of_row _ _ _ _ _ _ r1]; rfl, by rw [cell_of_row _ _ _ _ _ _ r1]; rfl, by rw [cell_of_row _ _ _ _ _ _ r1]; rfl⟩ bD (Nat.le_refl _))
    have Q1 := hid ((q1.below HBW.out (Nat.le_refl _)).below bD (Nat.le_refl _))
    have QX := hid ((HRX.out.below HBW.out (Nat.le_refl _)).below bD (Nat.le_refl _))
    have HWD := hid (HW.out.trans (bD.mono HW.out.size))
    clear bx q1 hm1 r1 bD
    go_wp2
    refine region_K 99 (fun W => Box4 W b (off + k * 4) K1 N1 F1 (.slice p1 m1 d1) ∧ Box4 W w.heap.size 0 KX NX FX (.slice ax m cx)) (by kernel_rfl) ?_ (fun hHeld => ?_)
    · exact ⟨BX.out, BK.out⟩
    generalize wr.drew = v0 at *
    refine anyK_take2 (i := 0) (v := ?v0) rfl (by kernel_rfl) (by kernel_rfl) (by kernel_rfl) (by rfl) (fun _ _ _ h => h) (by rfl) hHeld ?hy0 (some 12) (by rfl) ?rest0
    case hy0 => (intro W hSw; obtain ⟨⟨x1, x2, x3, x4⟩, ⟨x5, x6, x7, x8⟩⟩ := hSw; go_simp; (try with_reducible rfl))
    try simp only [Act.put, List.setIfInBounds_toArray, List.set_cons_succ, List.set_cons_zero]
    refine anyK_take2 (i := 1) (v := ?v1) rfl (by kernel_rfl) (by kernel_rfl) (by kernel_rfl) (by rfl) (fun _ _ _ h => h) (by rfl) hHeld ?hy1 (some 13) (by rfl) ?rest1
    case hy1 => (intro W hSw; obtain ⟨⟨x1, x2, x3, x4⟩, ⟨x5, x6, x7, x8⟩⟩ := hSw; go_simp; (try with_reducible rfl))
    try simp only [Act.put, List.setIfInBounds_toArray, List.set_cons_succ, List.set_cons_zero]
    refine anyK_take2 (i := 2) (v := ?v2) rfl (by kernel_rfl) (by kernel_rfl) (by kernel_rfl) (by rfl) (fun _ _ _ h => h) (by rfl) hHeld ?hy2 (some 14) (by rfl) ?rest2
    case hy2 => (intro W hSw; obtain ⟨⟨x1, x2, x3, x4⟩, ⟨x5, x6, x7, x8⟩⟩ := hSw; go_simp; (try with_reducible rfl))
    try simp only [Act.put, List.setIfInBounds_toArray, List.set_cons_succ, List.set_cons_zero]
    refine anyK_take2 (i := 3) (v := ?v3) rfl (by kernel_rfl) (by kernel_rfl) (by kernel_rfl) (by rfl) (fun _ _ _ h => h) (by rfl) hHeld ?hy3 (some 15) (by rfl) ?rest3
    case hy3 => (intro W hSw; obtain ⟨⟨x1, x2, x3, x4⟩, ⟨x5, x6, x7, x8⟩⟩ := hSw; go_simp; (try with_reducible rfl))
    try simp only [Act.put, List.setIfInBounds_toArray, List.set_cons_succ, List.set_cons_zero]
    refine anyK_take2 (i := 4) (v := ?v4) rfl (by kernel_rfl) (by kernel_rfl) (by kernel_rfl) (by rfl) (fun _ _ _ h => h) (by rfl) hHeld ?hy4 (some 16) (by rfl) ?rest4
    case hy4 => (intro W hSw; obtain ⟨⟨x1, x2, x3, x4⟩, ⟨x5, x6, x7, x8⟩⟩ := hSw; go_simp; (try with_reducible rfl))
    try simp only [Act.put, List.setIfInBounds_toArray, List.set_cons_succ, List.set_cons_zero]
    refine anyK_step (i := 5) (by kernel_rfl) rfl (fun KP hK => ?_)
    go_simp
    refine (spec_ItemCompare K1 N1 KX NX F1 FX d1 cx hf1 hfx Q1.out QX.out hz1 hnx).mono ?_
    rintro e u ⟨rfl, b1⟩
    rw [← HCm.out]
    obtain ⟨C, hC⟩ : ∃ C, cmpM ⟨K1, N1, F1, Z1⟩ ⟨KX, NX, FX, ZX⟩ = C := ⟨_, rfl⟩
    rw [hC] at HOne HNx ⊢
    have HW2 := hid (HWD.out.trans (b1.mono HWD.out.size))
    have HH2 := hid (show Box4 u b (off + k * 4) K1 N1 F1 (.slice p1 m1 d1) ∧ Box4 u w.heap.size 0 KX NX FX (.slice ax m cx) from ⟨BX.out.below b1 (Nat.le_refl _), BK.out.below b1 (Nat.le_refl _)⟩)
    clear b1 hC
    go_wp2_with fail
    clear hHeld
    refine hK.out _ _ HH2.out (fun hHeld => ?_)
    clear hK KP
    try simp only [Act.put, List.setIfInBounds_toArray, List.set_cons_succ, List.set_cons_zero]
    refine anyK_take2 (i := 6) (v := ?v6) rfl (by kernel_rfl) (by kernel_rfl) (by kernel_rfl) (by rfl) (fun _ _ _ h => h) (by rfl) hHeld ?hy6 (some 18) (by rfl) ?rest6
    case hy6 => (intro W hSw; obtain ⟨⟨x1, x2, x3, x4⟩, ⟨x5, x6, x7, x8⟩⟩ := hSw; go_simp; (try with_reducible rfl))
    try simp only [Act.put, List.setIfInBounds_toArray, List.set_cons_succ, List.set_cons_zero]
    refine anyK_done (by kernel_rfl) ?_ _
    clear hHeld
    by_cases h0 : C = 0
    · have HT := hid (show V = true by rw [← HV.out]; exact HOne.out (decide_eq_true h0))
      have HBF := hid (HB.out.trans (HW2.out.mono HB.out.size))
      have hq : (C == 0) = true := by simpa using h0
      clear h0
      go_wp2_with fail
      go_ret
      exact ⟨by rw [HT.out]; rfl, HBF.out⟩
    · have HN2 := hid (HNx.out (decide_eq_false h0))
      have hq : (C == 0) = false := by simpa using h0
      clear h0
      go_wp2_with fail
      go_roundw
      case rel => exact ⟨k + 1, by omega, by go_num, HN2, HW2⟩
      case measure => simp [intOf]; omega
  · have hlt' : ¬ (k : Int) < (n : Int) := by omega
    have hke : k = n := by omega
    subst hke
    have HF := hid (show V = false by rw [← HV.out]; exact hasM_none (fun i hi => HNo.out i (by have := HL.out; omega)))
    go_wp2_with fail
    go_ret
    exact ⟨by rw [HF.out]; rfl, HBW.out⟩
end Go.Proofs.YtnbpblephmjfnaaGreat
