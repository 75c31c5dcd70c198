/- The contract of the specification's l14reads. Conditions: texts of at most 2^21 bytes, at most 2^21 reads. -/
import Derived.Test.YtnbpblephmjfnaaGreatMgc
import Derived.Test.YtnbpblephmjfnaaGreatMga
namespace Go.Proofs.YtnbpblephmjfnaaGreat
open Go.RowKit
set_option maxRecDepth 100000
def rdsB (t : Tk) (x : Im) : Bool := t.rs.any (fun p => inM p x)
abbrev ddV (t : Tk) (x y : Value) : Value := .agg #[.int .i64 t.xid, .int .i64 t.begun, .int .i64 t.ended, x, y]
set_option maxHeartbeats 6400000 in
theorem spec_l14reads (t : Tk) (x : Im) {a1 : Option Addr} (c1 : Nat) (y : Value) {ax : Option Addr} (cx : Nat) {w : World} (h : ReadsM w a1 (fl2 t.rs)) (hx : Reads w ax x.Z.length x.Z) (hfx : x.F < 18446744073709551616) (hnx : x.Z.length ≤ 2097152) (hs : ∀ i, ((fl2 t.rs).getD i im0).Z.length ≤ 2097152) (hn : t.rs.length ≤ 2097152) :
 Calls Tryz.prog 51 #[ddV t (.slice a1 t.rs.length c1) y, imV x (.slice ax x.Z.length cx)] w fun e w' => e = .returned (.bool (rdsB t x)) ∧ Below w.heap.size w w' := by
 obtain ⟨xi, be, en, al, rs, ws, inn, ou⟩ := t
 obtain ⟨KX, NX, FX, ZX⟩ := x
 simp only at h hx hfx hnx hs hn
 obtain ⟨n, hN⟩ : ∃ n, rs.length = n := ⟨_, rfl⟩
 obtain ⟨m, hM⟩ : ∃ m, ZX.length = m := ⟨_, rfl⟩
 simp only [hN, hM] at hx hnx hn ⊢
 have HN := hid hN
 have HM := hid hM
 have hst := fun w a m => run_store Tryz.prog w a (.float .f64 FX) m rfl
 have hB := two w (.cells #[.int .i64 xi, .int .i64 be, .int .i64 en, .slice a1 n c1, y] 68) (.cells #[.int .i64 KX, .int .i64 NX, .float .f64 FX, .slice ax m cx] 72)
 obtain ⟨R1, R2, z⟩ := two_rows13 w (.cells #[.int .i64 xi, .int .i64 be, .int .i64 en, .slice a1 n c1, y] 68) (.cells #[.int .i64 KX, .int .i64 NX, .float .f64 FX, .slice ax m cx] 72)
 have HB := hid hB
 have HRM := hid h
 have HRX := hid hx
 have HR1 := hid R1
 have HR2 := hid R2
 have HZ := hid z
 obtain ⟨V, hV⟩ : ∃ V, rdsB ⟨xi, be, en, al, rs, ws, inn, ou⟩ ⟨KX, NX, FX, ZX⟩ = V := ⟨_, rfl⟩
 rw [hV]
 have HV := hid (show V = rs.any (fun p => inM p ⟨KX, NX, FX, ZX⟩) by rw [← hV]; rfl)
 clear hB R1 R2 z h hx hN hM hV
 go_enter Tryz.func51, Tryz.ntmps51
 go_wp2_with fail
 obtain ⟨w1, hw1⟩ : ∃ w1, ((w.alloc (.cells #[.int .i64 xi, .int .i64 be, .int .i64 en, .slice a1 n c1, y] 68)).alloc (.cells #[.int .i64 KX, .int .i64 NX, .float .f64 FX, .slice ax m cx] 72)) = w1 := ⟨_, rfl⟩
 rw [hw1] at HB HR1 HR2 HZ
 try rw [hw1]
 clear hw1
 have HS1 := hid (show w.heap.size + 2 ≤ w1.heap.size by have := HZ.out; omega)
 · skip
   go_loopw [5] (fun i wr => ∃ k : Nat, k ≤ n ∧ i = .int .i64 k ∧ Hid (∀ i, i < k → inM (rs.getD i sp0) ⟨KX, NX, FX, ZX⟩ = false) ∧ Hid (Below w1.heap.size w1 wr)) (fun i _ => n - (intOf i).toNat)
   case atStart => exact ⟨0, Nat.zero_le _, rfl, hid (fun i hi => by omega), hid (Below.refl _ _)⟩
   case round =>
    obtain ⟨k, hk, rfl, HNo, HW⟩ := hrel
    have r1 := (HW.out.block w.heap.size (by have := HS1.out; omega)).trans HR1.out
    have r2 := (HW.out.block (w.heap.size + 1) (by have := HS1.out; omega)).trans HR2.out
    have k4 : wr.cell? ⟨w.heap.size, 3, none⟩ = some (.slice a1 n c1) := by rw [cell_of_row _ _ _ _ _ _ r1]; rfl
    have HBW := hid (HB.out.trans (HW.out.mono HB.out.size))
    by_cases hlt : k < n
    · have hlt' : (k : Int) < (n : Int) := by omega
      have hk0 : (0 : Int) ≤ (k : Int) := by omega
      have hl2 : (fl2 rs).length = n * 2 := by rw [fl2_len, HN.out]
      obtain ⟨b, off, p1, d1, rfl, bx, q1, _, _, hf1⟩ := HRM.out.at (k := k * 2) (by omega)
      obtain ⟨b', off', p2, d2, e', by', q2, _, _, hf2⟩ := HRM.out.at (k := k * 2 + 1) (by omega)
      obtain ⟨rfl, rfl⟩ : b = b' ∧ off = off' := by simpa using e'
      have hz1 := hs (k * 2)
      have hz2 := hs (k * 2 + 1)
      have hat := fl2_at rs k
      rw [hat.1] at bx q1 hf1 hz1
      rw [hat.2] at by' q2 hf2 hz2
      have HIn := hid (show inM (rs.getD k sp0) ⟨KX, NX, FX, ZX⟩ = inSp (rs.getD k sp0).1.K (rs.getD k sp0).1.N (rs.getD k sp0).1.F (rs.getD k sp0).1.Z.length (rs.getD k sp0).1.Z (rs.getD k sp0).2.K (rs.getD k sp0).2.N (rs.getD k sp0).2.F (rs.getD k sp0).2.Z.length (rs.getD k sp0).2.Z KX NX FX m ZX by unfold inM; simp only [HM.out])
      have HOne := hid (fun q => any_one (rs := rs) (x := ⟨KX, NX, FX, ZX⟩) (i := k) (by have := HN.out; omega) q)
      have HNx := hid (fun (q : inM (rs.getD k sp0) ⟨KX, NX, FX, ZX⟩ = false) i (hi : i < k + 1) => show inM (rs.getD i sp0) ⟨KX, NX, FX, ZX⟩ = false from by
       by_cases hc : i < k
       · exact HNo.out i hc
       · have : i = k := by omega
         subst this; exact q)
      generalize rs.getD k sp0 = pp at *
      obtain ⟨⟨K1, N1, F1, Z1⟩, K2, N2, F2, Z2⟩ := pp
      simp only at bx by' q1 q2 hf1 hf2 hz1 hz2 HIn
      obtain ⟨m1, hm1⟩ : ∃ m, Z1.length = m := ⟨_, rfl⟩
      obtain ⟨m2, hm2⟩ : ∃ m, Z2.length = m := ⟨_, rfl⟩
      rw [hm1] at bx q1 hz1 HIn
      rw [hm2] at by' q2 hz2 HIn
      rw [show off + k * 2 * 4 = off + k * 8 by omega] at bx
      rw [show off + (k * 2 + 1) * 4 = off + k * 8 + 4 by omega] at by'
      have bD := (Still.drew wr).below wr.heap.size
      have BX := hid ((bx.below HBW.out (Nat.le_refl _)).below bD (Nat.le_refl _))
      have BY := hid ((by'.below HBW.out (Nat.le_refl _)).below bD (Nat.le_refl _))
      have BK := hid (show Box4 wr.drew (w.heap.size + 1) 0 KX NX FX (.slice ax m cx) from Box4.below (w := wr) ⟨by rw [cell_of_row _ _ _ _ _ _ r2]; rfl, by rw [cell_of_row _ _ _ _ _ _ r2]; rfl, by rw [cell_of_row _ _ _ _ _ _ r2]; rfl, by rw [cell_of_row _ _ _ _ _ _ r2]; rfl⟩ bD (Nat.le_refl _))
      have BT := hid (show wr.drew.cell? ⟨w.heap.size, 3, none⟩ = some (.slice (some ⟨b, off, none⟩) n c1) from k4)
      have Q1 := hid ((q1.below HBW.out (Nat.le_refl _)).below bD (Nat.le_refl _))
      have Q2 := hid ((q2.below HBW.out (Nat.le_refl _)).below bD (Nat.le_refl _))
      have QX := hid ((HRX.out.below HBW.out (Nat.le_refl _)).below bD (Nat.le_refl _))
      have HFs := hid (And.intro hf1 hf2)
      have HZs := hid (And.intro hz1 hz2)
      have HWD := hid (HW.out.trans (bD.mono HW.out.size))
      clear bx by' q1 q2 hf1 hf2 hz1 hz2 hm1 hm2 hat hl2 e' r1 r2 bD
      go_wp2
      clear k4
      refine region_K 99 (fun W => W.cell? ⟨w.heap.size, 3, none⟩ = some (.slice (some ⟨b, off, none⟩) n c1) ∧ Box4 W b (off + k * 8) K1 N1 F1 (.slice p1 m1 d1) ∧ Box4 W b (off + k * 8 + 4) K2 N2 F2 (.slice p2 m2 d2) ∧ Box4 W (w.heap.size + 1) 0 KX NX FX (.slice ax m cx)) (by kernel_rfl) ?_ (fun hHeld => ?_)
      · exact ⟨BT.out, BX.out, BY.out, BK.out⟩
      generalize wr.drew = v0 at *
      refine anyK_take2 (i := 0) (v := ?v0) rfl (by kernel_rfl) (by kernel_rfl) (by kernel_rfl) (by rfl) (fun _ _ _ h => h) (by rfl) hHeld ?hy0 (some 13) (by rfl) ?rest0
      case hy0 => (intro W hSw; obtain ⟨x0, ⟨x1, x2, x3, x4⟩, ⟨x5, x6, x7, x8⟩, ⟨x9, x10, x11, x12⟩⟩ := hSw; go_simp; (try with_reducible rfl))
      try simp only [Act.put, List.setIfInBounds_toArray, List.set_cons_succ, List.set_cons_zero]
      refine anyK_take2 (i := 1) (v := ?v1) rfl (by kernel_rfl) (by kernel_rfl) (by kernel_rfl) (by rfl) (fun _ _ _ h => h) (by rfl) hHeld ?hy1 (some 14) (by rfl) ?rest1
      case hy1 => (intro W hSw; obtain ⟨x0, ⟨x1, x2, x3, x4⟩, ⟨x5, x6, x7, x8⟩, ⟨x9, x10, x11, x12⟩⟩ := hSw; go_simp; (try with_reducible rfl))
      try simp only [Act.put, List.setIfInBounds_toArray, List.set_cons_succ, List.set_cons_zero]
      refine anyK_take2 (i := 2) (v := ?v2) rfl (by kernel_rfl) (by kernel_rfl) (by kernel_rfl) (by rfl) (fun _ _ _ h => h) (by rfl) hHeld ?hy2 (some 15) (by rfl) ?rest2
      case hy2 => (intro W hSw; obtain ⟨x0, ⟨x1, x2, x3, x4⟩, ⟨x5, x6, x7, x8⟩, ⟨x9, x10, x11, x12⟩⟩ := hSw; go_simp; (try with_reducible rfl))
      try simp only [Act.put, List.setIfInBounds_toArray, List.set_cons_succ, List.set_cons_zero]
      refine anyK_take2 (i := 3) (v := ?v3) rfl (by kernel_rfl) (by kernel_rfl) (by kernel_rfl) (by rfl) (fun _ _ _ h => h) (by rfl) hHeld ?hy3 (some 16) (by rfl) ?rest3
      case hy3 => (intro W hSw; obtain ⟨x0, ⟨x1, x2, x3, x4⟩, ⟨x5, x6, x7, x8⟩, ⟨x9, x10, x11, x12⟩⟩ := hSw; go_simp; (try with_reducible rfl))
      try simp only [Act.put, List.setIfInBounds_toArray, List.set_cons_succ, List.set_cons_zero]
      refine anyK_take2 (i := 4) (v := ?v4) rfl (by kernel_rfl) (by kernel_rfl) (by kernel_rfl) (by rfl) (fun _ _ _ h => h) (by rfl) hHeld ?hy4 (some 17) (by rfl) ?rest4
      case hy4 => (intro W hSw; obtain ⟨x0, ⟨x1, x2, x3, x4⟩, ⟨x5, x6, x7, x8⟩, ⟨x9, x10, x11, x12⟩⟩ := hSw; go_simp; (try with_reducible rfl))
      try simp only [Act.put, List.setIfInBounds_toArray, List.set_cons_succ, List.set_cons_zero]
      refine anyK_take2 (i := 5) (v := ?v5) rfl (by kernel_rfl) (by kernel_rfl) (by kernel_rfl) (by rfl) (fun _ _ _ h => h) (by rfl) hHeld ?hy5 (some 18) (by rfl) ?rest5
      case hy5 => (intro W hSw; obtain ⟨x0, ⟨x1, x2, x3, x4⟩, ⟨x5, x6, x7, x8⟩, ⟨x9, x10, x11, x12⟩⟩ := hSw; go_simp; (try with_reducible rfl))
      try simp only [Act.put, List.setIfInBounds_toArray, List.set_cons_succ, List.set_cons_zero]
      refine anyK_take2 (i := 6) (v := ?v6) rfl (by kernel_rfl) (by kernel_rfl) (by kernel_rfl) (by rfl) (fun _ _ _ h => h) (by rfl) hHeld ?hy6 (some 19) (by rfl) ?rest6
      case hy6 => (intro W hSw; obtain ⟨x0, ⟨x1, x2, x3, x4⟩, ⟨x5, x6, x7, x8⟩, ⟨x9, x10, x11, x12⟩⟩ := hSw; go_simp; (try with_reducible rfl))
      try simp only [Act.put, List.setIfInBounds_toArray, List.set_cons_succ, List.set_cons_zero]
      refine anyK_take2 (i := 7) (v := ?v7) rfl (by kernel_rfl) (by kernel_rfl) (by kernel_rfl) (by rfl) (fun _ _ _ h => h) (by rfl) hHeld ?hy7 (some 20) (by rfl) ?rest7
      case hy7 => (intro W hSw; obtain ⟨x0, ⟨x1, x2, x3, x4⟩, ⟨x5, x6, x7, x8⟩, ⟨x9, x10, x11, x12⟩⟩ := hSw; go_simp; (try with_reducible rfl))
      try simp only [Act.put, List.setIfInBounds_toArray, List.set_cons_succ, List.set_cons_zero]
      refine anyK_take2 (i := 8) (v := ?v8) rfl (by kernel_rfl) (by kernel_rfl) (by kernel_rfl) (by rfl) (fun _ _ _ h => h) (by rfl) hHeld ?hy8 (some 21) (by rfl) ?rest8
      case hy8 => (intro W hSw; obtain ⟨x0, ⟨x1, x2, x3, x4⟩, ⟨x5, x6, x7, x8⟩, ⟨x9, x10, x11, x12⟩⟩ := hSw; go_simp; (try with_reducible rfl))
      try simp only [Act.put, List.setIfInBounds_toArray, List.set_cons_succ, List.set_cons_zero]
      refine anyK_take2 (i := 9) (v := ?v9) rfl (by kernel_rfl) (by kernel_rfl) (by kernel_rfl) (by rfl) (fun _ _ _ h => h) (by rfl) hHeld ?hy9 (some 22) (by rfl) ?rest9
      case hy9 => (intro W hSw; obtain ⟨x0, ⟨x1, x2, x3, x4⟩, ⟨x5, x6, x7, x8⟩, ⟨x9, x10, x11, x12⟩⟩ := hSw; go_simp; (try with_reducible rfl))
      try simp only [Act.put, List.setIfInBounds_toArray, List.set_cons_succ, List.set_cons_zero]
      refine anyK_take2 (i := 10) (v := ?v10) rfl (by kernel_rfl) (by kernel_rfl) (by kernel_rfl) (by rfl) (fun _ _ _ h => h) (by rfl) hHeld ?hy10 (some 23) (by rfl) ?rest10
      case hy10 => (intro W hSw; obtain ⟨x0, ⟨x1, x2, x3, x4⟩, ⟨x5, x6, x7, x8⟩, ⟨x9, x10, x11, x12⟩⟩ := hSw; go_simp; (try with_reducible rfl))
      try simp only [Act.put, List.setIfInBounds_toArray, List.set_cons_succ, List.set_cons_zero]
      refine anyK_take2 (i := 11) (v := ?v11) rfl (by kernel_rfl) (by kernel_rfl) (by kernel_rfl) (by rfl) (fun _ _ _ h => h) (by rfl) hHeld ?hy11 (some 24) (by rfl) ?rest11
      case hy11 => (intro W hSw; obtain ⟨x0, ⟨x1, x2, x3, x4⟩, ⟨x5, x6, x7, x8⟩, ⟨x9, x10, x11, x12⟩⟩ := hSw; go_simp; (try with_reducible rfl))
      try simp only [Act.put, List.setIfInBounds_toArray, List.set_cons_succ, List.set_cons_zero]
      refine anyK_take2 (i := 12) (v := ?v12) rfl (by kernel_rfl) (by kernel_rfl) (by kernel_rfl) (by rfl) (fun _ _ _ h => h) (by rfl) hHeld ?hy12 (some 25) (by rfl) ?rest12
      case hy12 => (intro W hSw; obtain ⟨x0, ⟨x1, x2, x3, x4⟩, ⟨x5, x6, x7, x8⟩, ⟨x9, x10, x11, x12⟩⟩ := hSw; go_simp; (try with_reducible rfl))
      try simp only [Act.put, List.setIfInBounds_toArray, List.set_cons_succ, List.set_cons_zero]
      refine anyK_step (i := 13) (by kernel_rfl) rfl (fun KP hK => ?_)
      go_simp
      refine (spec_InSpan K1 N1 K2 N2 KX NX F1 F2 FX d1 d2 cx HFs.out.1 HFs.out.2 hfx Q1.out Q2.out QX.out HZs.out.1 HZs.out.2 hnx).mono ?_
      rintro e u ⟨rfl, b1⟩
      rw [← HIn.out]
      have HW2 := hid (HWD.out.trans (b1.mono HWD.out.size))
      have hHeld2 := (show u.cell? ⟨w.heap.size, 3, none⟩ = some (.slice (some ⟨b, off, none⟩) n c1) ∧ Box4 u b (off + k * 8) K1 N1 F1 (.slice p1 m1 d1) ∧ Box4 u b (off + k * 8 + 4) K2 N2 F2 (.slice p2 m2 d2) ∧ Box4 u (w.heap.size + 1) 0 KX NX FX (.slice ax m cx) from ⟨(b1.cell (p := ⟨w.heap.size, 3, none⟩) (World.block_lt_of_cell? v0 _ BT.out)).trans BT.out, BX.out.below b1 (Nat.le_refl _), BY.out.below b1 (Nat.le_refl _), BK.out.below b1 (Nat.le_refl _)⟩)
      have HH2 := hid hHeld2
      clear b1 hHeld2
      go_wp2_with fail
      clear hHeld
      refine hK.out _ _ HH2.out (fun hHeld => ?_)
      clear hK KP
      try simp only [Act.put, List.setIfInBounds_toArray, List.set_cons_succ, List.set_cons_zero]
      refine anyK_done (by kernel_rfl) ?_ _
      clear hHeld
      cases hin : inM (⟨K1, N1, F1, Z1⟩, ⟨K2, N2, F2, Z2⟩) ⟨KX, NX, FX, ZX⟩ with
      | true =>
       have HT := hid (show V = true by rw [HV.out, HOne.out hin])
       have HBF := hid (HB.out.trans (HW2.out.mono HB.out.size))
       clear hin
       go_wp2_with fail
       go_ret
       exact ⟨by rw [HT.out]; rfl, HBF.out⟩
      | false =>
       have HN2 := hid (HNx.out hin)
       clear hin
       go_wp2_with fail
       go_roundw
       case rel => exact ⟨k + 1, by omega, by go_num, HN2, HW2⟩
       case measure => simp [intOf]; omega
    · have hlt' : ¬ (k : Int) < (n : Int) := by omega
      have HE := hid (show V = false by
       rw [HV.out, any_none (fun i hi => HNo.out i (by have := HN.out; omega))])
      go_wp2_with fail
      go_ret
      exact ⟨by rw [HE.out]; rfl, HBW.out⟩
end Go.Proofs.YtnbpblephmjfnaaGreat