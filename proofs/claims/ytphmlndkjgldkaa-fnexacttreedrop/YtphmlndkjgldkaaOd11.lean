/- Whether an entry is among others, as the specification asks it. Conditions: at most 100000 entries, texts of at most 2^21 bytes. -/
import Derived.Test.YtphmlndkjgldkaaOc11
namespace Go.Proofs.Ytphmlndkjgldkaa
open Go.RowKit
set_option maxRecDepth 100000
set_option maxHeartbeats 6400000 in
theorem spec_l11there {a : Option Addr} {n : Nat} (c : Nat) {es : List En} (KQ NQ : Int) (FQ : Nat) {aq : Option Addr} {zq : Nat} (cq : Nat) (iq : Int) {ZQ : List Int} {w : World} (hr : ReadsE w a es) (hn : es.length = n) (hn4 : n ≤ 100000) (hm : ∀ j, (es.getD j en0).Z.length ≤ 2097152) (hq : Reads w aq zq ZQ) (hqq : ZQ.length = zq ∧ FQ < 18446744073709551616 ∧ zq ≤ 2097152) :
 Calls Try.prog 80 #[.slice a n c, .agg #[.int .i64 KQ, .int .i64 NQ, .float .f64 FQ, .slice aq zq cq, .int .i64 iq]] w fun e w' => e = .returned (.bool (es.any (fun z => !offE ⟨KQ, NQ, FQ, ZQ, iq⟩ z))) ∧ Below w.heap.size w w' := by
 have hst := fun w a m => run_store Try.prog w a (.float .f64 FQ) m rfl
 have HBX := hid (Below.alloc1 w (.cells #[.int .i64 KQ, .int .i64 NQ, .float .f64 FQ, .slice aq zq cq, .int .i64 iq] 35))
 have HR0 := hid (heap_alloc_new w (.cells #[.int .i64 KQ, .int .i64 NQ, .float .f64 FQ, .slice aq zq cq, .int .i64 iq] 35))
 have HZ0 := hid (alloc_size w (.cells #[.int .i64 KQ, .int .i64 NQ, .float .f64 FQ, .slice aq zq cq, .int .i64 iq] 35))
 have HR := hid hr
 have HN := hid hn
 have HM := hid hm
 have HQ := hid hq
 have HQQ := hid hqq
 clear hr hn hm hq hqq
 go_enter Try.func80, Try.ntmps80
 go_wp2_with fail
 generalize w.alloc (.cells #[.int .i64 KQ, .int .i64 NQ, .float .f64 FQ, .slice aq zq cq, .int .i64 iq] 35) = V at *
 obtain ⟨p0, hp0⟩ : ∃ p0, w.heap.size = p0 := ⟨_, rfl⟩
 have HP := hid hp0
 rw [hp0] at HR0
 try simp only [hp0]
 clear hp0
 go_loopw [5] (fun s wr => ∃ k : Nat, k ≤ n ∧ s = .int .i64 k ∧ Hid (∀ j, j < k → offE ⟨KQ, NQ, FQ, ZQ, iq⟩ (es.getD j en0) = true) ∧ Hid (Below V.heap.size V wr)) (fun s _ => n - (intOf s).toNat)
 case atStart => exact ⟨0, Nat.zero_le _, rfl, hid (fun j hj => by omega), hid (Below.refl _ _)⟩
 case round =>
  obtain ⟨k, hk, rfl, HA, HB⟩ := hrel
  by_cases hlt : k < n
  · have hlt' : (k : Int) < (n : Int) := by omega
    have hk0 : (0 : Int) ≤ (k : Int) := by omega
    have hkl : k < es.length := by have := HN.out; omega
    obtain ⟨b, off, a1, c1, rfl, bx, rz, _, _, hF⟩ := HR.out.at hkl
    have hz1 := HM.out k
    have HOne := hid (fun (e : offE ⟨KQ, NQ, FQ, ZQ, iq⟩ (es.getD k en0) = false) => show es.any (fun z => !offE ⟨KQ, NQ, FQ, ZQ, iq⟩ z) = true from List.any_eq_true.2 ⟨es.getD k en0, by rw [List.getD_eq_getElem?_getD, List.getElem?_eq_getElem hkl]; exact List.getElem_mem hkl, by rw [e]; rfl⟩)
    have HNx := hid (fun (e : offE ⟨KQ, NQ, FQ, ZQ, iq⟩ (es.getD k en0) = true) j (hj : j < k + 1) => show offE ⟨KQ, NQ, FQ, ZQ, iq⟩ (es.getD j en0) = true from by
     by_cases hc : j < k
     · exact HA.out j hc
     · have : j = k := by omega
       subst this; exact e)
    generalize es.getD k en0 = ee at *
    obtain ⟨K, N, F, Z, id⟩ := ee
    simp only at bx rz hz1 hF
    obtain ⟨z, hz⟩ : ∃ z, Z.length = z := ⟨_, rfl⟩
    rw [hz] at bx rz hz1
    have HZ := hid hz
    have HRz := hid rz
    have HBx := hid bx
    have hstF := fun w a m => run_store Try.prog w a (.float .f64 F) m rfl
    have HKq := hid (show ∀ W, Below wr.heap.size wr W → (W.cell? ⟨p0, 0, none⟩ = some (.int .i64 KQ) ∧ W.cell? ⟨p0, 1, none⟩ = some (.int .i64 NQ) ∧ W.cell? ⟨p0, 2, none⟩ = some (.float .f64 FQ) ∧ W.cell? ⟨p0, 3, none⟩ = some (.slice aq zq cq) ∧ W.cell? ⟨p0, 4, none⟩ = some (.int .i64 iq)) ∧ W.cell? ⟨b, off + k * 5, none⟩ = some (.int .i64 K) ∧ W.cell? ⟨b, off + k * 5 + 1, none⟩ = some (.int .i64 N) ∧ W.cell? ⟨b, off + k * 5 + 2, none⟩ = some (.float .f64 F) ∧ W.cell? ⟨b, off + k * 5 + 3, none⟩ = some (.slice a1 z c1) ∧ W.cell? ⟨b, off + k * 5 + 4, none⟩ = some (.int .i64 id) from fun W bb => by
     have h1 := HP.out; have h2 := HZ0.out; have h3 := HB.out.size
     have r1 := (bb.block p0 (by omega)).trans ((HB.out.block p0 (by omega)).trans HR0.out)
     obtain ⟨y0, y1, y2, y3, y4⟩ := HBx.out.below (HBX.out.trans ((HB.out.trans (bb.mono HB.out.size)).mono HBX.out.size)) (Nat.le_refl _)
     exact ⟨⟨by rw [cell_of_row _ _ _ _ _ _ r1]; rfl, by rw [cell_of_row _ _ _ _ _ _ r1]; rfl, by rw [cell_of_row _ _ _ _ _ _ r1]; rfl, by rw [cell_of_row _ _ _ _ _ _ r1]; rfl, by rw [cell_of_row _ _ _ _ _ _ r1]; rfl⟩, y0, y1, y2, y3, y4⟩)
    have BC := hid ((Still.drew wr).below wr.heap.size)
    clear bx rz hz
    go_wp2_with fail
    refine region_K 99 (fun W => (W.cell? ⟨p0, 0, none⟩ = some (.int .i64 KQ) ∧ W.cell? ⟨p0, 1, none⟩ = some (.int .i64 NQ) ∧ W.cell? ⟨p0, 2, none⟩ = some (.float .f64 FQ) ∧ W.cell? ⟨p0, 3, none⟩ = some (.slice aq zq cq) ∧ W.cell? ⟨p0, 4, none⟩ = some (.int .i64 iq)) ∧ W.cell? ⟨b, off + k * 5, none⟩ = some (.int .i64 K) ∧ W.cell? ⟨b, off + k * 5 + 1, none⟩ = some (.int .i64 N) ∧ W.cell? ⟨b, off + k * 5 + 2, none⟩ = some (.float .f64 F) ∧ W.cell? ⟨b, off + k * 5 + 3, none⟩ = some (.slice a1 z c1) ∧ W.cell? ⟨b, off + k * 5 + 4, none⟩ = some (.int .i64 id)) (by kernel_rfl) (HKq.out _ BC.out) (fun hHeld => ?_)
    generalize wr.drew = vd at *
    refine anyK_take2 (i := 0) (v := ?v0_1) rfl (by kernel_rfl) (by kernel_rfl) (by kernel_rfl) (by rfl) (fun _ _ _ h => h) (by rfl) hHeld ?hy0_1 (some 12) (by rfl) ?rest0_1
    case hy0_1 => (intro W hSw; obtain ⟨⟨x0, x1, x2, x3, x4⟩, x5, x6, x7, x8, x9⟩ := hSw; go_simp; (try with_reducible rfl))
    try simp only [Act.put, List.setIfInBounds_toArray, List.set_cons_succ, List.set_cons_zero]
    refine anyK_take2 (i := 1) (v := ?v1_2) rfl (by kernel_rfl) (by kernel_rfl) (by kernel_rfl) (by rfl) (fun _ _ _ h => h) (by rfl) hHeld ?hy1_2 (some 13) (by rfl) ?rest1_2
    case hy1_2 => (intro W hSw; obtain ⟨⟨x0, x1, x2, x3, x4⟩, x5, x6, x7, x8, x9⟩ := hSw; go_simp; (try with_reducible rfl))
    try simp only [Act.put, List.setIfInBounds_toArray, List.set_cons_succ, List.set_cons_zero]
    refine anyK_take2 (i := 2) (v := ?v2_3) rfl (by kernel_rfl) (by kernel_rfl) (by kernel_rfl) (by rfl) (fun _ _ _ h => h) (by rfl) hHeld ?hy2_3 (some 14) (by rfl) ?rest2_3
    case hy2_3 => (intro W hSw; obtain ⟨⟨x0, x1, x2, x3, x4⟩, x5, x6, x7, x8, x9⟩ := hSw; go_simp; (try with_reducible rfl))
    try simp only [Act.put, List.setIfInBounds_toArray, List.set_cons_succ, List.set_cons_zero]
    refine anyK_take2 (i := 3) (v := ?v3_4) rfl (by kernel_rfl) (by kernel_rfl) (by kernel_rfl) (by rfl) (fun _ _ _ h => h) (by rfl) hHeld ?hy3_4 (some 15) (by rfl) ?rest3_4
    case hy3_4 => (intro W hSw; obtain ⟨⟨x0, x1, x2, x3, x4⟩, x5, x6, x7, x8, x9⟩ := hSw; go_simp; (try with_reducible rfl))
    try simp only [Act.put, List.setIfInBounds_toArray, List.set_cons_succ, List.set_cons_zero]
    refine anyK_take2 (i := 4) (v := ?v4_5) rfl (by kernel_rfl) (by kernel_rfl) (by kernel_rfl) (by rfl) (fun _ _ _ h => h) (by rfl) hHeld ?hy4_5 (some 16) (by rfl) ?rest4_5
    case hy4_5 => (intro W hSw; obtain ⟨⟨x0, x1, x2, x3, x4⟩, x5, x6, x7, x8, x9⟩ := hSw; go_simp; (try with_reducible rfl))
    try simp only [Act.put, List.setIfInBounds_toArray, List.set_cons_succ, List.set_cons_zero]
    refine anyK_step (i := 5) (by kernel_rfl) rfl (fun KP hK => ?_)
    go_simp
    have HWv := hid (HBX.out.trans ((HB.out.trans (BC.out.mono HB.out.size)).mono HBX.out.size))
    refine (spec_less K N F c1 id KQ NQ FQ cq iq hF HQQ.out.2.1 (HRz.out.below HWv.out (Nat.le_refl _)) (HQ.out.below HWv.out (Nat.le_refl _)) hz1 HQQ.out.2.2).mono ?_
    rintro e v1 ⟨rfl, b1⟩
    replace BC := hid (BC.out.trans (b1.mono BC.out.size))
    have HEX1 := hid (show ltE ⟨K, N, F, Z, id⟩ ⟨KQ, NQ, FQ, ZQ, iq⟩ = ltB (cmpI K N F z Z KQ NQ FQ zq ZQ) id iq by unfold ltE cmpE; simp only [HZ.out, HQQ.out.1])
    generalize ltB (cmpI K N F z Z KQ NQ FQ zq ZQ) id iq = X1 at *
    clear b1 hHeld HWv
    go_wp2_with fail
    refine hK.out _ _ (HKq.out _ BC.out) (fun hHeld => ?_)
    clear hK KP
    try simp only [Act.put, List.setIfInBounds_toArray, List.set_cons_succ, List.set_cons_zero]
    cases X1 with
    | true =>
     refine anyK_take2 (i := 6) (v := ?v6_6) rfl (by kernel_rfl) (by kernel_rfl) (by kernel_rfl) (by rfl) (fun _ _ _ h => h) (by rfl) hHeld ?hy6_6 (some 18) (by rfl) ?rest6_6
     case hy6_6 => (intro W hSw; obtain ⟨⟨x0, x1, x2, x3, x4⟩, x5, x6, x7, x8, x9⟩ := hSw; go_simp; (try with_reducible rfl))
     try simp only [Act.put, List.setIfInBounds_toArray, List.set_cons_succ, List.set_cons_zero]
     refine anyK_take2 (i := 7) (v := ?v7_7) rfl (by kernel_rfl) (by kernel_rfl) (by kernel_rfl) (by rfl) (fun _ _ _ h => h) (by rfl) hHeld ?hy7_7 (some 19) (by rfl) ?rest7_7
     case hy7_7 => (intro W hSw; obtain ⟨⟨x0, x1, x2, x3, x4⟩, x5, x6, x7, x8, x9⟩ := hSw; go_simp; (try with_reducible rfl))
     try simp only [Act.put, List.setIfInBounds_toArray, List.set_cons_succ, List.set_cons_zero]
     refine anyK_skip (i := 8) rfl (by kernel_rfl) (by kernel_rfl) (by kernel_rfl) (by kernel_rfl) (fun _ _ _ h => h) (by rfl) hHeld (some 20) (by rfl) ?_
     try simp only [Act.put, List.setIfInBounds_toArray, List.set_cons_succ, List.set_cons_zero]
     refine anyK_skip (i := 9) rfl (by kernel_rfl) (by kernel_rfl) (by kernel_rfl) (by kernel_rfl) (fun _ _ _ h => h) (by rfl) hHeld (some 21) (by rfl) ?_
     try simp only [Act.put, List.setIfInBounds_toArray, List.set_cons_succ, List.set_cons_zero]
     refine anyK_skip (i := 10) rfl (by kernel_rfl) (by kernel_rfl) (by kernel_rfl) (by kernel_rfl) (fun _ _ _ h => h) (by rfl) hHeld (some 22) (by rfl) ?_
     try simp only [Act.put, List.setIfInBounds_toArray, List.set_cons_succ, List.set_cons_zero]
     refine anyK_skip (i := 11) rfl (by kernel_rfl) (by kernel_rfl) (by kernel_rfl) (by kernel_rfl) (fun _ _ _ h => h) (by rfl) hHeld (some 23) (by rfl) ?_
     try simp only [Act.put, List.setIfInBounds_toArray, List.set_cons_succ, List.set_cons_zero]
     refine anyK_skip (i := 12) rfl (by kernel_rfl) (by kernel_rfl) (by kernel_rfl) (by kernel_rfl) (fun _ _ _ h => h) (by rfl) hHeld (some 24) (by rfl) ?_
     try simp only [Act.put, List.setIfInBounds_toArray, List.set_cons_succ, List.set_cons_zero]
     refine anyK_skip (i := 13) rfl (by kernel_rfl) (by kernel_rfl) (by kernel_rfl) (by kernel_rfl) (fun _ _ _ h => h) (by rfl) hHeld (some 25) (by rfl) ?_
     try simp only [Act.put, List.setIfInBounds_toArray, List.set_cons_succ, List.set_cons_zero]
     refine anyK_skip (i := 14) rfl (by kernel_rfl) (by kernel_rfl) (by kernel_rfl) (by kernel_rfl) (fun _ _ _ h => h) (by rfl) hHeld (some 26) (by rfl) ?_
     try simp only [Act.put, List.setIfInBounds_toArray, List.set_cons_succ, List.set_cons_zero]
     refine anyK_take2 (i := 15) (v := ?v15_8) rfl (by kernel_rfl) (by kernel_rfl) (by kernel_rfl) (by rfl) (fun _ _ _ h => h) (by rfl) hHeld ?hy15_8 (some 27) (by rfl) ?rest15_8
     case hy15_8 => (intro W hSw; obtain ⟨⟨x0, x1, x2, x3, x4⟩, x5, x6, x7, x8, x9⟩ := hSw; go_simp; (try with_reducible rfl))
     try simp only [Act.put, List.setIfInBounds_toArray, List.set_cons_succ, List.set_cons_zero]
     refine anyK_done (by kernel_rfl) ?_ _
     clear hHeld
     have HNo := hid (HNx.out (by unfold offE; rw [HEX1.out, Bool.true_or]))
     have HB9 := hid (HB.out.trans (BC.out.mono HB.out.size))
     go_wp2_with fail
     go_roundw
     case rel => exact ⟨k + 1, by omega, by go_num, HNo, HB9⟩
     case measure => simp [intOf]; omega
    | false =>
     refine anyK_take2 (i := 6) (v := ?v6_9) rfl (by kernel_rfl) (by kernel_rfl) (by kernel_rfl) (by rfl) (fun _ _ _ h => h) (by rfl) hHeld ?hy6_9 (some 18) (by rfl) ?rest6_9
     case hy6_9 => (intro W hSw; obtain ⟨⟨x0, x1, x2, x3, x4⟩, x5, x6, x7, x8, x9⟩ := hSw; go_simp; (try with_reducible rfl))
     try simp only [Act.put, List.setIfInBounds_toArray, List.set_cons_succ, List.set_cons_zero]
     refine anyK_take2 (i := 7) (v := ?v7_10) rfl (by kernel_rfl) (by kernel_rfl) (by kernel_rfl) (by rfl) (fun _ _ _ h => h) (by rfl) hHeld ?hy7_10 (some 19) (by rfl) ?rest7_10
     case hy7_10 => (intro W hSw; obtain ⟨⟨x0, x1, x2, x3, x4⟩, x5, x6, x7, x8, x9⟩ := hSw; go_simp; (try with_reducible rfl))
     try simp only [Act.put, List.setIfInBounds_toArray, List.set_cons_succ, List.set_cons_zero]
     refine anyK_take2 (i := 8) (v := ?v8_11) rfl (by kernel_rfl) (by kernel_rfl) (by kernel_rfl) (by rfl) (fun _ _ _ h => h) (by rfl) hHeld ?hy8_11 (some 20) (by rfl) ?rest8_11
     case hy8_11 => (intro W hSw; obtain ⟨⟨x0, x1, x2, x3, x4⟩, x5, x6, x7, x8, x9⟩ := hSw; go_simp; (try with_reducible rfl))
     try simp only [Act.put, List.setIfInBounds_toArray, List.set_cons_succ, List.set_cons_zero]
     refine anyK_take2 (i := 9) (v := ?v9_12) rfl (by kernel_rfl) (by kernel_rfl) (by kernel_rfl) (by rfl) (fun _ _ _ h => h) (by rfl) hHeld ?hy9_12 (some 21) (by rfl) ?rest9_12
     case hy9_12 => (intro W hSw; obtain ⟨⟨x0, x1, x2, x3, x4⟩, x5, x6, x7, x8, x9⟩ := hSw; go_simp; (try with_reducible rfl))
     try simp only [Act.put, List.setIfInBounds_toArray, List.set_cons_succ, List.set_cons_zero]
     refine anyK_take2 (i := 10) (v := ?v10_13) rfl (by kernel_rfl) (by kernel_rfl) (by kernel_rfl) (by rfl) (fun _ _ _ h => h) (by rfl) hHeld ?hy10_13 (some 22) (by rfl) ?rest10_13
     case hy10_13 => (intro W hSw; obtain ⟨⟨x0, x1, x2, x3, x4⟩, x5, x6, x7, x8, x9⟩ := hSw; go_simp; (try with_reducible rfl))
     try simp only [Act.put, List.setIfInBounds_toArray, List.set_cons_succ, List.set_cons_zero]
     refine anyK_take2 (i := 11) (v := ?v11_14) rfl (by kernel_rfl) (by kernel_rfl) (by kernel_rfl) (by rfl) (fun _ _ _ h => h) (by rfl) hHeld ?hy11_14 (some 23) (by rfl) ?rest11_14
     case hy11_14 => (intro W hSw; obtain ⟨⟨x0, x1, x2, x3, x4⟩, x5, x6, x7, x8, x9⟩ := hSw; go_simp; (try with_reducible rfl))
     try simp only [Act.put, List.setIfInBounds_toArray, List.set_cons_succ, List.set_cons_zero]
     refine anyK_take2 (i := 12) (v := ?v12_15) rfl (by kernel_rfl) (by kernel_rfl) (by kernel_rfl) (by rfl) (fun _ _ _ h => h) (by rfl) hHeld ?hy12_15 (some 24) (by rfl) ?rest12_15
     case hy12_15 => (intro W hSw; obtain ⟨⟨x0, x1, x2, x3, x4⟩, x5, x6, x7, x8, x9⟩ := hSw; go_simp; (try with_reducible rfl))
     try simp only [Act.put, List.setIfInBounds_toArray, List.set_cons_succ, List.set_cons_zero]
     refine anyK_step (i := 13) (by kernel_rfl) rfl (fun KP hK => ?_)
     go_simp
     have HWv := hid (HBX.out.trans ((HB.out.trans (BC.out.mono HB.out.size)).mono HBX.out.size))
     refine (spec_less KQ NQ FQ cq iq K N F c1 id HQQ.out.2.1 hF (HQ.out.below HWv.out (Nat.le_refl _)) (HRz.out.below HWv.out (Nat.le_refl _)) HQQ.out.2.2 hz1).mono ?_
     rintro e v2 ⟨rfl, b1⟩
     replace BC := hid (BC.out.trans (b1.mono BC.out.size))
     have HEX2 := hid (show ltE ⟨KQ, NQ, FQ, ZQ, iq⟩ ⟨K, N, F, Z, id⟩ = ltB (cmpI KQ NQ FQ zq ZQ K N F z Z) iq id by unfold ltE cmpE; simp only [HZ.out, HQQ.out.1])
     generalize ltB (cmpI KQ NQ FQ zq ZQ K N F z Z) iq id = X2 at *
     clear b1 hHeld HWv
     go_wp2_with fail
     refine hK.out _ _ (HKq.out _ BC.out) (fun hHeld => ?_)
     clear hK KP
     try simp only [Act.put, List.setIfInBounds_toArray, List.set_cons_succ, List.set_cons_zero]
     cases X2 with
     | true =>
      refine anyK_take2 (i := 14) (v := ?v14_16) rfl (by kernel_rfl) (by kernel_rfl) (by kernel_rfl) (by rfl) (fun _ _ _ h => h) (by rfl) hHeld ?hy14_16 (some 26) (by rfl) ?rest14_16
      case hy14_16 => (intro W hSw; obtain ⟨⟨x0, x1, x2, x3, x4⟩, x5, x6, x7, x8, x9⟩ := hSw; go_simp; (try with_reducible rfl))
      try simp only [Act.put, List.setIfInBounds_toArray, List.set_cons_succ, List.set_cons_zero]
      refine anyK_take2 (i := 15) (v := ?v15_17) rfl (by kernel_rfl) (by kernel_rfl) (by kernel_rfl) (by rfl) (fun _ _ _ h => h) (by rfl) hHeld ?hy15_17 (some 27) (by rfl) ?rest15_17
      case hy15_17 => (intro W hSw; obtain ⟨⟨x0, x1, x2, x3, x4⟩, x5, x6, x7, x8, x9⟩ := hSw; go_simp; (try with_reducible rfl))
      try simp only [Act.put, List.setIfInBounds_toArray, List.set_cons_succ, List.set_cons_zero]
      refine anyK_done (by kernel_rfl) ?_ _
      clear hHeld
      have HNo := hid (HNx.out (by unfold offE; rw [HEX2.out, Bool.or_true]))
      have HB9 := hid (HB.out.trans (BC.out.mono HB.out.size))
      go_wp2_with fail
      go_roundw
      case rel => exact ⟨k + 1, by omega, by go_num, HNo, HB9⟩
      case measure => simp [intOf]; omega
     | false =>
      refine anyK_take2 (i := 14) (v := ?v14_18) rfl (by kernel_rfl) (by kernel_rfl) (by kernel_rfl) (by rfl) (fun _ _ _ h => h) (by rfl) hHeld ?hy14_18 (some 26) (by rfl) ?rest14_18
      case hy14_18 => (intro W hSw; obtain ⟨⟨x0, x1, x2, x3, x4⟩, x5, x6, x7, x8, x9⟩ := hSw; go_simp; (try with_reducible rfl))
      try simp only [Act.put, List.setIfInBounds_toArray, List.set_cons_succ, List.set_cons_zero]
      refine anyK_take2 (i := 15) (v := ?v15_19) rfl (by kernel_rfl) (by kernel_rfl) (by kernel_rfl) (by rfl) (fun _ _ _ h => h) (by rfl) hHeld ?hy15_19 (some 27) (by rfl) ?rest15_19
      case hy15_19 => (intro W hSw; obtain ⟨⟨x0, x1, x2, x3, x4⟩, x5, x6, x7, x8, x9⟩ := hSw; go_simp; (try with_reducible rfl))
      try simp only [Act.put, List.setIfInBounds_toArray, List.set_cons_succ, List.set_cons_zero]
      refine anyK_done (by kernel_rfl) ?_ _
      clear hHeld
      have HYes := hid (HOne.out (by unfold offE; rw [HEX1.out, HEX2.out]; rfl))
      have HB9 := hid (HBX.out.trans ((HB.out.trans (BC.out.mono HB.out.size)).mono HBX.out.size))
      go_wp2_with fail
      go_ret
      exact ⟨by rw [HYes.out]; rfl, HB9.out⟩
  · have hlt' : ¬ (k : Int) < (n : Int) := by omega
    have HNo := hid (show es.any (fun z => !offE ⟨KQ, NQ, FQ, ZQ, iq⟩ z) = false from List.any_eq_false.2 (fun z hz => by
     obtain ⟨j, hj, e⟩ := List.mem_iff_getElem.1 hz
     have := HA.out j (by have := HN.out; omega)
     rw [List.getD_eq_getElem?_getD, List.getElem?_eq_getElem hj, Option.getD_some, e] at this
     rw [this]; simp))
    go_wp2_with fail
    go_ret
    exact ⟨by rw [HNo.out]; rfl, HBX.out.trans (HB.out.mono HBX.out.size)⟩
end Go.Proofs.Ytphmlndkjgldkaa
