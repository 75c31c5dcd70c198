/- The contracts of the program's isDeed and DeedsOk: moments are kept in a map. Conditions: texts of at most 2^21 bytes. -/
import Derived.Test.YtjcjoabblafboaaGreatMge
import Derived.Test.YtjcjoabblafboaaGreatFa13
import Derived.Test.YtjcjoabblafboaaGreatGg14
import Derived.Test.YtjcjoabblafboaaGreatMgb
import Derived.Maps.OwnSet
namespace Go.Proofs.YtjcjoabblafboaaGreat
open Go.RowKit Go.Maps
set_option maxRecDepth 100000
theorem countP_take13 {α : Type} (p : α → Bool) (es : List α) (d : α) {k : Nat} (hk : k < es.length) : (es.take (k + 1)).countP p = (es.take k).countP p + (if p (es.getD k d) = true then 1 else 0) := by
 rw [List.take_succ_eq_append_getElem hk, List.countP_append, List.getD_eq_getElem?_getD, List.getElem?_eq_getElem hk]
 simp [List.countP_cons]
theorem countP_all13 {α : Type} (p : α → Bool) (es : List α) : decide (es.countP p = es.length) = es.all p := by
 rw [Bool.eq_iff_iff, decide_eq_true_iff, List.countP_eq_length, List.all_eq_true]
set_option maxHeartbeats 3200000 in
theorem count_spans {a : Option Addr} {n : Nat} (c : Nat) {rs : List (Im × Im)} {w : World} (h : ReadsM w a (fl2 rs)) (hl : rs.length = n) (hn : n ≤ 2097152) (hs : ∀ i, ((fl2 rs).getD i im0).Z.length ≤ 2097152) :
 Calls Tryz.prog 92 #[.slice a n c, .func (.func 93) #[] #[]] w fun e w' => e = .returned (.int .i64 (rs.countP spB : Nat)) ∧ Below w.heap.size w w' := by
 have HRM := hid h
 have HL := hid hl
 have HS := hid hs
 clear h hl hs
 go_enter Tryz.func92, Tryz.ntmps92
 go_wp2_with fail
 go_loopw [5, 10] (fun t i wr => ∃ k m : Nat, k ≤ n ∧ i = .int .i64 k ∧ t = .int .i64 m ∧ m ≤ k ∧ Hid (m = (rs.take k).countP spB) ∧ Hid (Below w.heap.size w wr)) (fun _ i _ => n - (intOf i).toNat)
 case atStart => exact ⟨0, 0, Nat.zero_le _, rfl, rfl, Nat.le_refl _, hid (by simp), hid (Below.refl _ _)⟩
 case round =>
  obtain ⟨k, m, hk, rfl, rfl, hmk, HC, HW⟩ := hrel
  by_cases hlt : k < n
  · have hlt' : (k : Int) < (n : Int) := by omega
    have hk0 : (0 : Int) ≤ (k : Int) := by omega
    have hl2 : (fl2 rs).length = n * 2 := by rw [fl2_len, HL.out]
    obtain ⟨b, off, p1, d1, rfl, bx, q1, _, _, hf1⟩ := HRM.out.at (k := k * 2) (by omega)
    obtain ⟨b', off', p2, d2, e', by', q2, _, _, hf2⟩ := HRM.out.at (k := k * 2 + 1) (by omega)
    obtain ⟨rfl, rfl⟩ : b = b' ∧ off = off' := by simpa using e'
    have hz1 := HS.out (k * 2)
    have hz2 := HS.out (k * 2 + 1)
    have hat := fl2_at rs k
    rw [hat.1] at bx q1 hf1 hz1
    rw [hat.2] at by' q2 hf2 hz2
    have HT := hid (countP_take13 spB rs sp0 (k := k) (by rw [HL.out]; exact hlt))
    generalize rs.getD k sp0 = pp at *
    obtain ⟨⟨K1, N1, F1, Z1⟩, K2, N2, F2, Z2⟩ := pp
    simp only at bx by' q1 q2 hf1 hf2 hz1 hz2
    obtain ⟨m1, hm1⟩ : ∃ m, Z1.length = m := ⟨_, rfl⟩
    obtain ⟨m2, hm2⟩ : ∃ m, Z2.length = m := ⟨_, rfl⟩
    rw [hm1] at bx q1 hz1
    rw [hm2] at by' q2 hz2
    rw [show off + k * 2 * 4 = off + k * 8 by omega] at bx
    rw [show off + (k * 2 + 1) * 4 = off + k * 8 + 4 by omega] at by'
    obtain ⟨x0, x1, x2, x3⟩ := bx.below HW.out (Nat.le_refl _)
    obtain ⟨x4, x5, x6, x7⟩ := by'.below HW.out (Nat.le_refl _)
    have bA := Below.alloc1 wr (.cells #[.int .i64 K1, .int .i64 N1, .float .f64 F1, .slice p1 m1 d1, .int .i64 K2, .int .i64 N2, .float .f64 F2, .slice p2 m2 d2] 74)
    have HWA := hid (HW.out.trans (bA.mono HW.out.size))
    have Q1 := hid (q1.below HWA.out (Nat.le_refl _))
    have Q2 := hid (q2.below HWA.out (Nat.le_refl _))
    have hst := fun w a m => run_store Tryz.prog w a (.float .f64 F1) m rfl
    have hst2 := fun w a m => run_store Tryz.prog w a (.float .f64 F2) m rfl
    clear bx by' q1 q2 hm1 hm2 hat hl2 e' bA
    go_wp2_with fail
    clear x0 x1 x2 x3 x4 x5 x6 x7
    refine (impl_SpanOk_n K1 N1 F1 d1 K2 N2 F2 d2 Q1.out Q2.out hf1 hf2 hz1 hz2).mono ?_
    rintro e w1 ⟨rfl, b1⟩
    have HW2 := hid (HWA.out.trans (b1.mono HWA.out.size))
    clear b1
    cases hin : spB (⟨K1, N1, F1, Z1⟩, ⟨K2, N2, F2, Z2⟩) with
    | true =>
     have HN2 := hid (show m + 1 = (rs.take (k + 1)).countP spB by rw [HT.out, ← HC.out, hin]; rfl)
     clear hin
     go_wp2_with fail
     go_roundw
     case rel => exact ⟨k + 1, m + 1, by omega, by go_num, by go_num, by omega, HN2, HW2⟩
     case measure => simp [intOf]; omega
    | false =>
     have HN2 := hid (show m = (rs.take (k + 1)).countP spB by rw [HT.out, ← HC.out, hin]; rfl)
     clear hin
     go_wp2_with fail
     go_roundw
     case rel => exact ⟨k + 1, m, by omega, by go_num, rfl, by omega, HN2, HW2⟩
     case measure => simp [intOf]; omega
  · have hlt' : ¬ (k : Int) < (n : Int) := by omega
    have HE := hid (show rs.countP spB = m by rw [HC.out, List.take_of_length_le (by have := HL.out; omega)])
    go_wp2_with fail
    go_ret
    exact ⟨by rw [HE.out]; rfl, HW.out⟩
set_option maxHeartbeats 3200000 in
theorem count_items {a : Option Addr} {n : Nat} (c : Nat) {ws : List Im} {w : World} (h : ReadsM w a ws) (hl : ws.length = n) (hn : n ≤ 2097152) (hs : ∀ i, (ws.getD i im0).Z.length ≤ 2097152) :
 Calls Tryz.prog 94 #[.slice a n c, .func (.func 95) #[] #[]] w fun e w' => e = .returned (.int .i64 (ws.countP okM : Nat)) ∧ Below w.heap.size w w' := by
 have HRM := hid h
 have HL := hid hl
 have HS := hid hs
 clear h hl hs
 go_enter Tryz.func94, Tryz.ntmps94
 go_wp2_with fail
 go_loopw [5, 10] (fun t i wr => ∃ k m : Nat, k ≤ n ∧ i = .int .i64 k ∧ t = .int .i64 m ∧ m ≤ k ∧ Hid (m = (ws.take k).countP okM) ∧ Hid (Below w.heap.size w wr)) (fun _ i _ => n - (intOf i).toNat)
 case atStart => exact ⟨0, 0, Nat.zero_le _, rfl, rfl, Nat.le_refl _, hid (by simp), hid (Below.refl _ _)⟩
 case round =>
  obtain ⟨k, m, hk, rfl, rfl, hmk, HC, HW⟩ := hrel
  by_cases hlt : k < n
  · have hlt' : (k : Int) < (n : Int) := by omega
    have hk0 : (0 : Int) ≤ (k : Int) := by omega
    obtain ⟨b, off, p1, d1, rfl, bx, q1, _, _, hf1⟩ := HRM.out.at (k := k) (by have := HL.out; omega)
    have hz1 := HS.out k
    have HT := hid (countP_take13 okM ws im0 (k := k) (by rw [HL.out]; exact hlt))
    generalize ws.getD k im0 = pp at *
    obtain ⟨K1, N1, F1, Z1⟩ := pp
    simp only at bx q1 hf1 hz1
    obtain ⟨m1, hm1⟩ : ∃ m, Z1.length = m := ⟨_, rfl⟩
    have HOk := hid (show okM ⟨K1, N1, F1, Z1⟩ = okK K1 N1 F1 m1 by unfold okM; simp only [hm1])
    rw [hm1] at bx hz1
    obtain ⟨x0, x1, x2, x3⟩ := bx.below HW.out (Nat.le_refl _)
    have bA := Below.alloc1 wr (.cells #[.int .i64 K1, .int .i64 N1, .float .f64 F1, .slice p1 m1 d1] 72)
    have HWA := hid (HW.out.trans (bA.mono HW.out.size))
    have hst := fun w a m => run_store Tryz.prog w a (.float .f64 F1) m rfl
    clear bx q1 hm1 bA
    go_wp2_with fail
    clear x0 x1 x2 x3
    refine (impl_KeyOk K1 N1 F1 p1 m1 d1 hf1 hz1 _).mono ?_
    rintro e w1 ⟨rfl, b1⟩
    rw [← HOk.out]
    have HW2 := hid (HWA.out.trans (b1.mono HWA.out.size))
    clear b1
    cases hin : okM ⟨K1, N1, F1, Z1⟩ with
    | true =>
     have HN2 := hid (show m + 1 = (ws.take (k + 1)).countP okM by rw [HT.out, ← HC.out, hin]; rfl)
     clear hin
     go_wp2_with fail
     go_roundw
     case rel => exact ⟨k + 1, m + 1, by omega, by go_num, by go_num, by omega, HN2, HW2⟩
     case measure => simp [intOf]; omega
    | false =>
     have HN2 := hid (show m = (ws.take (k + 1)).countP okM by rw [HT.out, ← HC.out, hin]; rfl)
     clear hin
     go_wp2_with fail
     go_roundw
     case rel => exact ⟨k + 1, m, by omega, by go_num, rfl, by omega, HN2, HW2⟩
     case measure => simp [intOf]; omega
  · have hlt' : ¬ (k : Int) < (n : Int) := by omega
    have HE := hid (show ws.countP okM = m by rw [HC.out, List.take_of_length_le (by have := HL.out; omega)])
    go_wp2_with fail
    go_ret
    exact ⟨by rw [HE.out]; rfl, HW.out⟩
set_option maxHeartbeats 12800000 in
theorem impl_isDeed (xi be en : Int) (al inn ou : Bool) {rs : List (Im × Im)} {ws : List Im} {a1 : Option Addr} {n1 : Nat} (c1 : Nat) {a2 : Option Addr} {n2 : Nat} (c2 : Nat) {w : World} (h : ReadsM w a1 (fl2 rs)) (hl : rs.length = n1) (hs : ∀ i, ((fl2 rs).getD i im0).Z.length ≤ 2097152) (h' : ReadsM w a2 ws) (hl' : ws.length = n2) (hs' : ∀ i, (ws.getD i im0).Z.length ≤ 2097152) :
 Calls Tryz.prog 43 #[.agg #[.int .i64 xi, .int .i64 be, .int .i64 en, .slice a1 n1 c1, .slice a2 n2 c2]] w fun e w' => e = .returned (.bool (deedB ⟨xi, be, en, al, rs, ws, inn, ou⟩)) ∧ Below w.heap.size w w' := by
 obtain ⟨V, hV⟩ : ∃ V, deedB ⟨xi, be, en, al, rs, ws, inn, ou⟩ = V := ⟨_, rfl⟩
 rw [hV]
 have HV := hid (show V = (decide (1 ≤ be) && (decide (be < en) && (decide (n1 ≤ 200) && (decide (n2 ≤ 200) && (rs.all spB && ws.all okM))))) by rw [← hV]; unfold deedB; simp only [hl, hl'])
 have HB := hid (Below.alloc1 w (.cells #[.int .i64 xi, .int .i64 be, .int .i64 en, .slice a1 n1 c1, .slice a2 n2 c2] 68))
 have HA := hid (BoxV.row (heap_alloc_new w (.cells #[.int .i64 xi, .int .i64 be, .int .i64 en, .slice a1 n1 c1, .slice a2 n2 c2] 68)))
 have HR := hid h
 have HW := hid h'
 have HL := hid hl
 have HL' := hid hl'
 have HS := hid hs
 have HS' := hid hs'
 clear h h' hl hl' hs hs' hV
 have HSD := hid (show (fun W => BoxV W w.heap.size xi be en (.slice a1 n1 c1) (.slice a2 n2 c2)) (w.alloc (.cells #[.int .i64 xi, .int .i64 be, .int .i64 en, .slice a1 n1 c1, .slice a2 n2 c2] 68)).drew from HA.out.below ((Still.drew _).below _) (Nat.le_refl _))
 have HBD := hid (HB.out.trans (((Still.drew (w.alloc (.cells #[.int .i64 xi, .int .i64 be, .int .i64 en, .slice a1 n1 c1, .slice a2 n2 c2] 68))).below _).mono HB.out.size))
 clear HA HB
 go_enter Tryz.func43, Tryz.ntmps43
 go_wp2
 refine region_K 99 (fun W => BoxV W w.heap.size xi be en (.slice a1 n1 c1) (.slice a2 n2 c2)) (by kernel_rfl) ?_ (fun hHeld => ?_)
 · exact HSD.out
 generalize (w.alloc (.cells #[.int .i64 xi, .int .i64 be, .int .i64 en, .slice a1 n1 c1, .slice a2 n2 c2] 68)).drew = v0 at *
 by_cases k0 : 1 ≤ be
 · have q1 : 1 ≤ be := k0
   replace HV := hid (by have := HV.out; rwa [decide_eq_true k0, Bool.true_and] at this)
   refine anyK_take2 (i := 0) (v := ?v0_1) rfl (by kernel_rfl) (by kernel_rfl) (by kernel_rfl) (by rfl) (fun _ _ _ h => h) (by rfl) hHeld ?hy0_1 (some 3) (by rfl) ?rest0_1
   case hy0_1 => (intro W hSw; obtain ⟨x0, x1, x2, x3, x4⟩ := hSw; go_simp; (try with_reducible rfl))
   try simp only [Act.put, List.setIfInBounds_toArray, List.set_cons_succ, List.set_cons_zero]
   refine anyK_take2 (i := 1) (v := ?v1_2) rfl (by kernel_rfl) (by kernel_rfl) (by kernel_rfl) (by rfl) (fun _ _ _ h => h) (by rfl) hHeld ?hy1_2 (some 4) (by rfl) ?rest1_2
   case hy1_2 => (intro W hSw; obtain ⟨x0, x1, x2, x3, x4⟩ := hSw; go_simp; (try with_reducible rfl))
   try simp only [Act.put, List.setIfInBounds_toArray, List.set_cons_succ, List.set_cons_zero]
   refine anyK_take2 (i := 2) (v := ?v2_3) rfl (by kernel_rfl) (by kernel_rfl) (by kernel_rfl) (by rfl) (fun _ _ _ h => h) (by rfl) hHeld ?hy2_3 (some 5) (by rfl) ?rest2_3
   case hy2_3 => (intro W hSw; obtain ⟨x0, x1, x2, x3, x4⟩ := hSw; go_simp; (try with_reducible rfl))
   try simp only [Act.put, List.setIfInBounds_toArray, List.set_cons_succ, List.set_cons_zero]
   refine anyK_take2 (i := 3) (v := ?v3_4) rfl (by kernel_rfl) (by kernel_rfl) (by kernel_rfl) (by rfl) (fun _ _ _ h => h) (by rfl) hHeld ?hy3_4 (some 6) (by rfl) ?rest3_4
   case hy3_4 => (intro W hSw; obtain ⟨x0, x1, x2, x3, x4⟩ := hSw; go_simp; (try with_reducible rfl))
   try simp only [Act.put, List.setIfInBounds_toArray, List.set_cons_succ, List.set_cons_zero]
   by_cases k1 : be < en
   · have q2 : be < en := k1
     replace HV := hid (by have := HV.out; rwa [decide_eq_true k1, Bool.true_and] at this)
     refine anyK_take2 (i := 4) (v := ?v4_5) rfl (by kernel_rfl) (by kernel_rfl) (by kernel_rfl) (by rfl) (fun _ _ _ h => h) (by rfl) hHeld ?hy4_5 (some 7) (by rfl) ?rest4_5
     case hy4_5 => (intro W hSw; obtain ⟨x0, x1, x2, x3, x4⟩ := hSw; go_simp; (try with_reducible rfl))
     try simp only [Act.put, List.setIfInBounds_toArray, List.set_cons_succ, List.set_cons_zero]
     refine anyK_take2 (i := 5) (v := ?v5_6) rfl (by kernel_rfl) (by kernel_rfl) (by kernel_rfl) (by rfl) (fun _ _ _ h => h) (by rfl) hHeld ?hy5_6 (some 8) (by rfl) ?rest5_6
     case hy5_6 => (intro W hSw; obtain ⟨x0, x1, x2, x3, x4⟩ := hSw; go_simp; (try with_reducible rfl))
     try simp only [Act.put, List.setIfInBounds_toArray, List.set_cons_succ, List.set_cons_zero]
     refine anyK_take2 (i := 6) (v := ?v6_7) rfl (by kernel_rfl) (by kernel_rfl) (by kernel_rfl) (by rfl) (fun _ _ _ h => h) (by rfl) hHeld ?hy6_7 (some 9) (by rfl) ?rest6_7
     case hy6_7 => (intro W hSw; obtain ⟨x0, x1, x2, x3, x4⟩ := hSw; go_simp; (try with_reducible rfl))
     try simp only [Act.put, List.setIfInBounds_toArray, List.set_cons_succ, List.set_cons_zero]
     refine anyK_take2 (i := 7) (v := ?v7_8) rfl (by kernel_rfl) (by kernel_rfl) (by kernel_rfl) (by rfl) (fun _ _ _ h => h) (by rfl) hHeld ?hy7_8 (some 10) (by rfl) ?rest7_8
     case hy7_8 => (intro W hSw; obtain ⟨x0, x1, x2, x3, x4⟩ := hSw; go_simp; (try with_reducible rfl))
     try simp only [Act.put, List.setIfInBounds_toArray, List.set_cons_succ, List.set_cons_zero]
     refine anyK_take2 (i := 8) (v := ?v8_9) rfl (by kernel_rfl) (by kernel_rfl) (by kernel_rfl) (by rfl) (fun _ _ _ h => h) (by rfl) hHeld ?hy8_9 (some 11) (by rfl) ?rest8_9
     case hy8_9 => (intro W hSw; obtain ⟨x0, x1, x2, x3, x4⟩ := hSw; go_simp; (try with_reducible rfl))
     try simp only [Act.put, List.setIfInBounds_toArray, List.set_cons_succ, List.set_cons_zero]
     refine anyK_take2 (i := 9) (v := ?v9_10) rfl (by kernel_rfl) (by kernel_rfl) (by kernel_rfl) (by rfl) (fun _ _ _ h => h) (by rfl) hHeld ?hy9_10 (some 12) (by rfl) ?rest9_10
     case hy9_10 => (intro W hSw; obtain ⟨x0, x1, x2, x3, x4⟩ := hSw; go_simp; (try with_reducible rfl))
     try simp only [Act.put, List.setIfInBounds_toArray, List.set_cons_succ, List.set_cons_zero]
     refine anyK_take2 (i := 10) (v := ?v10_11) rfl (by kernel_rfl) (by kernel_rfl) (by kernel_rfl) (by rfl) (fun _ _ _ h => h) (by rfl) hHeld ?hy10_11 (some 13) (by rfl) ?rest10_11
     case hy10_11 => (intro W hSw; obtain ⟨x0, x1, x2, x3, x4⟩ := hSw; go_simp; (try with_reducible rfl))
     try simp only [Act.put, List.setIfInBounds_toArray, List.set_cons_succ, List.set_cons_zero]
     by_cases k2 : n1 ≤ 200
     · have q3 : (n1 : Int) ≤ 200 := by omega
       replace HV := hid (by have := HV.out; rwa [decide_eq_true k2, Bool.true_and] at this)
       refine anyK_take2 (i := 11) (v := ?v11_12) rfl (by kernel_rfl) (by kernel_rfl) (by kernel_rfl) (by rfl) (fun _ _ _ h => h) (by rfl) hHeld ?hy11_12 (some 14) (by rfl) ?rest11_12
       case hy11_12 => (intro W hSw; obtain ⟨x0, x1, x2, x3, x4⟩ := hSw; go_simp; (try with_reducible rfl))
       try simp only [Act.put, List.setIfInBounds_toArray, List.set_cons_succ, List.set_cons_zero]
       refine anyK_take2 (i := 12) (v := ?v12_13) rfl (by kernel_rfl) (by kernel_rfl) (by kernel_rfl) (by rfl) (fun _ _ _ h => h) (by rfl) hHeld ?hy12_13 (some 15) (by rfl) ?rest12_13
       case hy12_13 => (intro W hSw; obtain ⟨x0, x1, x2, x3, x4⟩ := hSw; go_simp; (try with_reducible rfl))
       try simp only [Act.put, List.setIfInBounds_toArray, List.set_cons_succ, List.set_cons_zero]
       refine anyK_take2 (i := 13) (v := ?v13_14) rfl (by kernel_rfl) (by kernel_rfl) (by kernel_rfl) (by rfl) (fun _ _ _ h => h) (by rfl) hHeld ?hy13_14 (some 16) (by rfl) ?rest13_14
       case hy13_14 => (intro W hSw; obtain ⟨x0, x1, x2, x3, x4⟩ := hSw; go_simp; (try with_reducible rfl))
       try simp only [Act.put, List.setIfInBounds_toArray, List.set_cons_succ, List.set_cons_zero]
       refine anyK_take2 (i := 14) (v := ?v14_15) rfl (by kernel_rfl) (by kernel_rfl) (by kernel_rfl) (by rfl) (fun _ _ _ h => h) (by rfl) hHeld ?hy14_15 (some 17) (by rfl) ?rest14_15
       case hy14_15 => (intro W hSw; obtain ⟨x0, x1, x2, x3, x4⟩ := hSw; go_simp; (try with_reducible rfl))
       try simp only [Act.put, List.setIfInBounds_toArray, List.set_cons_succ, List.set_cons_zero]
       refine anyK_take2 (i := 15) (v := ?v15_16) rfl (by kernel_rfl) (by kernel_rfl) (by kernel_rfl) (by rfl) (fun _ _ _ h => h) (by rfl) hHeld ?hy15_16 (some 18) (by rfl) ?rest15_16
       case hy15_16 => (intro W hSw; obtain ⟨x0, x1, x2, x3, x4⟩ := hSw; go_simp; (try with_reducible rfl))
       try simp only [Act.put, List.setIfInBounds_toArray, List.set_cons_succ, List.set_cons_zero]
       refine anyK_take2 (i := 16) (v := ?v16_17) rfl (by kernel_rfl) (by kernel_rfl) (by kernel_rfl) (by rfl) (fun _ _ _ h => h) (by rfl) hHeld ?hy16_17 (some 19) (by rfl) ?rest16_17
       case hy16_17 => (intro W hSw; obtain ⟨x0, x1, x2, x3, x4⟩ := hSw; go_simp; (try with_reducible rfl))
       try simp only [Act.put, List.setIfInBounds_toArray, List.set_cons_succ, List.set_cons_zero]
       by_cases k3 : n2 ≤ 200
       · have q4 : (n2 : Int) ≤ 200 := by omega
         replace HV := hid (by have := HV.out; rwa [decide_eq_true k3, Bool.true_and] at this)
         refine anyK_take2 (i := 17) (v := ?v17_18) rfl (by kernel_rfl) (by kernel_rfl) (by kernel_rfl) (by rfl) (fun _ _ _ h => h) (by rfl) hHeld ?hy17_18 (some 20) (by rfl) ?rest17_18
         case hy17_18 => (intro W hSw; obtain ⟨x0, x1, x2, x3, x4⟩ := hSw; go_simp; (try with_reducible rfl))
         try simp only [Act.put, List.setIfInBounds_toArray, List.set_cons_succ, List.set_cons_zero]
         refine anyK_take2 (i := 18) (v := ?v18_19) rfl (by kernel_rfl) (by kernel_rfl) (by kernel_rfl) (by rfl) (fun _ _ _ h => h) (by rfl) hHeld ?hy18_19 (some 21) (by rfl) ?rest18_19
         case hy18_19 => (intro W hSw; obtain ⟨x0, x1, x2, x3, x4⟩ := hSw; go_simp; (try with_reducible rfl))
         try simp only [Act.put, List.setIfInBounds_toArray, List.set_cons_succ, List.set_cons_zero]
         refine anyK_take2 (i := 19) (v := ?v19_20) rfl (by kernel_rfl) (by kernel_rfl) (by kernel_rfl) (by rfl) (fun _ _ _ h => h) (by rfl) hHeld ?hy19_20 (some 22) (by rfl) ?rest19_20
         case hy19_20 => (intro W hSw; obtain ⟨x0, x1, x2, x3, x4⟩ := hSw; go_simp; (try with_reducible rfl))
         try simp only [Act.put, List.setIfInBounds_toArray, List.set_cons_succ, List.set_cons_zero]
         refine anyK_take2 (i := 20) (v := ?v20_21) rfl (by kernel_rfl) (by kernel_rfl) (by kernel_rfl) (by rfl) (fun _ _ _ h => h) (by rfl) hHeld ?hy20_21 (some 23) (by rfl) ?rest20_21
         case hy20_21 => (intro W hSw; obtain ⟨x0, x1, x2, x3, x4⟩ := hSw; go_simp; (try with_reducible rfl))
         try simp only [Act.put, List.setIfInBounds_toArray, List.set_cons_succ, List.set_cons_zero]
         refine anyK_take2 (i := 21) (v := ?v21_22) rfl (by kernel_rfl) (by kernel_rfl) (by kernel_rfl) (by rfl) (fun _ _ _ h => h) (by rfl) hHeld ?hy21_22 (some 24) (by rfl) ?rest21_22
         case hy21_22 => (intro W hSw; obtain ⟨x0, x1, x2, x3, x4⟩ := hSw; go_simp; (try with_reducible rfl))
         try simp only [Act.put, List.setIfInBounds_toArray, List.set_cons_succ, List.set_cons_zero]
         refine anyK_take2 (i := 22) (v := ?v22_23) rfl (by kernel_rfl) (by kernel_rfl) (by kernel_rfl) (by rfl) (fun _ _ _ h => h) (by rfl) hHeld ?hy22_23 (some 25) (by rfl) ?rest22_23
         case hy22_23 => (intro W hSw; obtain ⟨x0, x1, x2, x3, x4⟩ := hSw; go_simp; (try with_reducible rfl))
         try simp only [Act.put, List.setIfInBounds_toArray, List.set_cons_succ, List.set_cons_zero]
         refine anyK_take2 (i := 23) (v := ?v23_24) rfl (by kernel_rfl) (by kernel_rfl) (by kernel_rfl) (by rfl) (fun _ _ _ h => h) (by rfl) hHeld ?hy23_24 (some 26) (by rfl) ?rest23_24
         case hy23_24 => (intro W hSw; obtain ⟨x0, x1, x2, x3, x4⟩ := hSw; go_simp; (try with_reducible rfl))
         try simp only [Act.put, List.setIfInBounds_toArray, List.set_cons_succ, List.set_cons_zero]
         refine anyK_take2 (i := 24) (v := ?v24_25) rfl (by kernel_rfl) (by kernel_rfl) (by kernel_rfl) (by rfl) (fun _ _ _ h => h) (by rfl) hHeld ?hy24_25 (some 27) (by rfl) ?rest24_25
         case hy24_25 => (intro W hSw; obtain ⟨x0, x1, x2, x3, x4⟩ := hSw; go_simp; (try with_reducible rfl))
         try simp only [Act.put, List.setIfInBounds_toArray, List.set_cons_succ, List.set_cons_zero]
         refine anyK_take2 (i := 26) (v := ?v26_26) rfl (by kernel_rfl) (by kernel_rfl) (by kernel_rfl) (by rfl) (fun _ _ _ h => h) (by rfl) hHeld ?hy26_26 (some 29) (by rfl) ?rest26_26
         case hy26_26 => (intro W hSw; obtain ⟨x0, x1, x2, x3, x4⟩ := hSw; go_simp; (try with_reducible rfl))
         try simp only [Act.put, List.setIfInBounds_toArray, List.set_cons_succ, List.set_cons_zero]
         refine anyK_take2 (i := 27) (v := ?v27_27) rfl (by kernel_rfl) (by kernel_rfl) (by kernel_rfl) (by rfl) (fun _ _ _ h => h) (by rfl) hHeld ?hy27_27 (some 30) (by rfl) ?rest27_27
         case hy27_27 => (intro W hSw; obtain ⟨x0, x1, x2, x3, x4⟩ := hSw; go_simp; (try with_reducible rfl))
         try simp only [Act.put, List.setIfInBounds_toArray, List.set_cons_succ, List.set_cons_zero]
         refine anyK_take2 (i := 28) (v := ?v28_28) rfl (by kernel_rfl) (by kernel_rfl) (by kernel_rfl) (by rfl) (fun _ _ _ h => h) (by rfl) hHeld ?hy28_28 (some 31) (by rfl) ?rest28_28
         case hy28_28 => (intro W hSw; obtain ⟨x0, x1, x2, x3, x4⟩ := hSw; go_simp; (try with_reducible rfl))
         try simp only [Act.put, List.setIfInBounds_toArray, List.set_cons_succ, List.set_cons_zero]
         refine anyK_step (i := 25) (by kernel_rfl) rfl (fun KP hK => ?_)
         go_simp
         refine (count_spans c1 (HR.out.below HBD.out (Nat.le_refl _)) HL.out (by omega) HS.out).mono ?_
         rintro e u1 ⟨rfl, bb⟩
         have HSE := hid (show (fun W => BoxV W w.heap.size xi be en (.slice a1 n1 c1) (.slice a2 n2 c2)) u1 from HSD.out.below bb (Nat.le_refl _))
         have HBE := hid (HBD.out.trans (bb.mono HBD.out.size))
         clear bb
         obtain ⟨C4, hC4⟩ : ∃ C, rs.countP spB = C := ⟨_, rfl⟩
         rw [hC4]
         have HC4 := hid (show rs.all spB = decide (C4 = n1) by rw [← countP_all13, hC4, HL.out])
         clear hC4
         go_wp2_with fail
         clear hHeld
         refine hK.out _ _ HSE.out (fun hHeld => ?_)
         clear hK KP
         try simp only [Act.put, List.setIfInBounds_toArray, List.set_cons_succ, List.set_cons_zero]
         by_cases k4 : C4 = n1
         · have q5 : ((C4 : Int) == (n1 : Int)) = true := by rw [beq_iff_eq]; omega
           replace HV := hid (by have := HV.out; rwa [HC4.out, decide_eq_true k4, Bool.true_and] at this)
           clear k4
           refine anyK_take2 (i := 29) (v := ?v29_29) rfl (by kernel_rfl) (by kernel_rfl) (by kernel_rfl) (by rfl) (fun _ _ _ h => h) (by rfl) hHeld ?hy29_29 (some 32) (by rfl) ?rest29_29
           case hy29_29 => (intro W hSw; obtain ⟨x0, x1, x2, x3, x4⟩ := hSw; go_simp; (try with_reducible rfl))
           try simp only [Act.put, List.setIfInBounds_toArray, List.set_cons_succ, List.set_cons_zero]
           refine anyK_take2 (i := 30) (v := ?v30_30) rfl (by kernel_rfl) (by kernel_rfl) (by kernel_rfl) (by rfl) (fun _ _ _ h => h) (by rfl) hHeld ?hy30_30 (some 33) (by rfl) ?rest30_30
           case hy30_30 => (intro W hSw; obtain ⟨x0, x1, x2, x3, x4⟩ := hSw; go_simp; (try with_reducible rfl))
           try simp only [Act.put, List.setIfInBounds_toArray, List.set_cons_succ, List.set_cons_zero]
           refine anyK_take2 (i := 31) (v := ?v31_31) rfl (by kernel_rfl) (by kernel_rfl) (by kernel_rfl) (by rfl) (fun _ _ _ h => h) (by rfl) hHeld ?hy31_31 (some 34) (by rfl) ?rest31_31
           case hy31_31 => (intro W hSw; obtain ⟨x0, x1, x2, x3, x4⟩ := hSw; go_simp; (try with_reducible rfl))
           try simp only [Act.put, List.setIfInBounds_toArray, List.set_cons_succ, List.set_cons_zero]
           refine anyK_take2 (i := 32) (v := ?v32_32) rfl (by kernel_rfl) (by kernel_rfl) (by kernel_rfl) (by rfl) (fun _ _ _ h => h) (by rfl) hHeld ?hy32_32 (some 35) (by rfl) ?rest32_32
           case hy32_32 => (intro W hSw; obtain ⟨x0, x1, x2, x3, x4⟩ := hSw; go_simp; (try with_reducible rfl))
           try simp only [Act.put, List.setIfInBounds_toArray, List.set_cons_succ, List.set_cons_zero]
           refine anyK_take2 (i := 33) (v := ?v33_33) rfl (by kernel_rfl) (by kernel_rfl) (by kernel_rfl) (by rfl) (fun _ _ _ h => h) (by rfl) hHeld ?hy33_33 (some 36) (by rfl) ?rest33_33
           case hy33_33 => (intro W hSw; obtain ⟨x0, x1, x2, x3, x4⟩ := hSw; go_simp; (try with_reducible rfl))
           try simp only [Act.put, List.setIfInBounds_toArray, List.set_cons_succ, List.set_cons_zero]
           refine anyK_take2 (i := 35) (v := ?v35_34) rfl (by kernel_rfl) (by kernel_rfl) (by kernel_rfl) (by rfl) (fun _ _ _ h => h) (by rfl) hHeld ?hy35_34 (some 38) (by rfl) ?rest35_34
           case hy35_34 => (intro W hSw; obtain ⟨x0, x1, x2, x3, x4⟩ := hSw; go_simp; (try with_reducible rfl))
           try simp only [Act.put, List.setIfInBounds_toArray, List.set_cons_succ, List.set_cons_zero]
           refine anyK_take2 (i := 36) (v := ?v36_35) rfl (by kernel_rfl) (by kernel_rfl) (by kernel_rfl) (by rfl) (fun _ _ _ h => h) (by rfl) hHeld ?hy36_35 (some 39) (by rfl) ?rest36_35
           case hy36_35 => (intro W hSw; obtain ⟨x0, x1, x2, x3, x4⟩ := hSw; go_simp; (try with_reducible rfl))
           try simp only [Act.put, List.setIfInBounds_toArray, List.set_cons_succ, List.set_cons_zero]
           refine anyK_take2 (i := 37) (v := ?v37_36) rfl (by kernel_rfl) (by kernel_rfl) (by kernel_rfl) (by rfl) (fun _ _ _ h => h) (by rfl) hHeld ?hy37_36 (some 40) (by rfl) ?rest37_36
           case hy37_36 => (intro W hSw; obtain ⟨x0, x1, x2, x3, x4⟩ := hSw; go_simp; (try with_reducible rfl))
           try simp only [Act.put, List.setIfInBounds_toArray, List.set_cons_succ, List.set_cons_zero]
           refine anyK_step (i := 34) (by kernel_rfl) rfl (fun KP hK => ?_)
           go_simp
           refine (count_items c2 (HW.out.below HBE.out (Nat.le_refl _)) HL'.out (by omega) HS'.out).mono ?_
           rintro e u2 ⟨rfl, bb⟩
           have HSF := hid (show (fun W => BoxV W w.heap.size xi be en (.slice a1 n1 c1) (.slice a2 n2 c2)) u2 from HSE.out.below bb (Nat.le_refl _))
           have HBF := hid (HBE.out.trans (bb.mono HBE.out.size))
           clear bb
           obtain ⟨C5, hC5⟩ : ∃ C, ws.countP okM = C := ⟨_, rfl⟩
           rw [hC5]
           have HC5 := hid (show ws.all okM = decide (C5 = n2) by rw [← countP_all13, hC5, HL'.out])
           clear hC5
           go_wp2_with fail
           clear hHeld
           refine hK.out _ _ HSF.out (fun hHeld => ?_)
           clear hK KP
           try simp only [Act.put, List.setIfInBounds_toArray, List.set_cons_succ, List.set_cons_zero]
           by_cases k5 : C5 = n2
           · have q6 : ((C5 : Int) == (n2 : Int)) = true := by rw [beq_iff_eq]; omega
             replace HV := hid (by have := HV.out; rwa [HC5.out, decide_eq_true k5] at this)
             clear k5
             refine anyK_take2 (i := 38) (v := ?v38_37) rfl (by kernel_rfl) (by kernel_rfl) (by kernel_rfl) (by rfl) (fun _ _ _ h => h) (by rfl) hHeld ?hy38_37 (some 41) (by rfl) ?rest38_37
             case hy38_37 => (intro W hSw; obtain ⟨x0, x1, x2, x3, x4⟩ := hSw; go_simp; (try with_reducible rfl))
             try simp only [Act.put, List.setIfInBounds_toArray, List.set_cons_succ, List.set_cons_zero]
             refine anyK_take2 (i := 39) (v := ?v39_38) rfl (by kernel_rfl) (by kernel_rfl) (by kernel_rfl) (by rfl) (fun _ _ _ h => h) (by rfl) hHeld ?hy39_38 (some 42) (by rfl) ?rest39_38
             case hy39_38 => (intro W hSw; obtain ⟨x0, x1, x2, x3, x4⟩ := hSw; go_simp; (try with_reducible rfl))
             try simp only [Act.put, List.setIfInBounds_toArray, List.set_cons_succ, List.set_cons_zero]
             refine anyK_take2 (i := 40) (v := ?v40_39) rfl (by kernel_rfl) (by kernel_rfl) (by kernel_rfl) (by rfl) (fun _ _ _ h => h) (by rfl) hHeld ?hy40_39 (some 2) (by rfl) ?rest40_39
             case hy40_39 => (intro W hSw; obtain ⟨x0, x1, x2, x3, x4⟩ := hSw; go_simp; (try with_reducible rfl))
             try simp only [Act.put, List.setIfInBounds_toArray, List.set_cons_succ, List.set_cons_zero]
             have HF := HV
             refine anyK_done (by kernel_rfl) ?_ _
             clear hHeld
             go_wp2_with fail
             go_ret
             exact ⟨by rw [HF.out]; rfl, HBF.out⟩
           · have q6 : ((C5 : Int) == (n2 : Int)) = false := by rw [beq_eq_false_iff_ne]; omega
             have HF := hid (show V = false by rw [HV.out, HC5.out, decide_eq_false k5])
             clear k5
             refine anyK_take2 (i := 38) (v := ?v38_40) rfl (by kernel_rfl) (by kernel_rfl) (by kernel_rfl) (by rfl) (fun _ _ _ h => h) (by rfl) hHeld ?hy38_40 (some 41) (by rfl) ?rest38_40
             case hy38_40 => (intro W hSw; obtain ⟨x0, x1, x2, x3, x4⟩ := hSw; go_simp; (try with_reducible rfl))
             try simp only [Act.put, List.setIfInBounds_toArray, List.set_cons_succ, List.set_cons_zero]
             refine anyK_take2 (i := 39) (v := ?v39_41) rfl (by kernel_rfl) (by kernel_rfl) (by kernel_rfl) (by rfl) (fun _ _ _ h => h) (by rfl) hHeld ?hy39_41 (some 42) (by rfl) ?rest39_41
             case hy39_41 => (intro W hSw; obtain ⟨x0, x1, x2, x3, x4⟩ := hSw; go_simp; (try with_reducible rfl))
             try simp only [Act.put, List.setIfInBounds_toArray, List.set_cons_succ, List.set_cons_zero]
             refine anyK_take2 (i := 40) (v := ?v40_42) rfl (by kernel_rfl) (by kernel_rfl) (by kernel_rfl) (by rfl) (fun _ _ _ h => h) (by rfl) hHeld ?hy40_42 (some 2) (by rfl) ?rest40_42
             case hy40_42 => (intro W hSw; obtain ⟨x0, x1, x2, x3, x4⟩ := hSw; go_simp; (try with_reducible rfl))
             try simp only [Act.put, List.setIfInBounds_toArray, List.set_cons_succ, List.set_cons_zero]
             refine anyK_done (by kernel_rfl) ?_ _
             clear hHeld
             go_wp2_with fail
             go_ret
             exact ⟨by rw [HF.out]; rfl, HBF.out⟩
         · have q5 : ((C4 : Int) == (n1 : Int)) = false := by rw [beq_eq_false_iff_ne]; omega
           have HF := hid (show V = false by rw [HV.out, HC4.out, decide_eq_false k4, Bool.false_and])
           clear k4
           refine anyK_take2 (i := 29) (v := ?v29_43) rfl (by kernel_rfl) (by kernel_rfl) (by kernel_rfl) (by rfl) (fun _ _ _ h => h) (by rfl) hHeld ?hy29_43 (some 32) (by rfl) ?rest29_43
           case hy29_43 => (intro W hSw; obtain ⟨x0, x1, x2, x3, x4⟩ := hSw; go_simp; (try with_reducible rfl))
           try simp only [Act.put, List.setIfInBounds_toArray, List.set_cons_succ, List.set_cons_zero]
           refine anyK_take2 (i := 30) (v := ?v30_44) rfl (by kernel_rfl) (by kernel_rfl) (by kernel_rfl) (by rfl) (fun _ _ _ h => h) (by rfl) hHeld ?hy30_44 (some 33) (by rfl) ?rest30_44
           case hy30_44 => (intro W hSw; obtain ⟨x0, x1, x2, x3, x4⟩ := hSw; go_simp; (try with_reducible rfl))
           try simp only [Act.put, List.setIfInBounds_toArray, List.set_cons_succ, List.set_cons_zero]
           refine anyK_take2 (i := 31) (v := ?v31_45) rfl (by kernel_rfl) (by kernel_rfl) (by kernel_rfl) (by rfl) (fun _ _ _ h => h) (by rfl) hHeld ?hy31_45 (some 34) (by rfl) ?rest31_45
           case hy31_45 => (intro W hSw; obtain ⟨x0, x1, x2, x3, x4⟩ := hSw; go_simp; (try with_reducible rfl))
           try simp only [Act.put, List.setIfInBounds_toArray, List.set_cons_succ, List.set_cons_zero]
           refine anyK_skip (i := 32) rfl (by kernel_rfl) (by kernel_rfl) (by kernel_rfl) (by kernel_rfl) (fun _ _ _ h => h) (by rfl) hHeld (some 35) (by rfl) ?_
           try simp only [Act.put, List.setIfInBounds_toArray, List.set_cons_succ, List.set_cons_zero]
           refine anyK_skip (i := 33) rfl (by kernel_rfl) (by kernel_rfl) (by kernel_rfl) (by kernel_rfl) (fun _ _ _ h => h) (by rfl) hHeld (some 36) (by rfl) ?_
           try simp only [Act.put, List.setIfInBounds_toArray, List.set_cons_succ, List.set_cons_zero]
           refine anyK_skip (i := 34) rfl (by kernel_rfl) (by kernel_rfl) (by kernel_rfl) (by kernel_rfl) (fun _ _ _ h => h) (by rfl) hHeld (some 37) (by rfl) ?_
           try simp only [Act.put, List.setIfInBounds_toArray, List.set_cons_succ, List.set_cons_zero]
           refine anyK_skip (i := 35) rfl (by kernel_rfl) (by kernel_rfl) (by kernel_rfl) (by kernel_rfl) (fun _ _ _ h => h) (by rfl) hHeld (some 38) (by rfl) ?_
           try simp only [Act.put, List.setIfInBounds_toArray, List.set_cons_succ, List.set_cons_zero]
           refine anyK_skip (i := 36) rfl (by kernel_rfl) (by kernel_rfl) (by kernel_rfl) (by kernel_rfl) (fun _ _ _ h => h) (by rfl) hHeld (some 39) (by rfl) ?_
           try simp only [Act.put, List.setIfInBounds_toArray, List.set_cons_succ, List.set_cons_zero]
           refine anyK_skip (i := 37) rfl (by kernel_rfl) (by kernel_rfl) (by kernel_rfl) (by kernel_rfl) (fun _ _ _ h => h) (by rfl) hHeld (some 40) (by rfl) ?_
           try simp only [Act.put, List.setIfInBounds_toArray, List.set_cons_succ, List.set_cons_zero]
           refine anyK_skip (i := 38) rfl (by kernel_rfl) (by kernel_rfl) (by kernel_rfl) (by kernel_rfl) (fun _ _ _ h => h) (by rfl) hHeld (some 41) (by rfl) ?_
           try simp only [Act.put, List.setIfInBounds_toArray, List.set_cons_succ, List.set_cons_zero]
           refine anyK_take2 (i := 39) (v := ?v39_46) rfl (by kernel_rfl) (by kernel_rfl) (by kernel_rfl) (by rfl) (fun _ _ _ h => h) (by rfl) hHeld ?hy39_46 (some 42) (by rfl) ?rest39_46
           case hy39_46 => (intro W hSw; obtain ⟨x0, x1, x2, x3, x4⟩ := hSw; go_simp; (try with_reducible rfl))
           try simp only [Act.put, List.setIfInBounds_toArray, List.set_cons_succ, List.set_cons_zero]
           refine anyK_take2 (i := 40) (v := ?v40_47) rfl (by kernel_rfl) (by kernel_rfl) (by kernel_rfl) (by rfl) (fun _ _ _ h => h) (by rfl) hHeld ?hy40_47 (some 2) (by rfl) ?rest40_47
           case hy40_47 => (intro W hSw; obtain ⟨x0, x1, x2, x3, x4⟩ := hSw; go_simp; (try with_reducible rfl))
           try simp only [Act.put, List.setIfInBounds_toArray, List.set_cons_succ, List.set_cons_zero]
           refine anyK_done (by kernel_rfl) ?_ _
           clear hHeld
           go_wp2_with fail
           go_ret
           exact ⟨by rw [HF.out]; rfl, HBE.out⟩
       · have q4 : ¬ (n2 : Int) ≤ 200 := by omega
         have HF := hid (show V = false by rw [HV.out, decide_eq_false k3, Bool.false_and])
         refine anyK_take2 (i := 17) (v := ?v17_48) rfl (by kernel_rfl) (by kernel_rfl) (by kernel_rfl) (by rfl) (fun _ _ _ h => h) (by rfl) hHeld ?hy17_48 (some 20) (by rfl) ?rest17_48
         case hy17_48 => (intro W hSw; obtain ⟨x0, x1, x2, x3, x4⟩ := hSw; go_simp; (try with_reducible rfl))
         try simp only [Act.put, List.setIfInBounds_toArray, List.set_cons_succ, List.set_cons_zero]
         refine anyK_take2 (i := 18) (v := ?v18_49) rfl (by kernel_rfl) (by kernel_rfl) (by kernel_rfl) (by rfl) (fun _ _ _ h => h) (by rfl) hHeld ?hy18_49 (some 21) (by rfl) ?rest18_49
         case hy18_49 => (intro W hSw; obtain ⟨x0, x1, x2, x3, x4⟩ := hSw; go_simp; (try with_reducible rfl))
         try simp only [Act.put, List.setIfInBounds_toArray, List.set_cons_succ, List.set_cons_zero]
         refine anyK_take2 (i := 19) (v := ?v19_50) rfl (by kernel_rfl) (by kernel_rfl) (by kernel_rfl) (by rfl) (fun _ _ _ h => h) (by rfl) hHeld ?hy19_50 (some 22) (by rfl) ?rest19_50
         case hy19_50 => (intro W hSw; obtain ⟨x0, x1, x2, x3, x4⟩ := hSw; go_simp; (try with_reducible rfl))
         try simp only [Act.put, List.setIfInBounds_toArray, List.set_cons_succ, List.set_cons_zero]
         refine anyK_take2 (i := 20) (v := ?v20_51) rfl (by kernel_rfl) (by kernel_rfl) (by kernel_rfl) (by rfl) (fun _ _ _ h => h) (by rfl) hHeld ?hy20_51 (some 23) (by rfl) ?rest20_51
         case hy20_51 => (intro W hSw; obtain ⟨x0, x1, x2, x3, x4⟩ := hSw; go_simp; (try with_reducible rfl))
         try simp only [Act.put, List.setIfInBounds_toArray, List.set_cons_succ, List.set_cons_zero]
         refine anyK_take2 (i := 21) (v := ?v21_52) rfl (by kernel_rfl) (by kernel_rfl) (by kernel_rfl) (by rfl) (fun _ _ _ h => h) (by rfl) hHeld ?hy21_52 (some 24) (by rfl) ?rest21_52
         case hy21_52 => (intro W hSw; obtain ⟨x0, x1, x2, x3, x4⟩ := hSw; go_simp; (try with_reducible rfl))
         try simp only [Act.put, List.setIfInBounds_toArray, List.set_cons_succ, List.set_cons_zero]
         refine anyK_take2 (i := 22) (v := ?v22_53) rfl (by kernel_rfl) (by kernel_rfl) (by kernel_rfl) (by rfl) (fun _ _ _ h => h) (by rfl) hHeld ?hy22_53 (some 25) (by rfl) ?rest22_53
         case hy22_53 => (intro W hSw; obtain ⟨x0, x1, x2, x3, x4⟩ := hSw; go_simp; (try with_reducible rfl))
         try simp only [Act.put, List.setIfInBounds_toArray, List.set_cons_succ, List.set_cons_zero]
         refine anyK_skip (i := 23) rfl (by kernel_rfl) (by kernel_rfl) (by kernel_rfl) (by kernel_rfl) (fun _ _ _ h => h) (by rfl) hHeld (some 26) (by rfl) ?_
         try simp only [Act.put, List.setIfInBounds_toArray, List.set_cons_succ, List.set_cons_zero]
         refine anyK_skip (i := 24) rfl (by kernel_rfl) (by kernel_rfl) (by kernel_rfl) (by kernel_rfl) (fun _ _ _ h => h) (by rfl) hHeld (some 27) (by rfl) ?_
         try simp only [Act.put, List.setIfInBounds_toArray, List.set_cons_succ, List.set_cons_zero]
         refine anyK_skip (i := 25) rfl (by kernel_rfl) (by kernel_rfl) (by kernel_rfl) (by kernel_rfl) (fun _ _ _ h => h) (by rfl) hHeld (some 28) (by rfl) ?_
         try simp only [Act.put, List.setIfInBounds_toArray, List.set_cons_succ, List.set_cons_zero]
         refine anyK_skip (i := 26) rfl (by kernel_rfl) (by kernel_rfl) (by kernel_rfl) (by kernel_rfl) (fun _ _ _ h => h) (by rfl) hHeld (some 29) (by rfl) ?_
         try simp only [Act.put, List.setIfInBounds_toArray, List.set_cons_succ, List.set_cons_zero]
         refine anyK_skip (i := 27) rfl (by kernel_rfl) (by kernel_rfl) (by kernel_rfl) (by kernel_rfl) (fun _ _ _ h => h) (by rfl) hHeld (some 30) (by rfl) ?_
         try simp only [Act.put, List.setIfInBounds_toArray, List.set_cons_succ, List.set_cons_zero]
         refine anyK_skip (i := 28) rfl (by kernel_rfl) (by kernel_rfl) (by kernel_rfl) (by kernel_rfl) (fun _ _ _ h => h) (by rfl) hHeld (some 31) (by rfl) ?_
         try simp only [Act.put, List.setIfInBounds_toArray, List.set_cons_succ, List.set_cons_zero]
         refine anyK_skip (i := 29) rfl (by kernel_rfl) (by kernel_rfl) (by kernel_rfl) (by kernel_rfl) (fun _ _ _ h => h) (by rfl) hHeld (some 32) (by rfl) ?_
         try simp only [Act.put, List.setIfInBounds_toArray, List.set_cons_succ, List.set_cons_zero]
         refine anyK_take2 (i := 30) (v := ?v30_54) rfl (by kernel_rfl) (by kernel_rfl) (by kernel_rfl) (by rfl) (fun _ _ _ h => h) (by rfl) hHeld ?hy30_54 (some 33) (by rfl) ?rest30_54
         case hy30_54 => (intro W hSw; obtain ⟨x0, x1, x2, x3, x4⟩ := hSw; go_simp; (try with_reducible rfl))
         try simp only [Act.put, List.setIfInBounds_toArray, List.set_cons_succ, List.set_cons_zero]
         refine anyK_take2 (i := 31) (v := ?v31_55) rfl (by kernel_rfl) (by kernel_rfl) (by kernel_rfl) (by rfl) (fun _ _ _ h => h) (by rfl) hHeld ?hy31_55 (some 34) (by rfl) ?rest31_55
         case hy31_55 => (intro W hSw; obtain ⟨x0, x1, x2, x3, x4⟩ := hSw; go_simp; (try with_reducible rfl))
         try simp only [Act.put, List.setIfInBounds_toArray, List.set_cons_succ, List.set_cons_zero]
         refine anyK_skip (i := 32) rfl (by kernel_rfl) (by kernel_rfl) (by kernel_rfl) (by kernel_rfl) (fun _ _ _ h => h) (by rfl) hHeld (some 35) (by rfl) ?_
         try simp only [Act.put, List.setIfInBounds_toArray, List.set_cons_succ, List.set_cons_zero]
         refine anyK_skip (i := 33) rfl (by kernel_rfl) (by kernel_rfl) (by kernel_rfl) (by kernel_rfl) (fun _ _ _ h => h) (by rfl) hHeld (some 36) (by rfl) ?_
         try simp only [Act.put, List.setIfInBounds_toArray, List.set_cons_succ, List.set_cons_zero]
         refine anyK_skip (i := 34) rfl (by kernel_rfl) (by kernel_rfl) (by kernel_rfl) (by kernel_rfl) (fun _ _ _ h => h) (by rfl) hHeld (some 37) (by rfl) ?_
         try simp only [Act.put, List.setIfInBounds_toArray, List.set_cons_succ, List.set_cons_zero]
         refine anyK_skip (i := 35) rfl (by kernel_rfl) (by kernel_rfl) (by kernel_rfl) (by kernel_rfl) (fun _ _ _ h => h) (by rfl) hHeld (some 38) (by rfl) ?_
         try simp only [Act.put, List.setIfInBounds_toArray, List.set_cons_succ, List.set_cons_zero]
         refine anyK_skip (i := 36) rfl (by kernel_rfl) (by kernel_rfl) (by kernel_rfl) (by kernel_rfl) (fun _ _ _ h => h) (by rfl) hHeld (some 39) (by rfl) ?_
         try simp only [Act.put, List.setIfInBounds_toArray, List.set_cons_succ, List.set_cons_zero]
         refine anyK_skip (i := 37) rfl (by kernel_rfl) (by kernel_rfl) (by kernel_rfl) (by kernel_rfl) (fun _ _ _ h => h) (by rfl) hHeld (some 40) (by rfl) ?_
         try simp only [Act.put, List.setIfInBounds_toArray, List.set_cons_succ, List.set_cons_zero]
         refine anyK_skip (i := 38) rfl (by kernel_rfl) (by kernel_rfl) (by kernel_rfl) (by kernel_rfl) (fun _ _ _ h => h) (by rfl) hHeld (some 41) (by rfl) ?_
         try simp only [Act.put, List.setIfInBounds_toArray, List.set_cons_succ, List.set_cons_zero]
         refine anyK_take2 (i := 39) (v := ?v39_56) rfl (by kernel_rfl) (by kernel_rfl) (by kernel_rfl) (by rfl) (fun _ _ _ h => h) (by rfl) hHeld ?hy39_56 (some 42) (by rfl) ?rest39_56
         case hy39_56 => (intro W hSw; obtain ⟨x0, x1, x2, x3, x4⟩ := hSw; go_simp; (try with_reducible rfl))
         try simp only [Act.put, List.setIfInBounds_toArray, List.set_cons_succ, List.set_cons_zero]
         refine anyK_take2 (i := 40) (v := ?v40_57) rfl (by kernel_rfl) (by kernel_rfl) (by kernel_rfl) (by rfl) (fun _ _ _ h => h) (by rfl) hHeld ?hy40_57 (some 2) (by rfl) ?rest40_57
         case hy40_57 => (intro W hSw; obtain ⟨x0, x1, x2, x3, x4⟩ := hSw; go_simp; (try with_reducible rfl))
         try simp only [Act.put, List.setIfInBounds_toArray, List.set_cons_succ, List.set_cons_zero]
         refine anyK_done (by kernel_rfl) ?_ _
         clear hHeld
         go_wp2_with fail
         go_ret
         exact ⟨by rw [HF.out]; rfl, HBD.out⟩
     · have q3 : ¬ (n1 : Int) ≤ 200 := by omega
       have HF := hid (show V = false by rw [HV.out, decide_eq_false k2, Bool.false_and])
       refine anyK_take2 (i := 11) (v := ?v11_58) rfl (by kernel_rfl) (by kernel_rfl) (by kernel_rfl) (by rfl) (fun _ _ _ h => h) (by rfl) hHeld ?hy11_58 (some 14) (by rfl) ?rest11_58
       case hy11_58 => (intro W hSw; obtain ⟨x0, x1, x2, x3, x4⟩ := hSw; go_simp; (try with_reducible rfl))
       try simp only [Act.put, List.setIfInBounds_toArray, List.set_cons_succ, List.set_cons_zero]
       refine anyK_take2 (i := 12) (v := ?v12_59) rfl (by kernel_rfl) (by kernel_rfl) (by kernel_rfl) (by rfl) (fun _ _ _ h => h) (by rfl) hHeld ?hy12_59 (some 15) (by rfl) ?rest12_59
       case hy12_59 => (intro W hSw; obtain ⟨x0, x1, x2, x3, x4⟩ := hSw; go_simp; (try with_reducible rfl))
       try simp only [Act.put, List.setIfInBounds_toArray, List.set_cons_succ, List.set_cons_zero]
       refine anyK_take2 (i := 13) (v := ?v13_60) rfl (by kernel_rfl) (by kernel_rfl) (by kernel_rfl) (by rfl) (fun _ _ _ h => h) (by rfl) hHeld ?hy13_60 (some 16) (by rfl) ?rest13_60
       case hy13_60 => (intro W hSw; obtain ⟨x0, x1, x2, x3, x4⟩ := hSw; go_simp; (try with_reducible rfl))
       try simp only [Act.put, List.setIfInBounds_toArray, List.set_cons_succ, List.set_cons_zero]
       refine anyK_take2 (i := 14) (v := ?v14_61) rfl (by kernel_rfl) (by kernel_rfl) (by kernel_rfl) (by rfl) (fun _ _ _ h => h) (by rfl) hHeld ?hy14_61 (some 17) (by rfl) ?rest14_61
       case hy14_61 => (intro W hSw; obtain ⟨x0, x1, x2, x3, x4⟩ := hSw; go_simp; (try with_reducible rfl))
       try simp only [Act.put, List.setIfInBounds_toArray, List.set_cons_succ, List.set_cons_zero]
       refine anyK_take2 (i := 15) (v := ?v15_62) rfl (by kernel_rfl) (by kernel_rfl) (by kernel_rfl) (by rfl) (fun _ _ _ h => h) (by rfl) hHeld ?hy15_62 (some 18) (by rfl) ?rest15_62
       case hy15_62 => (intro W hSw; obtain ⟨x0, x1, x2, x3, x4⟩ := hSw; go_simp; (try with_reducible rfl))
       try simp only [Act.put, List.setIfInBounds_toArray, List.set_cons_succ, List.set_cons_zero]
       refine anyK_take2 (i := 16) (v := ?v16_63) rfl (by kernel_rfl) (by kernel_rfl) (by kernel_rfl) (by rfl) (fun _ _ _ h => h) (by rfl) hHeld ?hy16_63 (some 19) (by rfl) ?rest16_63
       case hy16_63 => (intro W hSw; obtain ⟨x0, x1, x2, x3, x4⟩ := hSw; go_simp; (try with_reducible rfl))
       try simp only [Act.put, List.setIfInBounds_toArray, List.set_cons_succ, List.set_cons_zero]
       refine anyK_skip (i := 17) rfl (by kernel_rfl) (by kernel_rfl) (by kernel_rfl) (by kernel_rfl) (fun _ _ _ h => h) (by rfl) hHeld (some 20) (by rfl) ?_
       try simp only [Act.put, List.setIfInBounds_toArray, List.set_cons_succ, List.set_cons_zero]
       refine anyK_skip (i := 18) rfl (by kernel_rfl) (by kernel_rfl) (by kernel_rfl) (by kernel_rfl) (fun _ _ _ h => h) (by rfl) hHeld (some 21) (by rfl) ?_
       try simp only [Act.put, List.setIfInBounds_toArray, List.set_cons_succ, List.set_cons_zero]
       refine anyK_skip (i := 19) rfl (by kernel_rfl) (by kernel_rfl) (by kernel_rfl) (by kernel_rfl) (fun _ _ _ h => h) (by rfl) hHeld (some 22) (by rfl) ?_
       try simp only [Act.put, List.setIfInBounds_toArray, List.set_cons_succ, List.set_cons_zero]
       refine anyK_skip (i := 20) rfl (by kernel_rfl) (by kernel_rfl) (by kernel_rfl) (by kernel_rfl) (fun _ _ _ h => h) (by rfl) hHeld (some 23) (by rfl) ?_
       try simp only [Act.put, List.setIfInBounds_toArray, List.set_cons_succ, List.set_cons_zero]
       refine anyK_take2 (i := 21) (v := ?v21_64) rfl (by kernel_rfl) (by kernel_rfl) (by kernel_rfl) (by rfl) (fun _ _ _ h => h) (by rfl) hHeld ?hy21_64 (some 24) (by rfl) ?rest21_64
       case hy21_64 => (intro W hSw; obtain ⟨x0, x1, x2, x3, x4⟩ := hSw; go_simp; (try with_reducible rfl))
       try simp only [Act.put, List.setIfInBounds_toArray, List.set_cons_succ, List.set_cons_zero]
       refine anyK_take2 (i := 22) (v := ?v22_65) rfl (by kernel_rfl) (by kernel_rfl) (by kernel_rfl) (by rfl) (fun _ _ _ h => h) (by rfl) hHeld ?hy22_65 (some 25) (by rfl) ?rest22_65
       case hy22_65 => (intro W hSw; obtain ⟨x0, x1, x2, x3, x4⟩ := hSw; go_simp; (try with_reducible rfl))
       try simp only [Act.put, List.setIfInBounds_toArray, List.set_cons_succ, List.set_cons_zero]
       refine anyK_skip (i := 23) rfl (by kernel_rfl) (by kernel_rfl) (by kernel_rfl) (by kernel_rfl) (fun _ _ _ h => h) (by rfl) hHeld (some 26) (by rfl) ?_
       try simp only [Act.put, List.setIfInBounds_toArray, List.set_cons_succ, List.set_cons_zero]
       refine anyK_skip (i := 24) rfl (by kernel_rfl) (by kernel_rfl) (by kernel_rfl) (by kernel_rfl) (fun _ _ _ h => h) (by rfl) hHeld (some 27) (by rfl) ?_
       try simp only [Act.put, List.setIfInBounds_toArray, List.set_cons_succ, List.set_cons_zero]
       refine anyK_skip (i := 25) rfl (by kernel_rfl) (by kernel_rfl) (by kernel_rfl) (by kernel_rfl) (fun _ _ _ h => h) (by rfl) hHeld (some 28) (by rfl) ?_
       try simp only [Act.put, List.setIfInBounds_toArray, List.set_cons_succ, List.set_cons_zero]
       refine anyK_skip (i := 26) rfl (by kernel_rfl) (by kernel_rfl) (by kernel_rfl) (by kernel_rfl) (fun _ _ _ h => h) (by rfl) hHeld (some 29) (by rfl) ?_
       try simp only [Act.put, List.setIfInBounds_toArray, List.set_cons_succ, List.set_cons_zero]
       refine anyK_skip (i := 27) rfl (by kernel_rfl) (by kernel_rfl) (by kernel_rfl) (by kernel_rfl) (fun _ _ _ h => h) (by rfl) hHeld (some 30) (by rfl) ?_
       try simp only [Act.put, List.setIfInBounds_toArray, List.set_cons_succ, List.set_cons_zero]
       refine anyK_skip (i := 28) rfl (by kernel_rfl) (by kernel_rfl) (by kernel_rfl) (by kernel_rfl) (fun _ _ _ h => h) (by rfl) hHeld (some 31) (by rfl) ?_
       try simp only [Act.put, List.setIfInBounds_toArray, List.set_cons_succ, List.set_cons_zero]
       refine anyK_skip (i := 29) rfl (by kernel_rfl) (by kernel_rfl) (by kernel_rfl) (by kernel_rfl) (fun _ _ _ h => h) (by rfl) hHeld (some 32) (by rfl) ?_
       try simp only [Act.put, List.setIfInBounds_toArray, List.set_cons_succ, List.set_cons_zero]
       refine anyK_take2 (i := 30) (v := ?v30_66) rfl (by kernel_rfl) (by kernel_rfl) (by kernel_rfl) (by rfl) (fun _ _ _ h => h) (by rfl) hHeld ?hy30_66 (some 33) (by rfl) ?rest30_66
       case hy30_66 => (intro W hSw; obtain ⟨x0, x1, x2, x3, x4⟩ := hSw; go_simp; (try with_reducible rfl))
       try simp only [Act.put, List.setIfInBounds_toArray, List.set_cons_succ, List.set_cons_zero]
       refine anyK_take2 (i := 31) (v := ?v31_67) rfl (by kernel_rfl) (by kernel_rfl) (by kernel_rfl) (by rfl) (fun _ _ _ h => h) (by rfl) hHeld ?hy31_67 (some 34) (by rfl) ?rest31_67
       case hy31_67 => (intro W hSw; obtain ⟨x0, x1, x2, x3, x4⟩ := hSw; go_simp; (try with_reducible rfl))
       try simp only [Act.put, List.setIfInBounds_toArray, List.set_cons_succ, List.set_cons_zero]
       refine anyK_skip (i := 32) rfl (by kernel_rfl) (by kernel_rfl) (by kernel_rfl) (by kernel_rfl) (fun _ _ _ h => h) (by rfl) hHeld (some 35) (by rfl) ?_
       try simp only [Act.put, List.setIfInBounds_toArray, List.set_cons_succ, List.set_cons_zero]
       refine anyK_skip (i := 33) rfl (by kernel_rfl) (by kernel_rfl) (by kernel_rfl) (by kernel_rfl) (fun _ _ _ h => h) (by rfl) hHeld (some 36) (by rfl) ?_
       try simp only [Act.put, List.setIfInBounds_toArray, List.set_cons_succ, List.set_cons_zero]
       refine anyK_skip (i := 34) rfl (by kernel_rfl) (by kernel_rfl) (by kernel_rfl) (by kernel_rfl) (fun _ _ _ h => h) (by rfl) hHeld (some 37) (by rfl) ?_
       try simp only [Act.put, List.setIfInBounds_toArray, List.set_cons_succ, List.set_cons_zero]
       refine anyK_skip (i := 35) rfl (by kernel_rfl) (by kernel_rfl) (by kernel_rfl) (by kernel_rfl) (fun _ _ _ h => h) (by rfl) hHeld (some 38) (by rfl) ?_
       try simp only [Act.put, List.setIfInBounds_toArray, List.set_cons_succ, List.set_cons_zero]
       refine anyK_skip (i := 36) rfl (by kernel_rfl) (by kernel_rfl) (by kernel_rfl) (by kernel_rfl) (fun _ _ _ h => h) (by rfl) hHeld (some 39) (by rfl) ?_
       try simp only [Act.put, List.setIfInBounds_toArray, List.set_cons_succ, List.set_cons_zero]
       refine anyK_skip (i := 37) rfl (by kernel_rfl) (by kernel_rfl) (by kernel_rfl) (by kernel_rfl) (fun _ _ _ h => h) (by rfl) hHeld (some 40) (by rfl) ?_
       try simp only [Act.put, List.setIfInBounds_toArray, List.set_cons_succ, List.set_cons_zero]
       refine anyK_skip (i := 38) rfl (by kernel_rfl) (by kernel_rfl) (by kernel_rfl) (by kernel_rfl) (fun _ _ _ h => h) (by rfl) hHeld (some 41) (by rfl) ?_
       try simp only [Act.put, List.setIfInBounds_toArray, List.set_cons_succ, List.set_cons_zero]
       refine anyK_take2 (i := 39) (v := ?v39_68) rfl (by kernel_rfl) (by kernel_rfl) (by kernel_rfl) (by rfl) (fun _ _ _ h => h) (by rfl) hHeld ?hy39_68 (some 42) (by rfl) ?rest39_68
       case hy39_68 => (intro W hSw; obtain ⟨x0, x1, x2, x3, x4⟩ := hSw; go_simp; (try with_reducible rfl))
       try simp only [Act.put, List.setIfInBounds_toArray, List.set_cons_succ, List.set_cons_zero]
       refine anyK_take2 (i := 40) (v := ?v40_69) rfl (by kernel_rfl) (by kernel_rfl) (by kernel_rfl) (by rfl) (fun _ _ _ h => h) (by rfl) hHeld ?hy40_69 (some 2) (by rfl) ?rest40_69
       case hy40_69 => (intro W hSw; obtain ⟨x0, x1, x2, x3, x4⟩ := hSw; go_simp; (try with_reducible rfl))
       try simp only [Act.put, List.setIfInBounds_toArray, List.set_cons_succ, List.set_cons_zero]
       refine anyK_done (by kernel_rfl) ?_ _
       clear hHeld
       go_wp2_with fail
       go_ret
       exact ⟨by rw [HF.out]; rfl, HBD.out⟩
   · have q2 : ¬ be < en := k1
     have HF := hid (show V = false by rw [HV.out, decide_eq_false k1, Bool.false_and])
     refine anyK_take2 (i := 4) (v := ?v4_70) rfl (by kernel_rfl) (by kernel_rfl) (by kernel_rfl) (by rfl) (fun _ _ _ h => h) (by rfl) hHeld ?hy4_70 (some 7) (by rfl) ?rest4_70
     case hy4_70 => (intro W hSw; obtain ⟨x0, x1, x2, x3, x4⟩ := hSw; go_simp; (try with_reducible rfl))
     try simp only [Act.put, List.setIfInBounds_toArray, List.set_cons_succ, List.set_cons_zero]
     refine anyK_take2 (i := 5) (v := ?v5_71) rfl (by kernel_rfl) (by kernel_rfl) (by kernel_rfl) (by rfl) (fun _ _ _ h => h) (by rfl) hHeld ?hy5_71 (some 8) (by rfl) ?rest5_71
     case hy5_71 => (intro W hSw; obtain ⟨x0, x1, x2, x3, x4⟩ := hSw; go_simp; (try with_reducible rfl))
     try simp only [Act.put, List.setIfInBounds_toArray, List.set_cons_succ, List.set_cons_zero]
     refine anyK_take2 (i := 6) (v := ?v6_72) rfl (by kernel_rfl) (by kernel_rfl) (by kernel_rfl) (by rfl) (fun _ _ _ h => h) (by rfl) hHeld ?hy6_72 (some 9) (by rfl) ?rest6_72
     case hy6_72 => (intro W hSw; obtain ⟨x0, x1, x2, x3, x4⟩ := hSw; go_simp; (try with_reducible rfl))
     try simp only [Act.put, List.setIfInBounds_toArray, List.set_cons_succ, List.set_cons_zero]
     refine anyK_take2 (i := 7) (v := ?v7_73) rfl (by kernel_rfl) (by kernel_rfl) (by kernel_rfl) (by rfl) (fun _ _ _ h => h) (by rfl) hHeld ?hy7_73 (some 10) (by rfl) ?rest7_73
     case hy7_73 => (intro W hSw; obtain ⟨x0, x1, x2, x3, x4⟩ := hSw; go_simp; (try with_reducible rfl))
     try simp only [Act.put, List.setIfInBounds_toArray, List.set_cons_succ, List.set_cons_zero]
     refine anyK_take2 (i := 8) (v := ?v8_74) rfl (by kernel_rfl) (by kernel_rfl) (by kernel_rfl) (by rfl) (fun _ _ _ h => h) (by rfl) hHeld ?hy8_74 (some 11) (by rfl) ?rest8_74
     case hy8_74 => (intro W hSw; obtain ⟨x0, x1, x2, x3, x4⟩ := hSw; go_simp; (try with_reducible rfl))
     try simp only [Act.put, List.setIfInBounds_toArray, List.set_cons_succ, List.set_cons_zero]
     refine anyK_take2 (i := 9) (v := ?v9_75) rfl (by kernel_rfl) (by kernel_rfl) (by kernel_rfl) (by rfl) (fun _ _ _ h => h) (by rfl) hHeld ?hy9_75 (some 12) (by rfl) ?rest9_75
     case hy9_75 => (intro W hSw; obtain ⟨x0, x1, x2, x3, x4⟩ := hSw; go_simp; (try with_reducible rfl))
     try simp only [Act.put, List.setIfInBounds_toArray, List.set_cons_succ, List.set_cons_zero]
     refine anyK_take2 (i := 10) (v := ?v10_76) rfl (by kernel_rfl) (by kernel_rfl) (by kernel_rfl) (by rfl) (fun _ _ _ h => h) (by rfl) hHeld ?hy10_76 (some 13) (by rfl) ?rest10_76
     case hy10_76 => (intro W hSw; obtain ⟨x0, x1, x2, x3, x4⟩ := hSw; go_simp; (try with_reducible rfl))
     try simp only [Act.put, List.setIfInBounds_toArray, List.set_cons_succ, List.set_cons_zero]
     refine anyK_skip (i := 11) rfl (by kernel_rfl) (by kernel_rfl) (by kernel_rfl) (by kernel_rfl) (fun _ _ _ h => h) (by rfl) hHeld (some 14) (by rfl) ?_
     try simp only [Act.put, List.setIfInBounds_toArray, List.set_cons_succ, List.set_cons_zero]
     refine anyK_skip (i := 12) rfl (by kernel_rfl) (by kernel_rfl) (by kernel_rfl) (by kernel_rfl) (fun _ _ _ h => h) (by rfl) hHeld (some 15) (by rfl) ?_
     try simp only [Act.put, List.setIfInBounds_toArray, List.set_cons_succ, List.set_cons_zero]
     refine anyK_skip (i := 13) rfl (by kernel_rfl) (by kernel_rfl) (by kernel_rfl) (by kernel_rfl) (fun _ _ _ h => h) (by rfl) hHeld (some 16) (by rfl) ?_
     try simp only [Act.put, List.setIfInBounds_toArray, List.set_cons_succ, List.set_cons_zero]
     refine anyK_skip (i := 14) rfl (by kernel_rfl) (by kernel_rfl) (by kernel_rfl) (by kernel_rfl) (fun _ _ _ h => h) (by rfl) hHeld (some 17) (by rfl) ?_
     try simp only [Act.put, List.setIfInBounds_toArray, List.set_cons_succ, List.set_cons_zero]
     refine anyK_take2 (i := 15) (v := ?v15_77) rfl (by kernel_rfl) (by kernel_rfl) (by kernel_rfl) (by rfl) (fun _ _ _ h => h) (by rfl) hHeld ?hy15_77 (some 18) (by rfl) ?rest15_77
     case hy15_77 => (intro W hSw; obtain ⟨x0, x1, x2, x3, x4⟩ := hSw; go_simp; (try with_reducible rfl))
     try simp only [Act.put, List.setIfInBounds_toArray, List.set_cons_succ, List.set_cons_zero]
     refine anyK_take2 (i := 16) (v := ?v16_78) rfl (by kernel_rfl) (by kernel_rfl) (by kernel_rfl) (by rfl) (fun _ _ _ h => h) (by rfl) hHeld ?hy16_78 (some 19) (by rfl) ?rest16_78
     case hy16_78 => (intro W hSw; obtain ⟨x0, x1, x2, x3, x4⟩ := hSw; go_simp; (try with_reducible rfl))
     try simp only [Act.put, List.setIfInBounds_toArray, List.set_cons_succ, List.set_cons_zero]
     refine anyK_skip (i := 17) rfl (by kernel_rfl) (by kernel_rfl) (by kernel_rfl) (by kernel_rfl) (fun _ _ _ h => h) (by rfl) hHeld (some 20) (by rfl) ?_
     try simp only [Act.put, List.setIfInBounds_toArray, List.set_cons_succ, List.set_cons_zero]
     refine anyK_skip (i := 18) rfl (by kernel_rfl) (by kernel_rfl) (by kernel_rfl) (by kernel_rfl) (fun _ _ _ h => h) (by rfl) hHeld (some 21) (by rfl) ?_
     try simp only [Act.put, List.setIfInBounds_toArray, List.set_cons_succ, List.set_cons_zero]
     refine anyK_skip (i := 19) rfl (by kernel_rfl) (by kernel_rfl) (by kernel_rfl) (by kernel_rfl) (fun _ _ _ h => h) (by rfl) hHeld (some 22) (by rfl) ?_
     try simp only [Act.put, List.setIfInBounds_toArray, List.set_cons_succ, List.set_cons_zero]
     refine anyK_skip (i := 20) rfl (by kernel_rfl) (by kernel_rfl) (by kernel_rfl) (by kernel_rfl) (fun _ _ _ h => h) (by rfl) hHeld (some 23) (by rfl) ?_
     try simp only [Act.put, List.setIfInBounds_toArray, List.set_cons_succ, List.set_cons_zero]
     refine anyK_take2 (i := 21) (v := ?v21_79) rfl (by kernel_rfl) (by kernel_rfl) (by kernel_rfl) (by rfl) (fun _ _ _ h => h) (by rfl) hHeld ?hy21_79 (some 24) (by rfl) ?rest21_79
     case hy21_79 => (intro W hSw; obtain ⟨x0, x1, x2, x3, x4⟩ := hSw; go_simp; (try with_reducible rfl))
     try simp only [Act.put, List.setIfInBounds_toArray, List.set_cons_succ, List.set_cons_zero]
     refine anyK_take2 (i := 22) (v := ?v22_80) rfl (by kernel_rfl) (by kernel_rfl) (by kernel_rfl) (by rfl) (fun _ _ _ h => h) (by rfl) hHeld ?hy22_80 (some 25) (by rfl) ?rest22_80
     case hy22_80 => (intro W hSw; obtain ⟨x0, x1, x2, x3, x4⟩ := hSw; go_simp; (try with_reducible rfl))
     try simp only [Act.put, List.setIfInBounds_toArray, List.set_cons_succ, List.set_cons_zero]
     refine anyK_skip (i := 23) rfl (by kernel_rfl) (by kernel_rfl) (by kernel_rfl) (by kernel_rfl) (fun _ _ _ h => h) (by rfl) hHeld (some 26) (by rfl) ?_
     try simp only [Act.put, List.setIfInBounds_toArray, List.set_cons_succ, List.set_cons_zero]
     refine anyK_skip (i := 24) rfl (by kernel_rfl) (by kernel_rfl) (by kernel_rfl) (by kernel_rfl) (fun _ _ _ h => h) (by rfl) hHeld (some 27) (by rfl) ?_
     try simp only [Act.put, List.setIfInBounds_toArray, List.set_cons_succ, List.set_cons_zero]
     refine anyK_skip (i := 25) rfl (by kernel_rfl) (by kernel_rfl) (by kernel_rfl) (by kernel_rfl) (fun _ _ _ h => h) (by rfl) hHeld (some 28) (by rfl) ?_
     try simp only [Act.put, List.setIfInBounds_toArray, List.set_cons_succ, List.set_cons_zero]
     refine anyK_skip (i := 26) rfl (by kernel_rfl) (by kernel_rfl) (by kernel_rfl) (by kernel_rfl) (fun _ _ _ h => h) (by rfl) hHeld (some 29) (by rfl) ?_
     try simp only [Act.put, List.setIfInBounds_toArray, List.set_cons_succ, List.set_cons_zero]
     refine anyK_skip (i := 27) rfl (by kernel_rfl) (by kernel_rfl) (by kernel_rfl) (by kernel_rfl) (fun _ _ _ h => h) (by rfl) hHeld (some 30) (by rfl) ?_
     try simp only [Act.put, List.setIfInBounds_toArray, List.set_cons_succ, List.set_cons_zero]
     refine anyK_skip (i := 28) rfl (by kernel_rfl) (by kernel_rfl) (by kernel_rfl) (by kernel_rfl) (fun _ _ _ h => h) (by rfl) hHeld (some 31) (by rfl) ?_
     try simp only [Act.put, List.setIfInBounds_toArray, List.set_cons_succ, List.set_cons_zero]
     refine anyK_skip (i := 29) rfl (by kernel_rfl) (by kernel_rfl) (by kernel_rfl) (by kernel_rfl) (fun _ _ _ h => h) (by rfl) hHeld (some 32) (by rfl) ?_
     try simp only [Act.put, List.setIfInBounds_toArray, List.set_cons_succ, List.set_cons_zero]
     refine anyK_take2 (i := 30) (v := ?v30_81) rfl (by kernel_rfl) (by kernel_rfl) (by kernel_rfl) (by rfl) (fun _ _ _ h => h) (by rfl) hHeld ?hy30_81 (some 33) (by rfl) ?rest30_81
     case hy30_81 => (intro W hSw; obtain ⟨x0, x1, x2, x3, x4⟩ := hSw; go_simp; (try with_reducible rfl))
     try simp only [Act.put, List.setIfInBounds_toArray, List.set_cons_succ, List.set_cons_zero]
     refine anyK_take2 (i := 31) (v := ?v31_82) rfl (by kernel_rfl) (by kernel_rfl) (by kernel_rfl) (by rfl) (fun _ _ _ h => h) (by rfl) hHeld ?hy31_82 (some 34) (by rfl) ?rest31_82
     case hy31_82 => (intro W hSw; obtain ⟨x0, x1, x2, x3, x4⟩ := hSw; go_simp; (try with_reducible rfl))
     try simp only [Act.put, List.setIfInBounds_toArray, List.set_cons_succ, List.set_cons_zero]
     refine anyK_skip (i := 32) rfl (by kernel_rfl) (by kernel_rfl) (by kernel_rfl) (by kernel_rfl) (fun _ _ _ h => h) (by rfl) hHeld (some 35) (by rfl) ?_
     try simp only [Act.put, List.setIfInBounds_toArray, List.set_cons_succ, List.set_cons_zero]
     refine anyK_skip (i := 33) rfl (by kernel_rfl) (by kernel_rfl) (by kernel_rfl) (by kernel_rfl) (fun _ _ _ h => h) (by rfl) hHeld (some 36) (by rfl) ?_
     try simp only [Act.put, List.setIfInBounds_toArray, List.set_cons_succ, List.set_cons_zero]
     refine anyK_skip (i := 34) rfl (by kernel_rfl) (by kernel_rfl) (by kernel_rfl) (by kernel_rfl) (fun _ _ _ h => h) (by rfl) hHeld (some 37) (by rfl) ?_
     try simp only [Act.put, List.setIfInBounds_toArray, List.set_cons_succ, List.set_cons_zero]
     refine anyK_skip (i := 35) rfl (by kernel_rfl) (by kernel_rfl) (by kernel_rfl) (by kernel_rfl) (fun _ _ _ h => h) (by rfl) hHeld (some 38) (by rfl) ?_
     try simp only [Act.put, List.setIfInBounds_toArray, List.set_cons_succ, List.set_cons_zero]
     refine anyK_skip (i := 36) rfl (by kernel_rfl) (by kernel_rfl) (by kernel_rfl) (by kernel_rfl) (fun _ _ _ h => h) (by rfl) hHeld (some 39) (by rfl) ?_
     try simp only [Act.put, List.setIfInBounds_toArray, List.set_cons_succ, List.set_cons_zero]
     refine anyK_skip (i := 37) rfl (by kernel_rfl) (by kernel_rfl) (by kernel_rfl) (by kernel_rfl) (fun _ _ _ h => h) (by rfl) hHeld (some 40) (by rfl) ?_
     try simp only [Act.put, List.setIfInBounds_toArray, List.set_cons_succ, List.set_cons_zero]
     refine anyK_skip (i := 38) rfl (by kernel_rfl) (by kernel_rfl) (by kernel_rfl) (by kernel_rfl) (fun _ _ _ h => h) (by rfl) hHeld (some 41) (by rfl) ?_
     try simp only [Act.put, List.setIfInBounds_toArray, List.set_cons_succ, List.set_cons_zero]
     refine anyK_take2 (i := 39) (v := ?v39_83) rfl (by kernel_rfl) (by kernel_rfl) (by kernel_rfl) (by rfl) (fun _ _ _ h => h) (by rfl) hHeld ?hy39_83 (some 42) (by rfl) ?rest39_83
     case hy39_83 => (intro W hSw; obtain ⟨x0, x1, x2, x3, x4⟩ := hSw; go_simp; (try with_reducible rfl))
     try simp only [Act.put, List.setIfInBounds_toArray, List.set_cons_succ, List.set_cons_zero]
     refine anyK_take2 (i := 40) (v := ?v40_84) rfl (by kernel_rfl) (by kernel_rfl) (by kernel_rfl) (by rfl) (fun _ _ _ h => h) (by rfl) hHeld ?hy40_84 (some 2) (by rfl) ?rest40_84
     case hy40_84 => (intro W hSw; obtain ⟨x0, x1, x2, x3, x4⟩ := hSw; go_simp; (try with_reducible rfl))
     try simp only [Act.put, List.setIfInBounds_toArray, List.set_cons_succ, List.set_cons_zero]
     refine anyK_done (by kernel_rfl) ?_ _
     clear hHeld
     go_wp2_with fail
     go_ret
     exact ⟨by rw [HF.out]; rfl, HBD.out⟩
 · have q1 : ¬ 1 ≤ be := k0
   have HF := hid (show V = false by rw [HV.out, decide_eq_false k0, Bool.false_and])
   refine anyK_take2 (i := 0) (v := ?v0_85) rfl (by kernel_rfl) (by kernel_rfl) (by kernel_rfl) (by rfl) (fun _ _ _ h => h) (by rfl) hHeld ?hy0_85 (some 3) (by rfl) ?rest0_85
   case hy0_85 => (intro W hSw; obtain ⟨x0, x1, x2, x3, x4⟩ := hSw; go_simp; (try with_reducible rfl))
   try simp only [Act.put, List.setIfInBounds_toArray, List.set_cons_succ, List.set_cons_zero]
   refine anyK_take2 (i := 1) (v := ?v1_86) rfl (by kernel_rfl) (by kernel_rfl) (by kernel_rfl) (by rfl) (fun _ _ _ h => h) (by rfl) hHeld ?hy1_86 (some 4) (by rfl) ?rest1_86
   case hy1_86 => (intro W hSw; obtain ⟨x0, x1, x2, x3, x4⟩ := hSw; go_simp; (try with_reducible rfl))
   try simp only [Act.put, List.setIfInBounds_toArray, List.set_cons_succ, List.set_cons_zero]
   refine anyK_take2 (i := 2) (v := ?v2_87) rfl (by kernel_rfl) (by kernel_rfl) (by kernel_rfl) (by rfl) (fun _ _ _ h => h) (by rfl) hHeld ?hy2_87 (some 5) (by rfl) ?rest2_87
   case hy2_87 => (intro W hSw; obtain ⟨x0, x1, x2, x3, x4⟩ := hSw; go_simp; (try with_reducible rfl))
   try simp only [Act.put, List.setIfInBounds_toArray, List.set_cons_succ, List.set_cons_zero]
   refine anyK_take2 (i := 3) (v := ?v3_88) rfl (by kernel_rfl) (by kernel_rfl) (by kernel_rfl) (by rfl) (fun _ _ _ h => h) (by rfl) hHeld ?hy3_88 (some 6) (by rfl) ?rest3_88
   case hy3_88 => (intro W hSw; obtain ⟨x0, x1, x2, x3, x4⟩ := hSw; go_simp; (try with_reducible rfl))
   try simp only [Act.put, List.setIfInBounds_toArray, List.set_cons_succ, List.set_cons_zero]
   refine anyK_skip (i := 4) rfl (by kernel_rfl) (by kernel_rfl) (by kernel_rfl) (by kernel_rfl) (fun _ _ _ h => h) (by rfl) hHeld (some 7) (by rfl) ?_
   try simp only [Act.put, List.setIfInBounds_toArray, List.set_cons_succ, List.set_cons_zero]
   refine anyK_skip (i := 5) rfl (by kernel_rfl) (by kernel_rfl) (by kernel_rfl) (by kernel_rfl) (fun _ _ _ h => h) (by rfl) hHeld (some 8) (by rfl) ?_
   try simp only [Act.put, List.setIfInBounds_toArray, List.set_cons_succ, List.set_cons_zero]
   refine anyK_skip (i := 6) rfl (by kernel_rfl) (by kernel_rfl) (by kernel_rfl) (by kernel_rfl) (fun _ _ _ h => h) (by rfl) hHeld (some 9) (by rfl) ?_
   try simp only [Act.put, List.setIfInBounds_toArray, List.set_cons_succ, List.set_cons_zero]
   refine anyK_skip (i := 7) rfl (by kernel_rfl) (by kernel_rfl) (by kernel_rfl) (by kernel_rfl) (fun _ _ _ h => h) (by rfl) hHeld (some 10) (by rfl) ?_
   try simp only [Act.put, List.setIfInBounds_toArray, List.set_cons_succ, List.set_cons_zero]
   refine anyK_skip (i := 8) rfl (by kernel_rfl) (by kernel_rfl) (by kernel_rfl) (by kernel_rfl) (fun _ _ _ h => h) (by rfl) hHeld (some 11) (by rfl) ?_
   try simp only [Act.put, List.setIfInBounds_toArray, List.set_cons_succ, List.set_cons_zero]
   refine anyK_take2 (i := 9) (v := ?v9_89) rfl (by kernel_rfl) (by kernel_rfl) (by kernel_rfl) (by rfl) (fun _ _ _ h => h) (by rfl) hHeld ?hy9_89 (some 12) (by rfl) ?rest9_89
   case hy9_89 => (intro W hSw; obtain ⟨x0, x1, x2, x3, x4⟩ := hSw; go_simp; (try with_reducible rfl))
   try simp only [Act.put, List.setIfInBounds_toArray, List.set_cons_succ, List.set_cons_zero]
   refine anyK_take2 (i := 10) (v := ?v10_90) rfl (by kernel_rfl) (by kernel_rfl) (by kernel_rfl) (by rfl) (fun _ _ _ h => h) (by rfl) hHeld ?hy10_90 (some 13) (by rfl) ?rest10_90
   case hy10_90 => (intro W hSw; obtain ⟨x0, x1, x2, x3, x4⟩ := hSw; go_simp; (try with_reducible rfl))
   try simp only [Act.put, List.setIfInBounds_toArray, List.set_cons_succ, List.set_cons_zero]
   refine anyK_skip (i := 11) rfl (by kernel_rfl) (by kernel_rfl) (by kernel_rfl) (by kernel_rfl) (fun _ _ _ h => h) (by rfl) hHeld (some 14) (by rfl) ?_
   try simp only [Act.put, List.setIfInBounds_toArray, List.set_cons_succ, List.set_cons_zero]
   refine anyK_skip (i := 12) rfl (by kernel_rfl) (by kernel_rfl) (by kernel_rfl) (by kernel_rfl) (fun _ _ _ h => h) (by rfl) hHeld (some 15) (by rfl) ?_
   try simp only [Act.put, List.setIfInBounds_toArray, List.set_cons_succ, List.set_cons_zero]
   refine anyK_skip (i := 13) rfl (by kernel_rfl) (by kernel_rfl) (by kernel_rfl) (by kernel_rfl) (fun _ _ _ h => h) (by rfl) hHeld (some 16) (by rfl) ?_
   try simp only [Act.put, List.setIfInBounds_toArray, List.set_cons_succ, List.set_cons_zero]
   refine anyK_skip (i := 14) rfl (by kernel_rfl) (by kernel_rfl) (by kernel_rfl) (by kernel_rfl) (fun _ _ _ h => h) (by rfl) hHeld (some 17) (by rfl) ?_
   try simp only [Act.put, List.setIfInBounds_toArray, List.set_cons_succ, List.set_cons_zero]
   refine anyK_take2 (i := 15) (v := ?v15_91) rfl (by kernel_rfl) (by kernel_rfl) (by kernel_rfl) (by rfl) (fun _ _ _ h => h) (by rfl) hHeld ?hy15_91 (some 18) (by rfl) ?rest15_91
   case hy15_91 => (intro W hSw; obtain ⟨x0, x1, x2, x3, x4⟩ := hSw; go_simp; (try with_reducible rfl))
   try simp only [Act.put, List.setIfInBounds_toArray, List.set_cons_succ, List.set_cons_zero]
   refine anyK_take2 (i := 16) (v := ?v16_92) rfl (by kernel_rfl) (by kernel_rfl) (by kernel_rfl) (by rfl) (fun _ _ _ h => h) (by rfl) hHeld ?hy16_92 (some 19) (by rfl) ?rest16_92
   case hy16_92 => (intro W hSw; obtain ⟨x0, x1, x2, x3, x4⟩ := hSw; go_simp; (try with_reducible rfl))
   try simp only [Act.put, List.setIfInBounds_toArray, List.set_cons_succ, List.set_cons_zero]
   refine anyK_skip (i := 17) rfl (by kernel_rfl) (by kernel_rfl) (by kernel_rfl) (by kernel_rfl) (fun _ _ _ h => h) (by rfl) hHeld (some 20) (by rfl) ?_
   try simp only [Act.put, List.setIfInBounds_toArray, List.set_cons_succ, List.set_cons_zero]
   refine anyK_skip (i := 18) rfl (by kernel_rfl) (by kernel_rfl) (by kernel_rfl) (by kernel_rfl) (fun _ _ _ h => h) (by rfl) hHeld (some 21) (by rfl) ?_
   try simp only [Act.put, List.setIfInBounds_toArray, List.set_cons_succ, List.set_cons_zero]
   refine anyK_skip (i := 19) rfl (by kernel_rfl) (by kernel_rfl) (by kernel_rfl) (by kernel_rfl) (fun _ _ _ h => h) (by rfl) hHeld (some 22) (by rfl) ?_
   try simp only [Act.put, List.setIfInBounds_toArray, List.set_cons_succ, List.set_cons_zero]
   refine anyK_skip (i := 20) rfl (by kernel_rfl) (by kernel_rfl) (by kernel_rfl) (by kernel_rfl) (fun _ _ _ h => h) (by rfl) hHeld (some 23) (by rfl) ?_
   try simp only [Act.put, List.setIfInBounds_toArray, List.set_cons_succ, List.set_cons_zero]
   refine anyK_take2 (i := 21) (v := ?v21_93) rfl (by kernel_rfl) (by kernel_rfl) (by kernel_rfl) (by rfl) (fun _ _ _ h => h) (by rfl) hHeld ?hy21_93 (some 24) (by rfl) ?rest21_93
   case hy21_93 => (intro W hSw; obtain ⟨x0, x1, x2, x3, x4⟩ := hSw; go_simp; (try with_reducible rfl))
   try simp only [Act.put, List.setIfInBounds_toArray, List.set_cons_succ, List.set_cons_zero]
   refine anyK_take2 (i := 22) (v := ?v22_94) rfl (by kernel_rfl) (by kernel_rfl) (by kernel_rfl) (by rfl) (fun _ _ _ h => h) (by rfl) hHeld ?hy22_94 (some 25) (by rfl) ?rest22_94
   case hy22_94 => (intro W hSw; obtain ⟨x0, x1, x2, x3, x4⟩ := hSw; go_simp; (try with_reducible rfl))
   try simp only [Act.put, List.setIfInBounds_toArray, List.set_cons_succ, List.set_cons_zero]
   refine anyK_skip (i := 23) rfl (by kernel_rfl) (by kernel_rfl) (by kernel_rfl) (by kernel_rfl) (fun _ _ _ h => h) (by rfl) hHeld (some 26) (by rfl) ?_
   try simp only [Act.put, List.setIfInBounds_toArray, List.set_cons_succ, List.set_cons_zero]
   refine anyK_skip (i := 24) rfl (by kernel_rfl) (by kernel_rfl) (by kernel_rfl) (by kernel_rfl) (fun _ _ _ h => h) (by rfl) hHeld (some 27) (by rfl) ?_
   try simp only [Act.put, List.setIfInBounds_toArray, List.set_cons_succ, List.set_cons_zero]
   refine anyK_skip (i := 25) rfl (by kernel_rfl) (by kernel_rfl) (by kernel_rfl) (by kernel_rfl) (fun _ _ _ h => h) (by rfl) hHeld (some 28) (by rfl) ?_
   try simp only [Act.put, List.setIfInBounds_toArray, List.set_cons_succ, List.set_cons_zero]
   refine anyK_skip (i := 26) rfl (by kernel_rfl) (by kernel_rfl) (by kernel_rfl) (by kernel_rfl) (fun _ _ _ h => h) (by rfl) hHeld (some 29) (by rfl) ?_
   try simp only [Act.put, List.setIfInBounds_toArray, List.set_cons_succ, List.set_cons_zero]
   refine anyK_skip (i := 27) rfl (by kernel_rfl) (by kernel_rfl) (by kernel_rfl) (by kernel_rfl) (fun _ _ _ h => h) (by rfl) hHeld (some 30) (by rfl) ?_
   try simp only [Act.put, List.setIfInBounds_toArray, List.set_cons_succ, List.set_cons_zero]
   refine anyK_skip (i := 28) rfl (by kernel_rfl) (by kernel_rfl) (by kernel_rfl) (by kernel_rfl) (fun _ _ _ h => h) (by rfl) hHeld (some 31) (by rfl) ?_
   try simp only [Act.put, List.setIfInBounds_toArray, List.set_cons_succ, List.set_cons_zero]
   refine anyK_skip (i := 29) rfl (by kernel_rfl) (by kernel_rfl) (by kernel_rfl) (by kernel_rfl) (fun _ _ _ h => h) (by rfl) hHeld (some 32) (by rfl) ?_
   try simp only [Act.put, List.setIfInBounds_toArray, List.set_cons_succ, List.set_cons_zero]
   refine anyK_take2 (i := 30) (v := ?v30_95) rfl (by kernel_rfl) (by kernel_rfl) (by kernel_rfl) (by rfl) (fun _ _ _ h => h) (by rfl) hHeld ?hy30_95 (some 33) (by rfl) ?rest30_95
   case hy30_95 => (intro W hSw; obtain ⟨x0, x1, x2, x3, x4⟩ := hSw; go_simp; (try with_reducible rfl))
   try simp only [Act.put, List.setIfInBounds_toArray, List.set_cons_succ, List.set_cons_zero]
   refine anyK_take2 (i := 31) (v := ?v31_96) rfl (by kernel_rfl) (by kernel_rfl) (by kernel_rfl) (by rfl) (fun _ _ _ h => h) (by rfl) hHeld ?hy31_96 (some 34) (by rfl) ?rest31_96
   case hy31_96 => (intro W hSw; obtain ⟨x0, x1, x2, x3, x4⟩ := hSw; go_simp; (try with_reducible rfl))
   try simp only [Act.put, List.setIfInBounds_toArray, List.set_cons_succ, List.set_cons_zero]
   refine anyK_skip (i := 32) rfl (by kernel_rfl) (by kernel_rfl) (by kernel_rfl) (by kernel_rfl) (fun _ _ _ h => h) (by rfl) hHeld (some 35) (by rfl) ?_
   try simp only [Act.put, List.setIfInBounds_toArray, List.set_cons_succ, List.set_cons_zero]
   refine anyK_skip (i := 33) rfl (by kernel_rfl) (by kernel_rfl) (by kernel_rfl) (by kernel_rfl) (fun _ _ _ h => h) (by rfl) hHeld (some 36) (by rfl) ?_
   try simp only [Act.put, List.setIfInBounds_toArray, List.set_cons_succ, List.set_cons_zero]
   refine anyK_skip (i := 34) rfl (by kernel_rfl) (by kernel_rfl) (by kernel_rfl) (by kernel_rfl) (fun _ _ _ h => h) (by rfl) hHeld (some 37) (by rfl) ?_
   try simp only [Act.put, List.setIfInBounds_toArray, List.set_cons_succ, List.set_cons_zero]
   refine anyK_skip (i := 35) rfl (by kernel_rfl) (by kernel_rfl) (by kernel_rfl) (by kernel_rfl) (fun _ _ _ h => h) (by rfl) hHeld (some 38) (by rfl) ?_
   try simp only [Act.put, List.setIfInBounds_toArray, List.set_cons_succ, List.set_cons_zero]
   refine anyK_skip (i := 36) rfl (by kernel_rfl) (by kernel_rfl) (by kernel_rfl) (by kernel_rfl) (fun _ _ _ h => h) (by rfl) hHeld (some 39) (by rfl) ?_
   try simp only [Act.put, List.setIfInBounds_toArray, List.set_cons_succ, List.set_cons_zero]
   refine anyK_skip (i := 37) rfl (by kernel_rfl) (by kernel_rfl) (by kernel_rfl) (by kernel_rfl) (fun _ _ _ h => h) (by rfl) hHeld (some 40) (by rfl) ?_
   try simp only [Act.put, List.setIfInBounds_toArray, List.set_cons_succ, List.set_cons_zero]
   refine anyK_skip (i := 38) rfl (by kernel_rfl) (by kernel_rfl) (by kernel_rfl) (by kernel_rfl) (fun _ _ _ h => h) (by rfl) hHeld (some 41) (by rfl) ?_
   try simp only [Act.put, List.setIfInBounds_toArray, List.set_cons_succ, List.set_cons_zero]
   refine anyK_take2 (i := 39) (v := ?v39_97) rfl (by kernel_rfl) (by kernel_rfl) (by kernel_rfl) (by rfl) (fun _ _ _ h => h) (by rfl) hHeld ?hy39_97 (some 42) (by rfl) ?rest39_97
   case hy39_97 => (intro W hSw; obtain ⟨x0, x1, x2, x3, x4⟩ := hSw; go_simp; (try with_reducible rfl))
   try simp only [Act.put, List.setIfInBounds_toArray, List.set_cons_succ, List.set_cons_zero]
   refine anyK_take2 (i := 40) (v := ?v40_98) rfl (by kernel_rfl) (by kernel_rfl) (by kernel_rfl) (by rfl) (fun _ _ _ h => h) (by rfl) hHeld ?hy40_98 (some 2) (by rfl) ?rest40_98
   case hy40_98 => (intro W hSw; obtain ⟨x0, x1, x2, x3, x4⟩ := hSw; go_simp; (try with_reducible rfl))
   try simp only [Act.put, List.setIfInBounds_toArray, List.set_cons_succ, List.set_cons_zero]
   refine anyK_done (by kernel_rfl) ?_ _
   clear hHeld
   go_wp2_with fail
   go_ret
   exact ⟨by rw [HF.out]; rfl, HBD.out⟩
end Go.Proofs.YtjcjoabblafboaaGreat
