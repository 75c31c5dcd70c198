/- The contracts of the program's counts of spans and items that are right, hasReadsOk, hasWritesOk, isTrack. Conditions: texts of at most 2^21 bytes. -/
import Derived.Test.YtnhlfkffllbpiaaGreatFa13
namespace Go.Proofs.YtnhlfkffllbpiaaGreat
open Go.RowKit
set_option maxRecDepth 100000
theorem countP_take13 {α : Type} (p : α → Bool) (es : List α) (d : α) {k : Nat} (hk : k < es.length) : (es.take (k + 1)).countP p = (es.take k).countP p + (if p (es.getD k d) = true then 1 else 0) := by
 rw [List.take_succ_eq_append_getElem hk, List.countP_append, List.getD_eq_getElem?_getD, List.getElem?_eq_getElem hk]
 simp [List.countP_cons]
theorem countP_all13 {α : Type} (p : α → Bool) (es : List α) : decide (es.countP p = es.length) = es.all p := by
 rw [Bool.eq_iff_iff, decide_eq_true_iff, List.countP_eq_length, List.all_eq_true]
set_option maxHeartbeats 3200000 in
theorem count_spans {a : Option Addr} {n : Nat} (c : Nat) {rs : List (Im × Im)} {w : World} (h : ReadsM w a (fl2 rs)) (hl : rs.length = n) (hn : n ≤ 2097152) (hs : ∀ i, ((fl2 rs).getD i im0).Z.length ≤ 2097152) :
 Calls Tryz.prog 102 #[.slice a n c, .func (.func 103) #[] #[]] w fun e w' => e = .returned (.int .i64 (rs.countP spB : Nat)) ∧ Below w.heap.size w w' := by
 have HRM := hid h
 have HL := hid hl
 have HS := hid hs
 clear h hl hs
 go_enter Tryz.func102, Tryz.ntmps102
 go_wp2_with fail
 go_loopw [5, 10] (fun t i wr => ∃ k m : Nat, k ≤ n ∧ i = .int .i64 k ∧ t = .int .i64 m ∧ m ≤ k ∧ Hid (m = (rs.take k).countP spB) ∧ Hid (Below w.heap.size w wr)) (fun _ i _ => n - (intOf i).toNat)
 case atStart => exact ⟨0, 0, Nat.zero_le _, rfl, rfl, Nat.le_refl _, hid (by simp), hid (Below.refl _ _)⟩
 case round =>
  obtain ⟨k, m, hk, rfl, rfl, hmk, HC, HW⟩ := hrel
  by_cases hlt : k < n
  · have hlt' : (k : Int) < (n : Int) := by omega
    have hk0 : (0 : Int) ≤ (k : Int) := by omega
    have hl2 : (fl2 rs).length = n * 2 := by rw [fl2_len, HL.out]
    obtain ⟨b, off, p1, d1, rfl, bx, q1, _, _, hf1⟩ := HRM.out.at (k := k * 2) (by omega)
    obtain ⟨b', off', p2, d2, e', by', q2, _, _, hf2⟩ := HRM.out.at (k := k * 2 + 1) (by omega)
    obtain ⟨rfl, rfl⟩ : b = b' ∧ off = off' := by simpa using e'
    have hz1 := HS.out (k * 2)
    have hz2 := HS.out (k * 2 + 1)
    have hat := fl2_at rs k
    rw [hat.1] at bx q1 hf1 hz1
    rw [hat.2] at by' q2 hf2 hz2
    have HT := hid (countP_take13 spB rs sp0 (k := k) (by rw [HL.out]; exact hlt))
    generalize rs.getD k sp0 = pp at *
    obtain ⟨⟨K1, N1, F1, Z1⟩, K2, N2, F2, Z2⟩ := pp
    simp only at bx by' q1 q2 hf1 hf2 hz1 hz2
    obtain ⟨m1, hm1⟩ : ∃ m, Z1.length = m := ⟨_, rfl⟩
    obtain ⟨m2, hm2⟩ : ∃ m, Z2.length = m := ⟨_, rfl⟩
    rw [hm1] at bx q1 hz1
    rw [hm2] at by' q2 hz2
    rw [show off + k * 2 * 4 = off + k * 8 by omega] at bx
    rw [show off + (k * 2 + 1) * 4 = off + k * 8 + 4 by omega] at by'
    obtain ⟨x0, x1, x2, x3⟩ := bx.below HW.out (Nat.le_refl _)
    obtain ⟨x4, x5, x6, x7⟩ := by'.below HW.out (Nat.le_refl _)
    have bA := Below.alloc1 wr (.cells #[.int .i64 K1, .int .i64 N1, .float .f64 F1, .slice p1 m1 d1, .int .i64 K2, .int .i64 N2, .float .f64 F2, .slice p2 m2 d2] 78)
    have HWA := hid (HW.out.trans (bA.mono HW.out.size))
    have Q1 := hid (q1.below HWA.out (Nat.le_refl _))
    have Q2 := hid (q2.below HWA.out (Nat.le_refl _))
    have hst := fun w a m => run_store Tryz.prog w a (.float .f64 F1) m rfl
    have hst2 := fun w a m => run_store Tryz.prog w a (.float .f64 F2) m rfl
    clear bx by' q1 q2 hm1 hm2 hat hl2 e' bA
    go_wp2_with fail
    clear x0 x1 x2 x3 x4 x5 x6 x7
    refine (impl_SpanOk_n K1 N1 F1 d1 K2 N2 F2 d2 Q1.out Q2.out hf1 hf2 hz1 hz2).mono ?_
    rintro e w1 ⟨rfl, b1⟩
    have HW2 := hid (HWA.out.trans (b1.mono HWA.out.size))
    clear b1
    cases hin : spB (⟨K1, N1, F1, Z1⟩, ⟨K2, N2, F2, Z2⟩) with
    | true =>
     have HN2 := hid (show m + 1 = (rs.take (k + 1)).countP spB by rw [HT.out, ← HC.out, hin]; rfl)
     clear hin
     go_wp2_with fail
     go_roundw
     case rel => exact ⟨k + 1, m + 1, by omega, by go_num, by go_num, by omega, HN2, HW2⟩
     case measure => simp [intOf]; omega
    | false =>
     have HN2 := hid (show m = (rs.take (k + 1)).countP spB by rw [HT.out, ← HC.out, hin]; rfl)
     clear hin
     go_wp2_with fail
     go_roundw
     case rel => exact ⟨k + 1, m, by omega, by go_num, rfl, by omega, HN2, HW2⟩
     case measure => simp [intOf]; omega
  · have hlt' : ¬ (k : Int) < (n : Int) := by omega
    have HE := hid (show rs.countP spB = m by rw [HC.out, List.take_of_length_le (by have := HL.out; omega)])
    go_wp2_with fail
    go_ret
    exact ⟨by rw [HE.out]; rfl, HW.out⟩
set_option maxHeartbeats 3200000 in
theorem count_items {a : Option Addr} {n : Nat} (c : Nat) {ws : List Im} {w : World} (h : ReadsM w a ws) (hl : ws.length = n) (hn : n ≤ 2097152) (hs : ∀ i, (ws.getD i im0).Z.length ≤ 2097152) :
 Calls Tryz.prog 104 #[.slice a n c, .func (.func 28) #[] #[]] w fun e w' => e = .returned (.int .i64 (ws.countP okM : Nat)) ∧ Below w.heap.size w w' := by
 have HRM := hid h
 have HL := hid hl
 have HS := hid hs
 clear h hl hs
 go_enter Tryz.func104, Tryz.ntmps104
 go_wp2_with fail
 go_loopw [5, 10] (fun t i wr => ∃ k m : Nat, k ≤ n ∧ i = .int .i64 k ∧ t = .int .i64 m ∧ m ≤ k ∧ Hid (m = (ws.take k).countP okM) ∧ Hid (Below w.heap.size w wr)) (fun _ i _ => n - (intOf i).toNat)
 case atStart => exact ⟨0, 0, Nat.zero_le _, rfl, rfl, Nat.le_refl _, hid (by simp), hid (Below.refl _ _)⟩
 case round =>
  obtain ⟨k, m, hk, rfl, rfl, hmk, HC, HW⟩ := hrel
  by_cases hlt : k < n
  · have hlt' : (k : Int) < (n : Int) := by omega
    have hk0 : (0 : Int) ≤ (k : Int) := by omega
    obtain ⟨b, off, p1, d1, rfl, bx, q1, _, _, hf1⟩ := HRM.out.at (k := k) (by have := HL.out; omega)
    have hz1 := HS.out k
    have HT := hid (countP_take13 okM ws im0 (k := k) (by rw [HL.out]; exact hlt))
    generalize ws.getD k im0 = pp at *
    obtain ⟨K1, N1, F1, Z1⟩ := pp
    simp only at bx q1 hf1 hz1
    obtain ⟨m1, hm1⟩ : ∃ m, Z1.length = m := ⟨_, rfl⟩
    have HOk := hid (show okM ⟨K1, N1, F1, Z1⟩ = okK K1 N1 F1 m1 by unfold okM; simp only [hm1])
    rw [hm1] at bx hz1
    obtain ⟨x0, x1, x2, x3⟩ := bx.below HW.out (Nat.le_refl _)
    have bA := Below.alloc1 wr (.cells #[.int .i64 K1, .int .i64 N1, .float .f64 F1, .slice p1 m1 d1] 33)
    have HWA := hid (HW.out.trans (bA.mono HW.out.size))
    have hst := fun w a m => run_store Tryz.prog w a (.float .f64 F1) m rfl
    clear bx q1 hm1 bA
    go_wp2_with fail
    clear x0 x1 x2 x3
    refine (impl_KeyOk K1 N1 F1 p1 m1 d1 hf1 hz1 _).mono ?_
    rintro e w1 ⟨rfl, b1⟩
    rw [← HOk.out]
    have HW2 := hid (HWA.out.trans (b1.mono HWA.out.size))
    clear b1
    cases hin : okM ⟨K1, N1, F1, Z1⟩ with
    | true =>
     have HN2 := hid (show m + 1 = (ws.take (k + 1)).countP okM by rw [HT.out, ← HC.out, hin]; rfl)
     clear hin
     go_wp2_with fail
     go_roundw
     case rel => exact ⟨k + 1, m + 1, by omega, by go_num, by go_num, by omega, HN2, HW2⟩
     case measure => simp [intOf]; omega
    | false =>
     have HN2 := hid (show m = (ws.take (k + 1)).countP okM by rw [HT.out, ← HC.out, hin]; rfl)
     clear hin
     go_wp2_with fail
     go_roundw
     case rel => exact ⟨k + 1, m, by omega, by go_num, rfl, by omega, HN2, HW2⟩
     case measure => simp [intOf]; omega
  · have hlt' : ¬ (k : Int) < (n : Int) := by omega
    have HE := hid (show ws.countP okM = m by rw [HC.out, List.take_of_length_le (by have := HL.out; omega)])
    go_wp2_with fail
    go_ret
    exact ⟨by rw [HE.out]; rfl, HW.out⟩
def rdsB (t : Tk) : Bool := if t.all = true then decide (t.rs.length = 0) else decide (t.rs.length ≤ 6) && t.rs.all spB
def wrsB (t : Tk) : Bool := decide (t.ws.length ≤ 200) && t.ws.all okM
theorem trackB_of (t : Tk) : trackB t = (decide (1 ≤ t.xid ∧ t.xid ≤ 400) && (decide (1 ≤ t.begun) && (lastB t t.begun && (rdsB t && wrsB t)))) := by
 unfold trackB lastB rdsB wrsB
 obtain ⟨xi, be, en, al, rs, ws, inn, ou⟩ := t
 simp only
 rw [Bool.eq_iff_iff]
 cases al with
 | true =>
  simp only [Bool.and_eq_true, Bool.or_eq_true, decide_eq_true_iff]
  constructor
  · rintro ⟨h1, h2, h3, h4, h5, h6, h7, h8⟩
    refine ⟨h1, h2, h3, ?_, h6, h8⟩
    rcases h5 with h5 | h5
    · cases h5
    · simpa using h5
  · rintro ⟨h1, h2, h3, h4, h6, h8⟩
    have h4' : rs.length = 0 := by simpa using h4
    obtain rfl : rs = [] := List.length_eq_zero_iff.1 h4'
    exact ⟨h1, h2, h3, by simp, .inr rfl, h6, by simp, h8⟩
 | false =>
  simp only [Bool.and_eq_true, Bool.or_eq_true, decide_eq_true_iff]
  constructor
  · rintro ⟨h1, h2, h3, h4, h5, h6, h7, h8⟩
    exact ⟨h1, h2, h3, by simp only [Bool.false_eq_true, if_false, Bool.and_eq_true, decide_eq_true_iff]; exact ⟨h4, h7⟩, h6, h8⟩
  · rintro ⟨h1, h2, h3, h4, h6, h8⟩
    simp only [Bool.false_eq_true, if_false, Bool.and_eq_true, decide_eq_true_iff] at h4
    exact ⟨h1, h2, h3, h4.1, .inl trivial, h6, h4.2, h8⟩
set_option maxHeartbeats 6400000 in
theorem impl_hasReadsOk (xi be en : Int) (al inn ou : Bool) {rs : List (Im × Im)} {ws : List Im} {a1 : Option Addr} {n1 : Nat} (c1 : Nat) (y : Value) {w : World} (h : ReadsM w a1 (fl2 rs)) (hl : rs.length = n1) (hs : ∀ i, ((fl2 rs).getD i im0).Z.length ≤ 2097152) :
 Calls Tryz.prog 96 #[.agg #[.int .i64 xi, .int .i64 be, .int .i64 en, .bool al, .slice a1 n1 c1, y, .bool inn, .bool ou]] w fun e w' => e = .returned (.bool (rdsB ⟨xi, be, en, al, rs, ws, inn, ou⟩)) ∧ Below w.heap.size w w' := by
 obtain ⟨V, hV⟩ : ∃ V, rdsB ⟨xi, be, en, al, rs, ws, inn, ou⟩ = V := ⟨_, rfl⟩
 rw [hV]
 have HB := hid (Below.alloc1 w (.cells #[.int .i64 xi, .int .i64 be, .int .i64 en, .bool al, .slice a1 n1 c1, y, .bool inn, .bool ou] 52))
 have HR := hid (heap_alloc_new w (.cells #[.int .i64 xi, .int .i64 be, .int .i64 en, .bool al, .slice a1 n1 c1, y, .bool inn, .bool ou] 52))
 have HRM := hid h
 have HL := hid hl
 have HSS := hid hs
 clear h hs
 cases al with
 | true =>
  have HV := hid (show V = decide (n1 = 0) by rw [← hV]; unfold rdsB; simp only [hl]; rfl)
  clear hV
  by_cases h0 : n1 = 0
  · have hq : ((n1 : Int) == 0) = true := by simpa using (show (n1 : Int) = 0 by omega)
    have HF := hid (show V = true by rw [HV.out, decide_eq_true h0])
    clear h0
    go_enter Tryz.func96, Tryz.ntmps96
    go_wp2_with fail
    go_ret
    exact ⟨by rw [HF.out]; rfl, HB.out⟩
  · have hq : ((n1 : Int) == 0) = false := by simpa using (show ¬ (n1 : Int) = 0 by omega)
    have HF := hid (show V = false by rw [HV.out, decide_eq_false h0])
    clear h0
    go_enter Tryz.func96, Tryz.ntmps96
    go_wp2_with fail
    go_ret
    exact ⟨by rw [HF.out]; rfl, HB.out⟩
 | false =>
  have HV := hid (show V = (decide (n1 ≤ 6) && rs.all spB) by rw [← hV]; unfold rdsB; simp only [hl]; rfl)
  clear hV
  have HK := hid (show (w.alloc (.cells #[.int .i64 xi, .int .i64 be, .int .i64 en, .bool false, .slice a1 n1 c1, y, .bool inn, .bool ou] 52)).cell? ⟨w.heap.size, 4, none⟩ = some (.slice a1 n1 c1) by rw [cell_of_row _ _ _ _ _ _ HR.out]; rfl)
  clear hl
  by_cases hle : n1 ≤ 6
  · have hle' : (n1 : Int) ≤ 6 := by omega
    have HKD := hid (show (w.alloc (.cells #[.int .i64 xi, .int .i64 be, .int .i64 en, .bool false, .slice a1 n1 c1, y, .bool inn, .bool ou] 52)).drew.cell? ⟨w.heap.size, 4, none⟩ = some (.slice a1 n1 c1) from HK.out)
    have HBD := hid (HB.out.trans (((Still.drew (w.alloc (.cells #[.int .i64 xi, .int .i64 be, .int .i64 en, .bool false, .slice a1 n1 c1, y, .bool inn, .bool ou] 52))).below _).mono HB.out.size))
    go_enter Tryz.func96, Tryz.ntmps96
    go_wp2
    refine region_K 99 (fun W => W.cell? ⟨w.heap.size, 4, none⟩ = some (.slice a1 n1 c1)) (by kernel_rfl) ?_ (fun hHeld => ?_)
    · exact HKD.out
    generalize (w.alloc (.cells #[.int .i64 xi, .int .i64 be, .int .i64 en, .bool false, .slice a1 n1 c1, y, .bool inn, .bool ou] 52)).drew = v0 at *
    refine anyK_take2 (i := 0) (v := ?v0_1) rfl (by kernel_rfl) (by kernel_rfl) (by kernel_rfl) (by rfl) (fun _ _ _ h => h) (by rfl) hHeld ?hy0_1 (some 9) (by rfl) ?rest0_1
    case hy0_1 => (intro W hSw; obtain x0 := hSw; go_simp; (try with_reducible rfl))
    try simp only [Act.put, List.setIfInBounds_toArray, List.set_cons_succ, List.set_cons_zero]
    refine anyK_take2 (i := 1) (v := ?v1_2) rfl (by kernel_rfl) (by kernel_rfl) (by kernel_rfl) (by rfl) (fun _ _ _ h => h) (by rfl) hHeld ?hy1_2 (some 10) (by rfl) ?rest1_2
    case hy1_2 => (intro W hSw; obtain x0 := hSw; go_simp; (try with_reducible rfl))
    try simp only [Act.put, List.setIfInBounds_toArray, List.set_cons_succ, List.set_cons_zero]
    refine anyK_take2 (i := 2) (v := ?v2_3) rfl (by kernel_rfl) (by kernel_rfl) (by kernel_rfl) (by rfl) (fun _ _ _ h => h) (by rfl) hHeld ?hy2_3 (some 11) (by rfl) ?rest2_3
    case hy2_3 => (intro W hSw; obtain x0 := hSw; go_simp; (try with_reducible rfl))
    try simp only [Act.put, List.setIfInBounds_toArray, List.set_cons_succ, List.set_cons_zero]
    refine anyK_take2 (i := 3) (v := ?v3_4) rfl (by kernel_rfl) (by kernel_rfl) (by kernel_rfl) (by rfl) (fun _ _ _ h => h) (by rfl) hHeld ?hy3_4 (some 12) (by rfl) ?rest3_4
    case hy3_4 => (intro W hSw; obtain x0 := hSw; go_simp; (try with_reducible rfl))
    try simp only [Act.put, List.setIfInBounds_toArray, List.set_cons_succ, List.set_cons_zero]
    refine anyK_take2 (i := 4) (v := ?v4_5) rfl (by kernel_rfl) (by kernel_rfl) (by kernel_rfl) (by rfl) (fun _ _ _ h => h) (by rfl) hHeld ?hy4_5 (some 13) (by rfl) ?rest4_5
    case hy4_5 => (intro W hSw; obtain x0 := hSw; go_simp; (try with_reducible rfl))
    try simp only [Act.put, List.setIfInBounds_toArray, List.set_cons_succ, List.set_cons_zero]
    refine anyK_take2 (i := 5) (v := ?v5_6) rfl (by kernel_rfl) (by kernel_rfl) (by kernel_rfl) (by rfl) (fun _ _ _ h => h) (by rfl) hHeld ?hy5_6 (some 14) (by rfl) ?rest5_6
    case hy5_6 => (intro W hSw; obtain x0 := hSw; go_simp; (try with_reducible rfl))
    try simp only [Act.put, List.setIfInBounds_toArray, List.set_cons_succ, List.set_cons_zero]
    refine anyK_take2 (i := 6) (v := ?v6_7) rfl (by kernel_rfl) (by kernel_rfl) (by kernel_rfl) (by rfl) (fun _ _ _ h => h) (by rfl) hHeld ?hy6_7 (some 15) (by rfl) ?rest6_7
    case hy6_7 => (intro W hSw; obtain x0 := hSw; go_simp; (try with_reducible rfl))
    try simp only [Act.put, List.setIfInBounds_toArray, List.set_cons_succ, List.set_cons_zero]
    refine anyK_take2 (i := 8) (v := ?v8_8) rfl (by kernel_rfl) (by kernel_rfl) (by kernel_rfl) (by rfl) (fun _ _ _ h => h) (by rfl) hHeld ?hy8_8 (some 17) (by rfl) ?rest8_8
    case hy8_8 => (intro W hSw; obtain x0 := hSw; go_simp; (try with_reducible rfl))
    try simp only [Act.put, List.setIfInBounds_toArray, List.set_cons_succ, List.set_cons_zero]
    refine anyK_take2 (i := 9) (v := ?v9_9) rfl (by kernel_rfl) (by kernel_rfl) (by kernel_rfl) (by rfl) (fun _ _ _ h => h) (by rfl) hHeld ?hy9_9 (some 18) (by rfl) ?rest9_9
    case hy9_9 => (intro W hSw; obtain x0 := hSw; go_simp; (try with_reducible rfl))
    try simp only [Act.put, List.setIfInBounds_toArray, List.set_cons_succ, List.set_cons_zero]
    refine anyK_take2 (i := 10) (v := ?v10_10) rfl (by kernel_rfl) (by kernel_rfl) (by kernel_rfl) (by rfl) (fun _ _ _ h => h) (by rfl) hHeld ?hy10_10 (some 19) (by rfl) ?rest10_10
    case hy10_10 => (intro W hSw; obtain x0 := hSw; go_simp; (try with_reducible rfl))
    try simp only [Act.put, List.setIfInBounds_toArray, List.set_cons_succ, List.set_cons_zero]
    refine anyK_step (i := 7) (by kernel_rfl) rfl (fun KP hK => ?_)
    go_simp
    refine (count_spans c1 (HRM.out.below HBD.out (Nat.le_refl _)) HL.out (by omega) HSS.out).mono ?_
    rintro e u ⟨rfl, b1⟩
    obtain ⟨C, hC⟩ : ∃ C, rs.countP spB = C := ⟨_, rfl⟩
    have HC := hid hC
    rw [hC]
    have HB2 := hid (HBD.out.trans (b1.mono HBD.out.size))
    have HH2 := hid (show u.cell? ⟨w.heap.size, 4, none⟩ = some (.slice a1 n1 c1) from (b1.cell (p := ⟨w.heap.size, 4, none⟩) (World.block_lt_of_cell? v0 _ HKD.out)).trans HKD.out)
    clear b1 hC
    go_wp2_with fail
    clear hHeld
    refine hK.out _ _ HH2.out (fun hHeld => ?_)
    clear hK KP
    try simp only [Act.put, List.setIfInBounds_toArray, List.set_cons_succ, List.set_cons_zero]
    by_cases hCn : C = n1
    · have hq : ((C : Int) == (n1 : Int)) = true := by simpa using (show (C : Int) = n1 by omega)
      have HF := hid (show V = true by rw [HV.out, decide_eq_true hle, ← countP_all13, HC.out, HL.out, decide_eq_true hCn]; rfl)
      clear hCn
      refine anyK_take2 (i := 11) (v := ?v11_11) rfl (by kernel_rfl) (by kernel_rfl) (by kernel_rfl) (by rfl) (fun _ _ _ h => h) (by rfl) hHeld ?hy11_11 (some 20) (by rfl) ?rest11_11
      case hy11_11 => (intro W hSw; obtain x0 := hSw; go_simp; (try with_reducible rfl))
      try simp only [Act.put, List.setIfInBounds_toArray, List.set_cons_succ, List.set_cons_zero]
      refine anyK_take2 (i := 12) (v := ?v12_12) rfl (by kernel_rfl) (by kernel_rfl) (by kernel_rfl) (by rfl) (fun _ _ _ h => h) (by rfl) hHeld ?hy12_12 (some 21) (by rfl) ?rest12_12
      case hy12_12 => (intro W hSw; obtain x0 := hSw; go_simp; (try with_reducible rfl))
      try simp only [Act.put, List.setIfInBounds_toArray, List.set_cons_succ, List.set_cons_zero]
      refine anyK_take2 (i := 13) (v := ?v13_13) rfl (by kernel_rfl) (by kernel_rfl) (by kernel_rfl) (by rfl) (fun _ _ _ h => h) (by rfl) hHeld ?hy13_13 (some 2) (by rfl) ?rest13_13
      case hy13_13 => (intro W hSw; obtain x0 := hSw; go_simp; (try with_reducible rfl))
      try simp only [Act.put, List.setIfInBounds_toArray, List.set_cons_succ, List.set_cons_zero]
      refine anyK_done (by kernel_rfl) ?_ _
      clear hHeld
      go_wp2_with fail
      go_ret
      exact ⟨by rw [HF.out]; rfl, HB2.out⟩
    · have hq : ((C : Int) == (n1 : Int)) = false := by simpa using (show ¬ (C : Int) = n1 by omega)
      have HF := hid (show V = false by rw [HV.out, decide_eq_true hle, ← countP_all13, HC.out, HL.out, decide_eq_false hCn]; rfl)
      clear hCn
      refine anyK_take2 (i := 11) (v := ?v11_14) rfl (by kernel_rfl) (by kernel_rfl) (by kernel_rfl) (by rfl) (fun _ _ _ h => h) (by rfl) hHeld ?hy11_14 (some 20) (by rfl) ?rest11_14
      case hy11_14 => (intro W hSw; obtain x0 := hSw; go_simp; (try with_reducible rfl))
      try simp only [Act.put, List.setIfInBounds_toArray, List.set_cons_succ, List.set_cons_zero]
      refine anyK_take2 (i := 12) (v := ?v12_15) rfl (by kernel_rfl) (by kernel_rfl) (by kernel_rfl) (by rfl) (fun _ _ _ h => h) (by rfl) hHeld ?hy12_15 (some 21) (by rfl) ?rest12_15
      case hy12_15 => (intro W hSw; obtain x0 := hSw; go_simp; (try with_reducible rfl))
      try simp only [Act.put, List.setIfInBounds_toArray, List.set_cons_succ, List.set_cons_zero]
      refine anyK_take2 (i := 13) (v := ?v13_16) rfl (by kernel_rfl) (by kernel_rfl) (by kernel_rfl) (by rfl) (fun _ _ _ h => h) (by rfl) hHeld ?hy13_16 (some 2) (by rfl) ?rest13_16
      case hy13_16 => (intro W hSw; obtain x0 := hSw; go_simp; (try with_reducible rfl))
      try simp only [Act.put, List.setIfInBounds_toArray, List.set_cons_succ, List.set_cons_zero]
      refine anyK_done (by kernel_rfl) ?_ _
      clear hHeld
      go_wp2_with fail
      go_ret
      exact ⟨by rw [HF.out]; rfl, HB2.out⟩
  · have hle' : ¬ (n1 : Int) ≤ 6 := by omega
    have hle2 : decide ((n1 : Int) ≤ 6) = false := decide_eq_false hle'
    have HF := hid (show V = false by rw [HV.out, decide_eq_false hle, Bool.false_and])
    have HKD := hid (show (w.alloc (.cells #[.int .i64 xi, .int .i64 be, .int .i64 en, .bool false, .slice a1 n1 c1, y, .bool inn, .bool ou] 52)).drew.cell? ⟨w.heap.size, 4, none⟩ = some (.slice a1 n1 c1) from HK.out)
    have HBD := hid (HB.out.trans (((Still.drew (w.alloc (.cells #[.int .i64 xi, .int .i64 be, .int .i64 en, .bool false, .slice a1 n1 c1, y, .bool inn, .bool ou] 52))).below _).mono HB.out.size))
    go_enter Tryz.func96, Tryz.ntmps96
    go_wp2
    refine region_K 99 (fun W => W.cell? ⟨w.heap.size, 4, none⟩ = some (.slice a1 n1 c1)) (by kernel_rfl) ?_ (fun hHeld => ?_)
    · exact HKD.out
    generalize (w.alloc (.cells #[.int .i64 xi, .int .i64 be, .int .i64 en, .bool false, .slice a1 n1 c1, y, .bool inn, .bool ou] 52)).drew = v0 at *
    refine anyK_take2 (i := 0) (v := ?v0_17) rfl (by kernel_rfl) (by kernel_rfl) (by kernel_rfl) (by rfl) (fun _ _ _ h => h) (by rfl) hHeld ?hy0_17 (some 9) (by rfl) ?rest0_17
    case hy0_17 => (intro W hSw; obtain x0 := hSw; go_simp; (try with_reducible rfl))
    try simp only [Act.put, List.setIfInBounds_toArray, List.set_cons_succ, List.set_cons_zero]
    refine anyK_take2 (i := 1) (v := ?v1_18) rfl (by kernel_rfl) (by kernel_rfl) (by kernel_rfl) (by rfl) (fun _ _ _ h => h) (by rfl) hHeld ?hy1_18 (some 10) (by rfl) ?rest1_18
    case hy1_18 => (intro W hSw; obtain x0 := hSw; go_simp; (try with_reducible rfl))
    try simp only [Act.put, List.setIfInBounds_toArray, List.set_cons_succ, List.set_cons_zero]
    refine anyK_take2 (i := 2) (v := ?v2_19) rfl (by kernel_rfl) (by kernel_rfl) (by kernel_rfl) (by rfl) (fun _ _ _ h => h) (by rfl) hHeld ?hy2_19 (some 11) (by rfl) ?rest2_19
    case hy2_19 => (intro W hSw; obtain x0 := hSw; go_simp; (try with_reducible rfl))
    try simp only [Act.put, List.setIfInBounds_toArray, List.set_cons_succ, List.set_cons_zero]
    refine anyK_take2 (i := 3) (v := ?v3_20) rfl (by kernel_rfl) (by kernel_rfl) (by kernel_rfl) (by rfl) (fun _ _ _ h => h) (by rfl) hHeld ?hy3_20 (some 12) (by rfl) ?rest3_20
    case hy3_20 => (intro W hSw; obtain x0 := hSw; go_simp; (try with_reducible rfl))
    try simp only [Act.put, List.setIfInBounds_toArray, List.set_cons_succ, List.set_cons_zero]
    refine anyK_take2 (i := 4) (v := ?v4_21) rfl (by kernel_rfl) (by kernel_rfl) (by kernel_rfl) (by rfl) (fun _ _ _ h => h) (by rfl) hHeld ?hy4_21 (some 13) (by rfl) ?rest4_21
    case hy4_21 => (intro W hSw; obtain x0 := hSw; go_simp; (try with_reducible rfl))
    try simp only [Act.put, List.setIfInBounds_toArray, List.set_cons_succ, List.set_cons_zero]
    refine anyK_skip (i := 5) rfl (by kernel_rfl) (by kernel_rfl) (by kernel_rfl) (by kernel_rfl) (fun _ _ _ h => h) (by rfl) hHeld (some 14) (by rfl) ?_
    try simp only [Act.put, List.setIfInBounds_toArray, List.set_cons_succ, List.set_cons_zero]
    refine anyK_skip (i := 6) rfl (by kernel_rfl) (by kernel_rfl) (by kernel_rfl) (by kernel_rfl) (fun _ _ _ h => h) (by rfl) hHeld (some 15) (by rfl) ?_
    try simp only [Act.put, List.setIfInBounds_toArray, List.set_cons_succ, List.set_cons_zero]
    refine anyK_skip (i := 7) rfl (by kernel_rfl) (by kernel_rfl) (by kernel_rfl) (by kernel_rfl) (fun _ _ _ h => h) (by rfl) hHeld (some 16) (by rfl) ?_
    try simp only [Act.put, List.setIfInBounds_toArray, List.set_cons_succ, List.set_cons_zero]
    refine anyK_skip (i := 8) rfl (by kernel_rfl) (by kernel_rfl) (by kernel_rfl) (by kernel_rfl) (fun _ _ _ h => h) (by rfl) hHeld (some 17) (by rfl) ?_
    try simp only [Act.put, List.setIfInBounds_toArray, List.set_cons_succ, List.set_cons_zero]
    refine anyK_skip (i := 9) rfl (by kernel_rfl) (by kernel_rfl) (by kernel_rfl) (by kernel_rfl) (fun _ _ _ h => h) (by rfl) hHeld (some 18) (by rfl) ?_
    try simp only [Act.put, List.setIfInBounds_toArray, List.set_cons_succ, List.set_cons_zero]
    refine anyK_skip (i := 10) rfl (by kernel_rfl) (by kernel_rfl) (by kernel_rfl) (by kernel_rfl) (fun _ _ _ h => h) (by rfl) hHeld (some 19) (by rfl) ?_
    try simp only [Act.put, List.setIfInBounds_toArray, List.set_cons_succ, List.set_cons_zero]
    refine anyK_skip (i := 11) rfl (by kernel_rfl) (by kernel_rfl) (by kernel_rfl) (by kernel_rfl) (fun _ _ _ h => h) (by rfl) hHeld (some 20) (by rfl) ?_
    try simp only [Act.put, List.setIfInBounds_toArray, List.set_cons_succ, List.set_cons_zero]
    refine anyK_take2 (i := 12) (v := ?v12_22) rfl (by kernel_rfl) (by kernel_rfl) (by kernel_rfl) (by rfl) (fun _ _ _ h => h) (by rfl) hHeld ?hy12_22 (some 21) (by rfl) ?rest12_22
    case hy12_22 => (intro W hSw; obtain x0 := hSw; go_simp; (try with_reducible rfl))
    try simp only [Act.put, List.setIfInBounds_toArray, List.set_cons_succ, List.set_cons_zero]
    refine anyK_take2 (i := 13) (v := ?v13_23) rfl (by kernel_rfl) (by kernel_rfl) (by kernel_rfl) (by rfl) (fun _ _ _ h => h) (by rfl) hHeld ?hy13_23 (some 2) (by rfl) ?rest13_23
    case hy13_23 => (intro W hSw; obtain x0 := hSw; go_simp; (try with_reducible rfl))
    try simp only [Act.put, List.setIfInBounds_toArray, List.set_cons_succ, List.set_cons_zero]
    refine anyK_done (by kernel_rfl) ?_ _
    clear hHeld
    go_wp2_with fail
    go_ret
    exact ⟨by rw [HF.out]; rfl, HBD.out⟩
set_option maxHeartbeats 6400000 in
theorem impl_hasWritesOk (xi be en : Int) (al inn ou : Bool) {rs : List (Im × Im)} {ws : List Im} (y : Value) {a2 : Option Addr} {n2 : Nat} (c2 : Nat) {w : World} (h : ReadsM w a2 ws) (hl : ws.length = n2) (hs : ∀ i, (ws.getD i im0).Z.length ≤ 2097152) :
 Calls Tryz.prog 97 #[.agg #[.int .i64 xi, .int .i64 be, .int .i64 en, .bool al, y, .slice a2 n2 c2, .bool inn, .bool ou]] w fun e w' => e = .returned (.bool (wrsB ⟨xi, be, en, al, rs, ws, inn, ou⟩)) ∧ Below w.heap.size w w' := by
 obtain ⟨V, hV⟩ : ∃ V, wrsB ⟨xi, be, en, al, rs, ws, inn, ou⟩ = V := ⟨_, rfl⟩
 rw [hV]
 have HB := hid (Below.alloc1 w (.cells #[.int .i64 xi, .int .i64 be, .int .i64 en, .bool al, y, .slice a2 n2 c2, .bool inn, .bool ou] 52))
 have HR := hid (heap_alloc_new w (.cells #[.int .i64 xi, .int .i64 be, .int .i64 en, .bool al, y, .slice a2 n2 c2, .bool inn, .bool ou] 52))
 have HRM := hid h
 have HL := hid hl
 have HSS := hid hs
 clear h hs
 · have HV := hid (show V = (decide (n2 ≤ 200) && ws.all okM) by rw [← hV]; unfold wrsB; simp only [hl])
   clear hV
   have HK := hid (show (w.alloc (.cells #[.int .i64 xi, .int .i64 be, .int .i64 en, .bool al, y, .slice a2 n2 c2, .bool inn, .bool ou] 52)).cell? ⟨w.heap.size, 5, none⟩ = some (.slice a2 n2 c2) by rw [cell_of_row _ _ _ _ _ _ HR.out]; rfl)
   clear hl
   by_cases hle : n2 ≤ 200
   · have hle' : (n2 : Int) ≤ 200 := by omega
     have HKD := hid (show (w.alloc (.cells #[.int .i64 xi, .int .i64 be, .int .i64 en, .bool al, y, .slice a2 n2 c2, .bool inn, .bool ou] 52)).drew.cell? ⟨w.heap.size, 5, none⟩ = some (.slice a2 n2 c2) from HK.out)
     have HBD := hid (HB.out.trans (((Still.drew (w.alloc (.cells #[.int .i64 xi, .int .i64 be, .int .i64 en, .bool al, y, .slice a2 n2 c2, .bool inn, .bool ou] 52))).below _).mono HB.out.size))
     go_enter Tryz.func97, Tryz.ntmps97
     go_wp2
     refine region_K 99 (fun W => W.cell? ⟨w.heap.size, 5, none⟩ = some (.slice a2 n2 c2)) (by kernel_rfl) ?_ (fun hHeld => ?_)
     · exact HKD.out
     generalize (w.alloc (.cells #[.int .i64 xi, .int .i64 be, .int .i64 en, .bool al, y, .slice a2 n2 c2, .bool inn, .bool ou] 52)).drew = v0 at *
     refine anyK_take2 (i := 0) (v := ?v0_24) rfl (by kernel_rfl) (by kernel_rfl) (by kernel_rfl) (by rfl) (fun _ _ _ h => h) (by rfl) hHeld ?hy0_24 (some 3) (by rfl) ?rest0_24
     case hy0_24 => (intro W hSw; obtain x0 := hSw; go_simp; (try with_reducible rfl))
     try simp only [Act.put, List.setIfInBounds_toArray, List.set_cons_succ, List.set_cons_zero]
     refine anyK_take2 (i := 1) (v := ?v1_25) rfl (by kernel_rfl) (by kernel_rfl) (by kernel_rfl) (by rfl) (fun _ _ _ h => h) (by rfl) hHeld ?hy1_25 (some 4) (by rfl) ?rest1_25
     case hy1_25 => (intro W hSw; obtain x0 := hSw; go_simp; (try with_reducible rfl))
     try simp only [Act.put, List.setIfInBounds_toArray, List.set_cons_succ, List.set_cons_zero]
     refine anyK_take2 (i := 2) (v := ?v2_26) rfl (by kernel_rfl) (by kernel_rfl) (by kernel_rfl) (by rfl) (fun _ _ _ h => h) (by rfl) hHeld ?hy2_26 (some 5) (by rfl) ?rest2_26
     case hy2_26 => (intro W hSw; obtain x0 := hSw; go_simp; (try with_reducible rfl))
     try simp only [Act.put, List.setIfInBounds_toArray, List.set_cons_succ, List.set_cons_zero]
     refine anyK_take2 (i := 3) (v := ?v3_27) rfl (by kernel_rfl) (by kernel_rfl) (by kernel_rfl) (by rfl) (fun _ _ _ h => h) (by rfl) hHeld ?hy3_27 (some 6) (by rfl) ?rest3_27
     case hy3_27 => (intro W hSw; obtain x0 := hSw; go_simp; (try with_reducible rfl))
     try simp only [Act.put, List.setIfInBounds_toArray, List.set_cons_succ, List.set_cons_zero]
     refine anyK_take2 (i := 4) (v := ?v4_28) rfl (by kernel_rfl) (by kernel_rfl) (by kernel_rfl) (by rfl) (fun _ _ _ h => h) (by rfl) hHeld ?hy4_28 (some 7) (by rfl) ?rest4_28
     case hy4_28 => (intro W hSw; obtain x0 := hSw; go_simp; (try with_reducible rfl))
     try simp only [Act.put, List.setIfInBounds_toArray, List.set_cons_succ, List.set_cons_zero]
     refine anyK_take2 (i := 5) (v := ?v5_29) rfl (by kernel_rfl) (by kernel_rfl) (by kernel_rfl) (by rfl) (fun _ _ _ h => h) (by rfl) hHeld ?hy5_29 (some 8) (by rfl) ?rest5_29
     case hy5_29 => (intro W hSw; obtain x0 := hSw; go_simp; (try with_reducible rfl))
     try simp only [Act.put, List.setIfInBounds_toArray, List.set_cons_succ, List.set_cons_zero]
     refine anyK_take2 (i := 6) (v := ?v6_30) rfl (by kernel_rfl) (by kernel_rfl) (by kernel_rfl) (by rfl) (fun _ _ _ h => h) (by rfl) hHeld ?hy6_30 (some 9) (by rfl) ?rest6_30
     case hy6_30 => (intro W hSw; obtain x0 := hSw; go_simp; (try with_reducible rfl))
     try simp only [Act.put, List.setIfInBounds_toArray, List.set_cons_succ, List.set_cons_zero]
     refine anyK_take2 (i := 8) (v := ?v8_31) rfl (by kernel_rfl) (by kernel_rfl) (by kernel_rfl) (by rfl) (fun _ _ _ h => h) (by rfl) hHeld ?hy8_31 (some 11) (by rfl) ?rest8_31
     case hy8_31 => (intro W hSw; obtain x0 := hSw; go_simp; (try with_reducible rfl))
     try simp only [Act.put, List.setIfInBounds_toArray, List.set_cons_succ, List.set_cons_zero]
     refine anyK_take2 (i := 9) (v := ?v9_32) rfl (by kernel_rfl) (by kernel_rfl) (by kernel_rfl) (by rfl) (fun _ _ _ h => h) (by rfl) hHeld ?hy9_32 (some 12) (by rfl) ?rest9_32
     case hy9_32 => (intro W hSw; obtain x0 := hSw; go_simp; (try with_reducible rfl))
     try simp only [Act.put, List.setIfInBounds_toArray, List.set_cons_succ, List.set_cons_zero]
     refine anyK_take2 (i := 10) (v := ?v10_33) rfl (by kernel_rfl) (by kernel_rfl) (by kernel_rfl) (by rfl) (fun _ _ _ h => h) (by rfl) hHeld ?hy10_33 (some 13) (by rfl) ?rest10_33
     case hy10_33 => (intro W hSw; obtain x0 := hSw; go_simp; (try with_reducible rfl))
     try simp only [Act.put, List.setIfInBounds_toArray, List.set_cons_succ, List.set_cons_zero]
     refine anyK_step (i := 7) (by kernel_rfl) rfl (fun KP hK => ?_)
     go_simp
     refine (count_items c2 (HRM.out.below HBD.out (Nat.le_refl _)) HL.out (by omega) HSS.out).mono ?_
     rintro e u ⟨rfl, b1⟩
     obtain ⟨C, hC⟩ : ∃ C, ws.countP okM = C := ⟨_, rfl⟩
     have HC := hid hC
     rw [hC]
     have HB2 := hid (HBD.out.trans (b1.mono HBD.out.size))
     have HH2 := hid (show u.cell? ⟨w.heap.size, 5, none⟩ = some (.slice a2 n2 c2) from (b1.cell (p := ⟨w.heap.size, 5, none⟩) (World.block_lt_of_cell? v0 _ HKD.out)).trans HKD.out)
     clear b1 hC
     go_wp2_with fail
     clear hHeld
     refine hK.out _ _ HH2.out (fun hHeld => ?_)
     clear hK KP
     try simp only [Act.put, List.setIfInBounds_toArray, List.set_cons_succ, List.set_cons_zero]
     by_cases hCn : C = n2
     · have hq : ((C : Int) == (n2 : Int)) = true := by simpa using (show (C : Int) = n2 by omega)
       have HF := hid (show V = true by rw [HV.out, decide_eq_true hle, ← countP_all13, HC.out, HL.out, decide_eq_true hCn]; rfl)
       clear hCn
       refine anyK_take2 (i := 11) (v := ?v11_34) rfl (by kernel_rfl) (by kernel_rfl) (by kernel_rfl) (by rfl) (fun _ _ _ h => h) (by rfl) hHeld ?hy11_34 (some 14) (by rfl) ?rest11_34
       case hy11_34 => (intro W hSw; obtain x0 := hSw; go_simp; (try with_reducible rfl))
       try simp only [Act.put, List.setIfInBounds_toArray, List.set_cons_succ, List.set_cons_zero]
       refine anyK_take2 (i := 12) (v := ?v12_35) rfl (by kernel_rfl) (by kernel_rfl) (by kernel_rfl) (by rfl) (fun _ _ _ h => h) (by rfl) hHeld ?hy12_35 (some 15) (by rfl) ?rest12_35
       case hy12_35 => (intro W hSw; obtain x0 := hSw; go_simp; (try with_reducible rfl))
       try simp only [Act.put, List.setIfInBounds_toArray, List.set_cons_succ, List.set_cons_zero]
       refine anyK_take2 (i := 13) (v := ?v13_36) rfl (by kernel_rfl) (by kernel_rfl) (by kernel_rfl) (by rfl) (fun _ _ _ h => h) (by rfl) hHeld ?hy13_36 (some 2) (by rfl) ?rest13_36
       case hy13_36 => (intro W hSw; obtain x0 := hSw; go_simp; (try with_reducible rfl))
       try simp only [Act.put, List.setIfInBounds_toArray, List.set_cons_succ, List.set_cons_zero]
       refine anyK_done (by kernel_rfl) ?_ _
       clear hHeld
       go_wp2_with fail
       go_ret
       exact ⟨by rw [HF.out]; rfl, HB2.out⟩
     · have hq : ((C : Int) == (n2 : Int)) = false := by simpa using (show ¬ (C : Int) = n2 by omega)
       have HF := hid (show V = false by rw [HV.out, decide_eq_true hle, ← countP_all13, HC.out, HL.out, decide_eq_false hCn]; rfl)
       clear hCn
       refine anyK_take2 (i := 11) (v := ?v11_37) rfl (by kernel_rfl) (by kernel_rfl) (by kernel_rfl) (by rfl) (fun _ _ _ h => h) (by rfl) hHeld ?hy11_37 (some 14) (by rfl) ?rest11_37
       case hy11_37 => (intro W hSw; obtain x0 := hSw; go_simp; (try with_reducible rfl))
       try simp only [Act.put, List.setIfInBounds_toArray, List.set_cons_succ, List.set_cons_zero]
       refine anyK_take2 (i := 12) (v := ?v12_38) rfl (by kernel_rfl) (by kernel_rfl) (by kernel_rfl) (by rfl) (fun _ _ _ h => h) (by rfl) hHeld ?hy12_38 (some 15) (by rfl) ?rest12_38
       case hy12_38 => (intro W hSw; obtain x0 := hSw; go_simp; (try with_reducible rfl))
       try simp only [Act.put, List.setIfInBounds_toArray, List.set_cons_succ, List.set_cons_zero]
       refine anyK_take2 (i := 13) (v := ?v13_39) rfl (by kernel_rfl) (by kernel_rfl) (by kernel_rfl) (by rfl) (fun _ _ _ h => h) (by rfl) hHeld ?hy13_39 (some 2) (by rfl) ?rest13_39
       case hy13_39 => (intro W hSw; obtain x0 := hSw; go_simp; (try with_reducible rfl))
       try simp only [Act.put, List.setIfInBounds_toArray, List.set_cons_succ, List.set_cons_zero]
       refine anyK_done (by kernel_rfl) ?_ _
       clear hHeld
       go_wp2_with fail
       go_ret
       exact ⟨by rw [HF.out]; rfl, HB2.out⟩
   · have hle' : ¬ (n2 : Int) ≤ 200 := by omega
     have hle2 : decide ((n2 : Int) ≤ 200) = false := decide_eq_false hle'
     have HF := hid (show V = false by rw [HV.out, decide_eq_false hle, Bool.false_and])
     have HKD := hid (show (w.alloc (.cells #[.int .i64 xi, .int .i64 be, .int .i64 en, .bool al, y, .slice a2 n2 c2, .bool inn, .bool ou] 52)).drew.cell? ⟨w.heap.size, 5, none⟩ = some (.slice a2 n2 c2) from HK.out)
     have HBD := hid (HB.out.trans (((Still.drew (w.alloc (.cells #[.int .i64 xi, .int .i64 be, .int .i64 en, .bool al, y, .slice a2 n2 c2, .bool inn, .bool ou] 52))).below _).mono HB.out.size))
     go_enter Tryz.func97, Tryz.ntmps97
     go_wp2
     refine region_K 99 (fun W => W.cell? ⟨w.heap.size, 5, none⟩ = some (.slice a2 n2 c2)) (by kernel_rfl) ?_ (fun hHeld => ?_)
     · exact HKD.out
     generalize (w.alloc (.cells #[.int .i64 xi, .int .i64 be, .int .i64 en, .bool al, y, .slice a2 n2 c2, .bool inn, .bool ou] 52)).drew = v0 at *
     refine anyK_take2 (i := 0) (v := ?v0_40) rfl (by kernel_rfl) (by kernel_rfl) (by kernel_rfl) (by rfl) (fun _ _ _ h => h) (by rfl) hHeld ?hy0_40 (some 3) (by rfl) ?rest0_40
     case hy0_40 => (intro W hSw; obtain x0 := hSw; go_simp; (try with_reducible rfl))
     try simp only [Act.put, List.setIfInBounds_toArray, List.set_cons_succ, List.set_cons_zero]
     refine anyK_take2 (i := 1) (v := ?v1_41) rfl (by kernel_rfl) (by kernel_rfl) (by kernel_rfl) (by rfl) (fun _ _ _ h => h) (by rfl) hHeld ?hy1_41 (some 4) (by rfl) ?rest1_41
     case hy1_41 => (intro W hSw; obtain x0 := hSw; go_simp; (try with_reducible rfl))
     try simp only [Act.put, List.setIfInBounds_toArray, List.set_cons_succ, List.set_cons_zero]
     refine anyK_take2 (i := 2) (v := ?v2_42) rfl (by kernel_rfl) (by kernel_rfl) (by kernel_rfl) (by rfl) (fun _ _ _ h => h) (by rfl) hHeld ?hy2_42 (some 5) (by rfl) ?rest2_42
     case hy2_42 => (intro W hSw; obtain x0 := hSw; go_simp; (try with_reducible rfl))
     try simp only [Act.put, List.setIfInBounds_toArray, List.set_cons_succ, List.set_cons_zero]
     refine anyK_take2 (i := 3) (v := ?v3_43) rfl (by kernel_rfl) (by kernel_rfl) (by kernel_rfl) (by rfl) (fun _ _ _ h => h) (by rfl) hHeld ?hy3_43 (some 6) (by rfl) ?rest3_43
     case hy3_43 => (intro W hSw; obtain x0 := hSw; go_simp; (try with_reducible rfl))
     try simp only [Act.put, List.setIfInBounds_toArray, List.set_cons_succ, List.set_cons_zero]
     refine anyK_take2 (i := 4) (v := ?v4_44) rfl (by kernel_rfl) (by kernel_rfl) (by kernel_rfl) (by rfl) (fun _ _ _ h => h) (by rfl) hHeld ?hy4_44 (some 7) (by rfl) ?rest4_44
     case hy4_44 => (intro W hSw; obtain x0 := hSw; go_simp; (try with_reducible rfl))
     try simp only [Act.put, List.setIfInBounds_toArray, List.set_cons_succ, List.set_cons_zero]
     refine anyK_skip (i := 5) rfl (by kernel_rfl) (by kernel_rfl) (by kernel_rfl) (by kernel_rfl) (fun _ _ _ h => h) (by rfl) hHeld (some 8) (by rfl) ?_
     try simp only [Act.put, List.setIfInBounds_toArray, List.set_cons_succ, List.set_cons_zero]
     refine anyK_skip (i := 6) rfl (by kernel_rfl) (by kernel_rfl) (by kernel_rfl) (by kernel_rfl) (fun _ _ _ h => h) (by rfl) hHeld (some 9) (by rfl) ?_
     try simp only [Act.put, List.setIfInBounds_toArray, List.set_cons_succ, List.set_cons_zero]
     refine anyK_skip (i := 7) rfl (by kernel_rfl) (by kernel_rfl) (by kernel_rfl) (by kernel_rfl) (fun _ _ _ h => h) (by rfl) hHeld (some 10) (by rfl) ?_
     try simp only [Act.put, List.setIfInBounds_toArray, List.set_cons_succ, List.set_cons_zero]
     refine anyK_skip (i := 8) rfl (by kernel_rfl) (by kernel_rfl) (by kernel_rfl) (by kernel_rfl) (fun _ _ _ h => h) (by rfl) hHeld (some 11) (by rfl) ?_
     try simp only [Act.put, List.setIfInBounds_toArray, List.set_cons_succ, List.set_cons_zero]
     refine anyK_skip (i := 9) rfl (by kernel_rfl) (by kernel_rfl) (by kernel_rfl) (by kernel_rfl) (fun _ _ _ h => h) (by rfl) hHeld (some 12) (by rfl) ?_
     try simp only [Act.put, List.setIfInBounds_toArray, List.set_cons_succ, List.set_cons_zero]
     refine anyK_skip (i := 10) rfl (by kernel_rfl) (by kernel_rfl) (by kernel_rfl) (by kernel_rfl) (fun _ _ _ h => h) (by rfl) hHeld (some 13) (by rfl) ?_
     try simp only [Act.put, List.setIfInBounds_toArray, List.set_cons_succ, List.set_cons_zero]
     refine anyK_skip (i := 11) rfl (by kernel_rfl) (by kernel_rfl) (by kernel_rfl) (by kernel_rfl) (fun _ _ _ h => h) (by rfl) hHeld (some 14) (by rfl) ?_
     try simp only [Act.put, List.setIfInBounds_toArray, List.set_cons_succ, List.set_cons_zero]
     refine anyK_take2 (i := 12) (v := ?v12_45) rfl (by kernel_rfl) (by kernel_rfl) (by kernel_rfl) (by rfl) (fun _ _ _ h => h) (by rfl) hHeld ?hy12_45 (some 15) (by rfl) ?rest12_45
     case hy12_45 => (intro W hSw; obtain x0 := hSw; go_simp; (try with_reducible rfl))
     try simp only [Act.put, List.setIfInBounds_toArray, List.set_cons_succ, List.set_cons_zero]
     refine anyK_take2 (i := 13) (v := ?v13_46) rfl (by kernel_rfl) (by kernel_rfl) (by kernel_rfl) (by rfl) (fun _ _ _ h => h) (by rfl) hHeld ?hy13_46 (some 2) (by rfl) ?rest13_46
     case hy13_46 => (intro W hSw; obtain x0 := hSw; go_simp; (try with_reducible rfl))
     try simp only [Act.put, List.setIfInBounds_toArray, List.set_cons_succ, List.set_cons_zero]
     refine anyK_done (by kernel_rfl) ?_ _
     clear hHeld
     go_wp2_with fail
     go_ret
     exact ⟨by rw [HF.out]; rfl, HBD.out⟩
end Go.Proofs.YtnhlfkffllbpiaaGreat
