/- The contracts of the specification's l13items and l13spans. Conditions: at most 100000 of them, texts of at most 2^21 bytes. -/
import Derived.Test.YtnhlfkffllbpiaaGreatEf13
import Derived.Test.YtnhlfkffllbpiaaGreatIc
namespace Go.Proofs.YtnhlfkffllbpiaaGreat
open Go.RowKit
set_option maxRecDepth 100000
set_option maxHeartbeats 6400000 in
theorem spec_l13items {ad : Option Addr} {n : Nat} (cap : Nat) {es : List Im} {w : World} (h : ReadsM w ad es) (hl : es.length = n) (hn : n ≤ 1048576) (hs : ∀ j, (es.getD j im0).Z.length ≤ 2097152) :
 Calls Tryz.prog 49 #[.slice ad n cap] w fun e w' => ∃ v, e = .returned v ∧ OwnM 33 4 w' w.heap.size w'.heap.size v n es ∧ Below w.heap.size w w' := by
 obtain ⟨i0, hi, hz0, hz1, hz2⟩ := info_parts Tryz.infoIm
 go_enter Tryz.func49, Tryz.ntmps49
 go_wp2_with fail
 go_loopw [3, 4] (fun s3 i wr => ∃ (k : Nat) (a : Option Addr) (c : Nat), k ≤ n ∧ i = .int .i64 k ∧ s3 = .slice a k c ∧ Hid (OwnM 33 4 wr w.heap.size wr.heap.size (.slice a k c) k (es.take k)) ∧ Hid (Below w.heap.size w wr)) (fun _ i _ => n - (intOf i).toNat)
 case atStart => exact ⟨0, none, 0, Nat.zero_le _, rfl, rfl, hid (OwnM.nil _ _ _ _ _), hid (Below.refl _ _)⟩
 case round =>
  obtain ⟨k, a, c, hk, rfl, rfl, HO, HB⟩ := hrel
  by_cases hlt : k < n
  · have hlt' : (k : Int) < (n : Int) := by omega
    have hk0 : (0 : Int) ≤ (k : Int) := by omega
    obtain ⟨b, off, p1, c1, rfl, bx0, r0, hnil, _, hf⟩ := h.at (k := k) (by omega)
    have bx := bx0.below HB.out (Nat.le_refl _)
    have R0 := hid (r0.below HB.out (Nat.le_refl _))
    have hz := hs k
    have HT := hid (take_snocI es k (by omega))
    have HBD := hid r0.bd
    have HNil := hid hnil
    have HF := hid hf
    generalize es.getD k im0 = e at *
    obtain ⟨K, N, F, Z⟩ := e
    obtain ⟨m, hm⟩ : ∃ m, Z.length = m := ⟨_, rfl⟩
    simp only at bx R0 hz HBD HF
    rw [hm] at bx R0 hz
    have HM := hid hm
    have hst := fun w a m => run_store Tryz.prog w a (.float .f64 F) m rfl
    obtain ⟨x0, x1, x2, x3⟩ := bx
    clear bx0 r0 hm hf hnil
    go_wp2_with fail
    clear x0 x1 x2 x3
    refine (spec_l3copy K N F c1 HNil.out R0.out hz).mono ?_
    rintro e w1 ⟨v, rfl, o1, b1⟩
    obtain ⟨pv, cv, rfl⟩ := own_sl o1
    have hsz := HB.out.size
    have hs1 := b1.size
    have oM := HO.out.below b1 (Nat.le_refl _)
    have bA := Below.alloc1 w1 (.cells #[.int .i64 K, .int .i64 N, .float .f64 F, .slice pv m cv] 33)
    have zA := alloc_size w1 (.cells #[.int .i64 K, .int .i64 N, .float .f64 F, .slice pv m cv] 33)
    have HN := hid (heap_alloc_new w1 (.cells #[.int .i64 K, .int .i64 N, .float .f64 F, .slice pv m cv] 33))
    obtain ⟨xs, oR, oB⟩ := (oM.below bA (by omega)).own
    have oT := owns_below bA (Nat.le_refl _) o1
    have HOR := hid oR
    have HOB := hid oB
    have HOT := hid oT
    have HFL := hid oM.fl
    have HLN := hid oM.len
    have HBA := hid ((HB.out.trans (b1.mono hsz)).trans (bA.mono (by omega)))
    have HSS := hid (show w.heap.size ≤ wr.heap.size ∧ wr.heap.size ≤ w1.heap.size ∧ (w1.alloc (.cells #[.int .i64 K, .int .i64 N, .float .f64 F, .slice pv m cv] 33)).heap.size = w1.heap.size + 1 from ⟨hsz, hs1, zA⟩)
    clear oM bA zA oR oB oT o1 b1 hsz hs1 HO
    go_wp2_with (at_builtin; refine wpList_append_row rfl _ _ 50 rfl w.heap.size 33 i0 (.agg #[.int .i64 0, .int .i64 0, .float .f64 0, .slice none 0 0]) 4 48 Tryz.underlying50 hi hz0 hz1 hz2 rfl (by decide) _ k (cellsI (es.take k) xs) rfl HOR.out (some ⟨w1.heap.size, 0, none⟩) 1 1 [.int .i64 K, .int .i64 N, .float .f64 F, .slice pv m cv] rfl rfl (.inr ⟨_, rfl, World.news_of_block HN.out⟩) (fun e => by cases e) ?m1 ?m2 ?m3 ?m4 ?_)
    case m1 => intro z hz; simp only [List.mem_cons, List.not_mem_nil, or_false] at hz; rcases hz with rfl | rfl | rfl | rfl <;> rfl
    case m2 => unfold maxLen; omega
    case m3 => omega
    case m4 => have := HSS.out; omega
    intro a2 c2 w5 o5 g5
    have N1 := hid (show OwnM 33 4 w5 w.heap.size w5.heap.size (.slice a2 (k + 1) c2) (k + 1) (es.take (k + 1)) by
     rw [HT.out]
     exact OwnM.push (mid := wr.heap.size) HOR.out HLN.out HOB.out HFL.out HSS.out.1 (by have := HSS.out; omega) (by decide) (fs := [⟨K, N, F, Z⟩]) (ys := [.slice pv m cv]) (Bands.one (by simp only [HM.out]; exact HOT.out) HBD.out (Nat.le_refl _)) rfl (fun i => by
      cases i with
      | zero => exact HF.out
      | succ i => simp [im0]) o5 g5)
    have N2 := hid (HBA.out.grown g5 (by have := HBA.out.size; omega) (fun r e => (HOR.out.lt r e).1))
    clear o5 g5 HOR HOB HOT HN HSS HBA
    go_wp2_with fail
    go_roundw
    case rel => exact ⟨k + 1, a2, c2, by omega, by go_num, rfl, N1, N2⟩
    case measure => simp [intOf]; omega
  · have hlt' : ¬ (k : Int) < (n : Int) := by omega
    have hkn : k = n := by omega
    subst hkn
    go_wp2_with fail
    go_ret
    have e1 := HO.out
    rw [List.take_of_length_le (by omega)] at e1
    exact ⟨_, rfl, e1, HB.out⟩
set_option maxHeartbeats 6400000 in
theorem spec_l13spans {ad : Option Addr} {n : Nat} (cap : Nat) {es : List Im} {w : World} (h : ReadsM w ad es) (hl : es.length = n * 2) (hn : n ≤ 1048576) (hs : ∀ j, (es.getD j im0).Z.length ≤ 2097152) :
 Calls Tryz.prog 48 #[.slice ad n cap] w fun e w' => ∃ v, e = .returned v ∧ OwnM 78 8 w' w.heap.size w'.heap.size v n es ∧ Below w.heap.size w w' := by
 obtain ⟨i0, hi, hz0, hz1, hz2⟩ := info_parts Tryz.infoSp
 go_enter Tryz.func48, Tryz.ntmps48
 go_wp2_with fail
 go_loopw [3, 4] (fun s3 i wr => ∃ (k : Nat) (a : Option Addr) (c : Nat), k ≤ n ∧ i = .int .i64 k ∧ s3 = .slice a k c ∧ Hid (OwnM 78 8 wr w.heap.size wr.heap.size (.slice a k c) k (es.take (k * 2))) ∧ Hid (Below w.heap.size w wr)) (fun _ i _ => n - (intOf i).toNat)
 case atStart => exact ⟨0, none, 0, Nat.zero_le _, rfl, rfl, hid (OwnM.nil _ _ _ _ _), hid (Below.refl _ _)⟩
 case round =>
  obtain ⟨k, a, c, hk, rfl, rfl, HO, HB⟩ := hrel
  by_cases hlt : k < n
  · have hlt' : (k : Int) < (n : Int) := by omega
    have hk0 : (0 : Int) ≤ (k : Int) := by omega
    obtain ⟨b, off, p1, c1, rfl, bx0, r0, hnil, _, hf⟩ := h.at (k := k * 2) (by omega)
    obtain ⟨b', off', p2, c2, e', bx1, r1, hnil2, _, hf2⟩ := h.at (k := k * 2 + 1) (by omega)
    obtain ⟨rfl, rfl⟩ : b = b' ∧ off = off' := by simpa using e'
    have bD := (Still.drew wr).below wr.heap.size
    have hB2 := HB.out.trans (bD.mono HB.out.size)
    have bx := bx0.below hB2 (Nat.le_refl _)
    have by' := bx1.below hB2 (Nat.le_refl _)
    have R0 := hid (r0.below hB2 (Nat.le_refl _))
    have R1 := hid (r1.below hB2 (Nat.le_refl _))
    have hz := hs (k * 2)
    have hzb := hs (k * 2 + 1)
    have HT := hid (take_snocI2 es k (by omega))
    have HBD := hid (And.intro r0.bd r1.bd)
    have HNil := hid (And.intro hnil hnil2)
    have HF := hid (And.intro hf hf2)
    rw [show off + k * 2 * 4 = off + k * 8 by omega] at bx
    rw [show off + (k * 2 + 1) * 4 = off + k * 8 + 4 by omega] at by'
    generalize es.getD (k * 2) im0 = e at *
    generalize es.getD (k * 2 + 1) im0 = e2 at *
    obtain ⟨K, N, F, Z⟩ := e
    obtain ⟨K2, N2, F2, Z2⟩ := e2
    obtain ⟨m, hm⟩ : ∃ m, Z.length = m := ⟨_, rfl⟩
    obtain ⟨m2, hm2⟩ : ∃ m, Z2.length = m := ⟨_, rfl⟩
    simp only at bx by' R0 R1 hz hzb HBD HF
    rw [hm] at bx R0 hz
    rw [hm2] at by' R1 hzb
    have HM := hid hm
    have HM2 := hid hm2
    have hst := fun w a m => run_store Tryz.prog w a (.float .f64 F) m rfl
    have hst2 := fun w a m => run_store Tryz.prog w a (.float .f64 F2) m rfl
    have BX := hid bx
    have BY := hid by'
    have HOD := hid (HO.out.below bD (Nat.le_refl _))
    have HBL := hid bx0.lt
    have HS0 := hid hB2.size
    replace HB := hid hB2
    have HSD := hid (show wr.drew.heap.size = wr.heap.size from rfl)
    clear bx0 r0 bx1 r1 hm hm2 hf hf2 hnil hnil2 bx by' bD hB2 e' HO
    go_wp2
    refine region_K 99 (fun W => Box4 W b (off + k * 8) K N F (.slice p1 m c1) ∧ Box4 W b (off + k * 8 + 4) K2 N2 F2 (.slice p2 m2 c2)) (by kernel_rfl) ?_ (fun hHeld => ?_)
    · exact ⟨BX.out, BY.out⟩
    generalize wr.drew = v0 at *
    refine anyK_take2 (i := 0) (v := ?v0) rfl (by kernel_rfl) (by kernel_rfl) (by kernel_rfl) (by rfl) (fun _ _ _ h => h) (by rfl) hHeld ?hy0 (some 11) (by rfl) ?rest0
    case hy0 => (intro W hSw; obtain ⟨⟨x0, x1, x2, x3⟩, ⟨x4, x5, x6, x7⟩⟩ := hSw; go_simp; (try with_reducible rfl))
    try simp only [Act.put]
    try simp only [List.setIfInBounds_toArray]
    try simp only [List.set_cons_succ, List.set_cons_zero]
    refine anyK_take2 (i := 1) (v := ?v1) rfl (by kernel_rfl) (by kernel_rfl) (by kernel_rfl) (by rfl) (fun _ _ _ h => h) (by rfl) hHeld ?hy1 (some 12) (by rfl) ?rest1
    case hy1 => (intro W hSw; obtain ⟨⟨x0, x1, x2, x3⟩, ⟨x4, x5, x6, x7⟩⟩ := hSw; go_simp; (try with_reducible rfl))
    try simp only [Act.put]
    try simp only [List.setIfInBounds_toArray]
    try simp only [List.set_cons_succ, List.set_cons_zero]
    refine anyK_take2 (i := 2) (v := ?v2) rfl (by kernel_rfl) (by kernel_rfl) (by kernel_rfl) (by rfl) (fun _ _ _ h => h) (by rfl) hHeld ?hy2 (some 13) (by rfl) ?rest2
    case hy2 => (intro W hSw; obtain ⟨⟨x0, x1, x2, x3⟩, ⟨x4, x5, x6, x7⟩⟩ := hSw; go_simp; (try with_reducible rfl))
    try simp only [Act.put]
    try simp only [List.setIfInBounds_toArray]
    try simp only [List.set_cons_succ, List.set_cons_zero]
    refine anyK_take2 (i := 3) (v := ?v3) rfl (by kernel_rfl) (by kernel_rfl) (by kernel_rfl) (by rfl) (fun _ _ _ h => h) (by rfl) hHeld ?hy3 (some 14) (by rfl) ?rest3
    case hy3 => (intro W hSw; obtain ⟨⟨x0, x1, x2, x3⟩, ⟨x4, x5, x6, x7⟩⟩ := hSw; go_simp; (try with_reducible rfl))
    try simp only [Act.put]
    try simp only [List.setIfInBounds_toArray]
    try simp only [List.set_cons_succ, List.set_cons_zero]
    refine anyK_take2 (i := 4) (v := ?v4) rfl (by kernel_rfl) (by kernel_rfl) (by kernel_rfl) (by rfl) (fun _ _ _ h => h) (by rfl) hHeld ?hy4 (some 15) (by rfl) ?rest4
    case hy4 => (intro W hSw; obtain ⟨⟨x0, x1, x2, x3⟩, ⟨x4, x5, x6, x7⟩⟩ := hSw; go_simp; (try with_reducible rfl))
    try simp only [Act.put]
    try simp only [List.setIfInBounds_toArray]
    try simp only [List.set_cons_succ, List.set_cons_zero]
    refine anyK_take2 (i := 5) (v := ?v5) rfl (by kernel_rfl) (by kernel_rfl) (by kernel_rfl) (by rfl) (fun _ _ _ h => h) (by rfl) hHeld ?hy5 (some 16) (by rfl) ?rest5
    case hy5 => (intro W hSw; obtain ⟨⟨x0, x1, x2, x3⟩, ⟨x4, x5, x6, x7⟩⟩ := hSw; go_simp; (try with_reducible rfl))
    try simp only [Act.put]
    try simp only [List.setIfInBounds_toArray]
    try simp only [List.set_cons_succ, List.set_cons_zero]
    refine anyK_take2 (i := 7) (v := ?v7) rfl (by kernel_rfl) (by kernel_rfl) (by kernel_rfl) (by rfl) (fun _ _ _ h => h) (by rfl) hHeld ?hy7 (some 18) (by rfl) ?rest7
    case hy7 => (intro W hSw; obtain ⟨⟨x0, x1, x2, x3⟩, ⟨x4, x5, x6, x7⟩⟩ := hSw; go_simp; (try with_reducible rfl))
    try simp only [Act.put]
    try simp only [List.setIfInBounds_toArray]
    try simp only [List.set_cons_succ, List.set_cons_zero]
    refine anyK_take2 (i := 8) (v := ?v8) rfl (by kernel_rfl) (by kernel_rfl) (by kernel_rfl) (by rfl) (fun _ _ _ h => h) (by rfl) hHeld ?hy8 (some 19) (by rfl) ?rest8
    case hy8 => (intro W hSw; obtain ⟨⟨x0, x1, x2, x3⟩, ⟨x4, x5, x6, x7⟩⟩ := hSw; go_simp; (try with_reducible rfl))
    try simp only [Act.put]
    try simp only [List.setIfInBounds_toArray]
    try simp only [List.set_cons_succ, List.set_cons_zero]
    refine anyK_take2 (i := 9) (v := ?v9) rfl (by kernel_rfl) (by kernel_rfl) (by kernel_rfl) (by rfl) (fun _ _ _ h => h) (by rfl) hHeld ?hy9 (some 20) (by rfl) ?rest9
    case hy9 => (intro W hSw; obtain ⟨⟨x0, x1, x2, x3⟩, ⟨x4, x5, x6, x7⟩⟩ := hSw; go_simp; (try with_reducible rfl))
    try simp only [Act.put]
    try simp only [List.setIfInBounds_toArray]
    try simp only [List.set_cons_succ, List.set_cons_zero]
    refine anyK_take2 (i := 10) (v := ?v10) rfl (by kernel_rfl) (by kernel_rfl) (by kernel_rfl) (by rfl) (fun _ _ _ h => h) (by rfl) hHeld ?hy10 (some 21) (by rfl) ?rest10
    case hy10 => (intro W hSw; obtain ⟨⟨x0, x1, x2, x3⟩, ⟨x4, x5, x6, x7⟩⟩ := hSw; go_simp; (try with_reducible rfl))
    try simp only [Act.put]
    try simp only [List.setIfInBounds_toArray]
    try simp only [List.set_cons_succ, List.set_cons_zero]
    refine anyK_take2 (i := 11) (v := ?v11) rfl (by kernel_rfl) (by kernel_rfl) (by kernel_rfl) (by rfl) (fun _ _ _ h => h) (by rfl) hHeld ?hy11 (some 22) (by rfl) ?rest11
    case hy11 => (intro W hSw; obtain ⟨⟨x0, x1, x2, x3⟩, ⟨x4, x5, x6, x7⟩⟩ := hSw; go_simp; (try with_reducible rfl))
    try simp only [Act.put]
    try simp only [List.setIfInBounds_toArray]
    try simp only [List.set_cons_succ, List.set_cons_zero]
    refine anyK_step (i := 6) (by kernel_rfl) rfl (fun KP hK => ?_)
    go_simp
    refine (spec_l3copy K N F c1 HNil.out.1 R0.out hz).mono ?_
    rintro e w1 ⟨v, rfl, o1, b1⟩
    obtain ⟨pv, cv, rfl⟩ := own_sl o1
    have HO1 := hid o1
    have ht1 := hid (fun g e => (o1.lt g e).2)
    have HOM := hid (HOD.out.below b1 (by have := HSD.out; omega))
    replace HB := hid (HB.out.trans (b1.mono HB.out.size))
    replace R1 := hid (R1.out.below b1 (Nat.le_refl _))
    replace BX := hid (BX.out.below b1 (Nat.le_refl _))
    replace BY := hid (BY.out.below b1 (Nat.le_refl _))
    have HS1 := hid b1.size
    clear o1 b1 HOD
    go_wp2_with fail
    clear hHeld
    refine hK.out _ _ ⟨BX.out, BY.out⟩ (fun hHeld => ?_)
    clear hK KP
    try simp only [Act.put]
    try simp only [List.setIfInBounds_toArray]
    try simp only [List.set_cons_succ, List.set_cons_zero]
    refine anyK_step (i := 12) (by kernel_rfl) rfl (fun KP hK => ?_)
    go_simp
    refine (spec_l3copy K2 N2 F2 c2 HNil.out.2 R1.out hzb).mono ?_
    rintro e w2 ⟨v, rfl, o2, b2⟩
    obtain ⟨pv2, cv2, rfl⟩ := own_sl o2
    have HO2 := hid o2
    replace HO1 := hid (owns_below b2 (Nat.le_refl _) HO1.out)
    replace HOM := hid (HOM.out.below b2 (by have := HS1.out; have := HSD.out; omega))
    replace HB := hid (HB.out.trans (b2.mono HB.out.size))
    replace BX := hid (BX.out.below b2 (Nat.le_refl _))
    replace BY := hid (BY.out.below b2 (Nat.le_refl _))
    have HS2 := hid b2.size
    clear o2 b2
    go_wp2_with fail
    clear hHeld
    refine hK.out _ _ ⟨BX.out, BY.out⟩ (fun hHeld => ?_)
    clear hK KP
    try simp only [Act.put]
    try simp only [List.setIfInBounds_toArray]
    try simp only [List.set_cons_succ, List.set_cons_zero]
    refine anyK_take2 (i := 13) (v := ?v13) rfl (by kernel_rfl) (by kernel_rfl) (by kernel_rfl) (by rfl) (fun _ _ _ h => h) (by rfl) hHeld ?hy13 (some 24) (by rfl) ?rest13
    case hy13 => (intro W hSw; obtain ⟨⟨x0, x1, x2, x3⟩, ⟨x4, x5, x6, x7⟩⟩ := hSw; go_simp; (try with_reducible rfl))
    try simp only [Act.put]
    try simp only [List.setIfInBounds_toArray]
    try simp only [List.set_cons_succ, List.set_cons_zero]
    refine anyK_step (i := 14) (by kernel_rfl) rfl (fun KP hK => ?_)
    go_simp
    have bA := Below.alloc1 w2 (.cells #[.int .i64 K, .int .i64 N, .float .f64 F, .slice pv m cv, .int .i64 K2, .int .i64 N2, .float .f64 F2, .slice pv2 m2 cv2] 78)
    have zA := alloc_size w2 (.cells #[.int .i64 K, .int .i64 N, .float .f64 F, .slice pv m cv, .int .i64 K2, .int .i64 N2, .float .f64 F2, .slice pv2 m2 cv2] 78)
    have HN := hid (heap_alloc_new w2 (.cells #[.int .i64 K, .int .i64 N, .float .f64 F, .slice pv m cv, .int .i64 K2, .int .i64 N2, .float .f64 F2, .slice pv2 m2 cv2] 78))
    have q1 := BX.out.below bA (Nat.le_refl _)
    have q2 := BY.out.below bA (Nat.le_refl _)
    have HQ := hid (And.intro q1 q2)
    have hss := And.intro HS1.out (And.intro HS2.out HSD.out)
    obtain ⟨xs, oR, oB⟩ := (HOM.out.below bA (by omega)).own
    have HOR := hid oR
    have HOB := hid oB
    have HO1 := hid (owns_below bA (by omega) HO1.out)
    have HO2 := hid (owns_below bA (by omega) HO2.out)
    have HFL := hid HOM.out.fl
    have HLN := hid HOM.out.len
    have HBA := hid (HB.out.trans (bA.mono HB.out.size))
    have HSS := hid (show w.heap.size ≤ v0.heap.size ∧ v0.heap.size ≤ w1.heap.size ∧ w1.heap.size ≤ w2.heap.size ∧ (w2.alloc (.cells #[.int .i64 K, .int .i64 N, .float .f64 F, .slice pv m cv, .int .i64 K2, .int .i64 N2, .float .f64 F2, .slice pv2 m2 cv2] 78)).heap.size = w2.heap.size + 1 ∧ v0.heap.size = wr.heap.size from ⟨HS0.out, HS1.out, HS2.out, zA, HSD.out⟩)
    clear bA zA oR oB q1 q2 hss HOM
    clear hHeld
    refine hK.out _ _ HQ.out (fun hHeld => ?_)
    clear hK KP
    try simp only [Act.put]
    try simp only [List.setIfInBounds_toArray]
    try simp only [List.set_cons_succ, List.set_cons_zero]
    refine anyK_step (i := 15) (by kernel_rfl) rfl (fun KP hK => ?_)
    refine step_append_row rfl _ _ 49 rfl w.heap.size 78 i0 (.agg #[.int .i64 0, .int .i64 0, .float .f64 0, .slice none 0 0, .int .i64 0, .int .i64 0, .float .f64 0, .slice none 0 0]) 8 96 Tryz.underlying49 hi hz0 hz1 hz2 rfl (by decide) _ k (cellsI (es.take (k * 2)) xs) rfl HOR.out (some ⟨w2.heap.size, 0, none⟩) 1 1 [.int .i64 K, .int .i64 N, .float .f64 F, .slice pv m cv, .int .i64 K2, .int .i64 N2, .float .f64 F2, .slice pv2 m2 cv2] rfl rfl (.inr ⟨_, rfl, World.news_of_block HN.out⟩) (fun e => by cases e) ?g2 (by unfold maxLen; omega) (by omega) HBA.out.size ?_
    case g2 => intro u hu; simp only [List.mem_cons, List.not_mem_nil, or_false] at hu; rcases hu with rfl | rfl | rfl | rfl | rfl | rfl | rfl | rfl <;> rfl
    intro a8 c8 w8 o8 g8
    have HN8 := hid (show OwnM 78 8 w8 w.heap.size w8.heap.size (.slice a8 (k + 1) c8) (k + 1) (es.take ((k + 1) * 2)) from by
     rw [HT.out]
     have hss := HSS.out
     have B1 : Bands (w2.alloc (.cells #[.int .i64 K, .int .i64 N, .float .f64 F, .slice pv m cv, .int .i64 K2, .int .i64 N2, .float .f64 F2, .slice pv2 m2 cv2] 78)) v0.heap.size w1.heap.size [.slice pv m cv] [Z] := Bands.one_top (by simp only [HM.out]; exact HO1.out) HBD.out.1 (fun g e => ht1.out g e)
     have B2 : Bands (w2.alloc (.cells #[.int .i64 K, .int .i64 N, .float .f64 F, .slice pv m cv, .int .i64 K2, .int .i64 N2, .float .f64 F2, .slice pv2 m2 cv2] 78)) w1.heap.size (w2.alloc (.cells #[.int .i64 K, .int .i64 N, .float .f64 F, .slice pv m cv, .int .i64 K2, .int .i64 N2, .float .f64 F2, .slice pv2 m2 cv2] 78)).heap.size [.slice pv2 m2 cv2] [Z2] := Bands.one (by simp only [HM2.out]; exact HO2.out) HBD.out.2 (Nat.le_refl _)
     have B3 := B1.append B2 (by omega) (by omega)
     exact OwnM.push (mid := wr.heap.size) HOR.out HLN.out HOB.out HFL.out (by omega) (by omega) (by decide) (fs := [⟨K, N, F, Z⟩, ⟨K2, N2, F2, Z2⟩]) (ys := [.slice pv m cv, .slice pv2 m2 cv2]) (by rw [← hss.2.2.2.2]; exact B3) rfl (fun i => by
      cases i with
      | zero => exact HF.out.1
      | succ i =>
       cases i with
       | zero => exact HF.out.2
       | succ i => simp [im0]) o8 g8)
    have HB8 := hid (show Below w.heap.size w w8 from HBA.out.grown g8 HBA.out.size (fun r hr => (HOR.out.lt r hr).1))
    have hbb : w8.heap[b]? = _ := g8.block b (by have := HQ.out.1.lt; exact this) (fun e => by have := (HOR.out.lt b e.symm).1; have := HBL.out; omega)
    have HX8 := hid (And.intro (HQ.out.1.agree hbb) (HQ.out.2.agree hbb))
    clear o8 g8 HOR hHeld hbb
    refine hK.out _ _ HX8.out (fun hHeld => ?_)
    clear hK KP
    try simp only [Act.put]
    try simp only [List.setIfInBounds_toArray]
    try simp only [List.set_cons_succ, List.set_cons_zero]
    refine anyK_take2 (i := 16) (v := ?v16) rfl (by kernel_rfl) (by kernel_rfl) (by kernel_rfl) (by rfl) (fun _ _ _ h => h) (by rfl) hHeld ?hy16 (some 3) (by rfl) ?rest16
    case hy16 => (intro W hSw; obtain ⟨⟨x0, x1, x2, x3⟩, ⟨x4, x5, x6, x7⟩⟩ := hSw; go_simp; (try with_reducible rfl))
    try simp only [Act.put]
    try simp only [List.setIfInBounds_toArray]
    try simp only [List.set_cons_succ, List.set_cons_zero]
    refine anyK_done (by kernel_rfl) ?_ _
    clear hHeld
    go_wp2_with fail
    go_roundw
    case rel => exact ⟨k + 1, a8, c8, by omega, by go_num, rfl, HN8, HB8⟩
    case measure => simp [intOf]; omega
  · have hlt' : ¬ (k : Int) < (n : Int) := by omega
    have hkn : k = n := by omega
    subst hkn
    go_wp2_with fail
    go_ret
    have e1 := HO.out
    rw [List.take_of_length_le (by omega)] at e1
    exact ⟨_, rfl, e1, HB.out⟩
end Go.Proofs.YtnhlfkffllbpiaaGreat