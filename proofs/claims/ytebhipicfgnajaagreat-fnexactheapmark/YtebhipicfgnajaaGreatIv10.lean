/- The contract of the specification's HeapMark. Conditions: what the types say. -/
import Derived.Test.YtebhipicfgnajaaGreatIu10
import Derived.Test.YtebhipicfgnajaaGreatIt10
import Derived.Test.YtebhipicfgnajaaGreatIn10
import Derived.Test.YtebhipicfgnajaaGreatPg
import Derived.Test.YtebhipicfgnajaaGreatMgc
namespace Go.Proofs.YtebhipicfgnajaaGreat
open Go.RowKit
set_option maxRecDepth 100000

set_option maxHeartbeats 51200000 in
theorem spec_HeapMark {ad : Option Addr} {n : Nat} (cap : Nat) {ps : List Pg} {w : World} (h : ReadsG w ad ps) (hl : ps.length = n) (x y b lsn : Int) :
    Calls Tryz.prog 51 #[.agg #[.slice ad n cap], .int .i64 x, .int .i64 y, .int .i64 b, .int .i64 lsn] w fun e w' => AnsH (markHp ps x y b lsn) (markOk ps x y b lsn) w e w' := by
  obtain ⟨R1, R2, z⟩ := two_rows w (.cells #[.slice ad n cap] 26) (.cells #[.slice none 0 0] 26)
  have hB := two w (.cells #[.slice ad n cap] 26) (.cells #[.slice none 0 0] 26)
  have HB := hid hB
  have HR := hid (h.below hB (Nat.le_refl _))
  have Q1 := hid R1
  have Q2 := hid R2
  have ZW := hid z
  have HBS := hid (slotH_bytes h x y)
  have c0 : ((w.alloc (.cells #[.slice ad n cap] 26)).alloc (.cells #[.slice none 0 0] 26)).cell? ⟨w.heap.size, 0, none⟩ = some (.slice ad n cap) := cell_of_row _ _ 0 _ _ _ R1
  clear h hB R1 R2 z
  go_enter Tryz.func51, Tryz.ntmps51
  go_wp2_with fail
  generalize (w.alloc (.cells #[.slice ad n cap] 26)).alloc (.cells #[.slice none 0 0] 26) = W0 at *
  refine (spec_HeapAt cap HR.out hl x y).mono ?_
  rintro e w5 ⟨⟨f1, v1, f2, v2, rfl, hf1, hf2, sf1, sf2, o1, o2, hap, b5⟩⟩
  obtain ⟨a1, c3, rfl⟩ := own_sl o1
  obtain ⟨a2, c4, rfl⟩ := own_sl o2
  have hst1 := fun w a m => run_store Tryz.prog w a (.float .f64 f1) m rfl
  have hst2 := fun w a m => run_store Tryz.prog w a (.float .f64 f2) m rfl
  have HOKD := hid (show markOk ps x y b lsn = ((atH ps x y).ok && decide (0 ≤ b ∧ b ≤ 400) && decide (1 ≤ lsn ∧ lsn ≤ 1000000)) from rfl)
  obtain ⟨T, hT⟩ : ∃ T, atH ps x y = T := ⟨_, rfl⟩
  have HAT := hid (fun (q : (atH ps x y).ok = true) => (⟨atH_ok q, atH_slot q, slotH_len q⟩ : (okH ps = true ∧ (0 ≤ x ∧ x ≤ (ps.length : Int) - 1) ∧ (0 ≤ y ∧ y ≤ ((ps.getD x.toNat pg0).2.length : Int) - 1)) ∧ (atH ps x y = readT (slotH ps x y) ∧ (readT (slotH ps x y)).ok = true) ∧ (slotH ps x y).length ≤ 92))
  have HMP := hid (fun (q : (atH ps x y).ok = true) (hb : 0 ≤ b ∧ b ≤ 400) (hl : 1 ≤ lsn ∧ lsn ≤ 1000000) => mark_page (ps := ps) (x := x) (y := y) (b := b) (lsn := lsn) q hb hl)
  rw [hT] at HOKD HAT HMP o1 o2 sf1 sf2 hap ⊢
  have HT := hid hT
  obtain ⟨q1, q2, q3, q4, TF, TZ, q5, q6, TG, TY, ok⟩ := T
  dsimp only at HOKD HAT HMP o1 o2 sf1 sf2 hap ⊢
  have hzl : ok = true → TZ.length ≤ 92 ∧ TY.length ≤ 92 := fun q => by
    have e := (HAT.out q).2.1.1
    have r := readT_len (slotH ps x y)
    rw [← e] at r
    have := (HAT.out q).2.2
    dsimp only at r
    omega
  have HZL := hid hzl
  obtain ⟨q7, hq7⟩ : ∃ q7, TZ.length = q7 := ⟨_, rfl⟩
  obtain ⟨q8, hq8⟩ : ∃ q8, TY.length = q8 := ⟨_, rfl⟩
  rw [hq7] at o1 hap ⊢
  rw [hq8] at o2 hap ⊢
  have HQ7 := hid hq7
  have HQ8 := hid hq8
  have O1 := hid o1
  have O2 := hid o2
  have bX := Below.alloc1 w5 (.cells #[.int .i64 q1, .int .i64 q2, .int .i64 q3, .int .i64 q4, .float .f64 f1, .slice a1 q7 c3, .int .i64 q5, .int .i64 q6, .float .f64 f2, .slice a2 q8 c4] 40)
  have b6 := b5.trans (bX.mono b5.size)
  have hzw := ZW.out
  have S1 := hid ((b6.block w.heap.size (by omega)).trans Q1.out)
  have S2 := hid ((b6.block (w.heap.size + 1) (by omega)).trans Q2.out)
  have HR6 := hid (HR.out.below b6 (Nat.le_refl _))
  have HB6 := hid (HB.out.trans (b6.mono HB.out.size))
  have HZ6 := hid (show w.heap.size + 2 ≤ w5.heap.size by have := b5.size; omega)
  have S15 := hid ((b5.block w.heap.size (by omega)).trans Q1.out)
  have S25 := hid ((b5.block (w.heap.size + 1) (by omega)).trans Q2.out)
  have HR50 := hid (HR.out.below b5 (Nat.le_refl _))
  have HB50 := hid (HB.out.trans (b5.mono HB.out.size))
  clear bX b5 b6 Q1 Q2 hzw c0 o1 o2 hT hzl hq7 hq8
  cases ok with
  | false =>
    have HNO := hid (show markOk ps x y b lsn = false by rw [HOKD.out]; rfl)
    go_wp2_with (refine wpList_store_row rfl 26 (.tmp 10) (.tmp 36) rfl (w.heap.size + 1) #[.slice none 0 0] rfl rfl 26 _ S2.out ?s1 ?s2 ?s3 ?_)
    case s1 => simpa using size_hp
    try (case s2 => rfl)
    case s3 => simp [Value.oneCell']
    refine bodyPost_ret (results_cell_tmp Tryz.results51 _ _ (w.heap.size + 1) 26 #[.slice none 0 0] (0, 0) _ rfl (setRow_heap _ _ _ _ _ _ S2.out) Tryz.underlying26 rfl size_hp) rfl ?_
    rw [HNO.out, markH_no HNO.out]
    exact AnsH.zero rfl (below_setRow HB6.out (by omega) _)
  | true =>
    by_cases hbb : 0 ≤ b ∧ b ≤ 400
    · have HBB := hid hbb
      by_cases hll : 1 ≤ lsn ∧ lsn ≤ 1000000
      · have HLL := hid hll
        obtain ⟨⟨hok, hx, hy⟩, ⟨hsl, hso⟩, hsn⟩ := HAT.out rfl
        obtain ⟨q, rfl⟩ : ∃ q : Nat, x = q := ⟨x.toNat, by omega⟩
        have hqn : q < n := by omega
        have mb := mark_bytes (f1 := f1) (f2 := f2) hso HBS.out (by rw [← hsl]; exact sf1.out) (by rw [← hsl]; exact sf2.out) hbb
        rw [← hsl] at mb
        dsimp only at mb
        rw [HQ7.out, HQ8.out] at mb
        obtain ⟨mb1, mb2, mb3, mb4⟩ := mb
        have hzl := HZL.out rfl
        rw [HQ7.out, HQ8.out] at hzl
        have hn16 : n ≤ 16 := by have := (okH_of hok).1; omega
        obtain ⟨MB, hMB⟩ : ∃ MB, markB (slotH ps q y) b = MB := ⟨_, rfl⟩
        obtain ⟨RL, RS, hRR⟩ : ∃ RL RS, putP (ps.getD q pg0).1 (ps.getD q pg0).2 y MB lsn = (RL, RS) := ⟨_, _, rfl⟩
        have hkk : putOk (ps.getD q pg0).1 (ps.getD q pg0).2 y MB lsn = true := by rw [← hMB]; have := HMP.out rfl hbb hll; rwa [Int.toNat_natCast] at this
        have HPO := hid (show markOk ps (q : Int) y b lsn = true by rw [HOKD.out, decide_eq_true hbb, decide_eq_true hll]; rfl)
        have HPH := hid (show markHp ps (q : Int) y b lsn = withH ps q (RL, RS) by unfold markHp; rw [HPO.out, if_pos rfl, Int.toNat_natCast, hMB, hRR])
        have b57 : Below w5.heap.size w5 (w5.alloc (.cells #[.int .i64 q1, .int .i64 b, .int .i64 q3, .int .i64 q4, .float .f64 f1, .slice a1 q7 c3, .int .i64 q5, .int .i64 q6, .float .f64 f2, .slice a2 q8 c4] 40)) := Below.alloc1 w5 _
        have RK0 := reads_of10 (O1.out) (by have := readT_bd (zs := slotH ps q y) HBS.out (by omega); rw [← hsl] at this; exact this.1)
        have RV0 := reads_of10 (O2.out) (by have := readT_bd (zs := slotH ps q y) HBS.out (by omega); rw [← hsl] at this; exact this.2.2.1)
        have hbd := bytesT_bd (A := q1) (B := b) (K := q3) (N := q4) (f := f1) (L := q5) (M := q6) (h := f2) RK0.bd RV0.bd RK0.len RV0.len
        rw [mb2, hMB] at hbd
        rw [hMB] at mb2
        have HBY := hid hbd
        have HMB := hid mb2
        have HRR := hid hRR
        have HKK := hid hkk
        have HOKH := hid hok
        have HTN := hid (show q7 ≤ 2097152 ∧ q8 ≤ 2097152 by omega)
        have HNM := hid (And.intro mb3 mb4)
        have HNI := hid (own_nil10 O1.out)
        have HNJ := hid (own_nil10 O2.out)
        have RK7 := hid (RK0.below b57 (Nat.le_refl _))
        have RV7 := hid (RV0.below b57 (Nat.le_refl _))
        have HR7 := hid (HR50.out.below b57 (Nat.le_refl _))
        have RW := heap_alloc_new w5 (.cells #[.int .i64 q1, .int .i64 q2, .int .i64 q3, .int .i64 q4, .float .f64 f1, .slice a1 q7 c3, .int .i64 q5, .int .i64 q6, .float .f64 f2, .slice a2 q8 c4] 40)
        have T7 := hid (BoxT.row (heap_alloc_new w5 (.cells #[.int .i64 q1, .int .i64 b, .int .i64 q3, .int .i64 q4, .float .f64 f1, .slice a1 q7 c3, .int .i64 q5, .int .i64 q6, .float .f64 f2, .slice a2 q8 c4] 40)))
        have g1 : (w5.alloc (.cells #[.int .i64 q1, .int .i64 q2, .int .i64 q3, .int .i64 q4, .float .f64 f1, .slice a1 q7 c3, .int .i64 q5, .int .i64 q6, .float .f64 f2, .slice a2 q8 c4] 40)).cell? ⟨w5.heap.size, 1, none⟩ = some (.int .i64 q2) := cell_of_row _ _ 1 _ _ _ RW
        have g2 : (w5.alloc (.cells #[.int .i64 q1, .int .i64 q2, .int .i64 q3, .int .i64 q4, .float .f64 f1, .slice a1 q7 c3, .int .i64 q5, .int .i64 q6, .float .f64 f2, .slice a2 q8 c4] 40)).frozen? ⟨w5.heap.size, 1, none⟩ = false := frozen_of_row _ _ _ _ _ RW
        have hz6 := HZ6.out
        have X1 : (w5.alloc (.cells #[.int .i64 q1, .int .i64 b, .int .i64 q3, .int .i64 q4, .float .f64 f1, .slice a1 q7 c3, .int .i64 q5, .int .i64 q6, .float .f64 f2, .slice a2 q8 c4] 40)).heap[w.heap.size]? = _ := (b57.block w.heap.size (by omega)).trans S15.out
        have c1 : (w5.alloc (.cells #[.int .i64 q1, .int .i64 b, .int .i64 q3, .int .i64 q4, .float .f64 f1, .slice a1 q7 c3, .int .i64 q5, .int .i64 q6, .float .f64 f2, .slice a2 q8 c4] 40)).cell? ⟨w.heap.size, 0, none⟩ = some (.slice ad n cap) := cell_of_row _ _ 0 _ _ _ X1
        have X2 := hid ((b57.block (w.heap.size + 1) (by omega)).trans S25.out)
        have HB57 := hid (HB50.out.trans (b57.mono HB50.out.size))
        have HS7 := hid b57.size
        have HX2 := hid (show w.heap.size + 1 < (w5.alloc (.cells #[.int .i64 q1, .int .i64 b, .int .i64 q3, .int .i64 q4, .float .f64 f1, .slice a1 q7 c3, .int .i64 q5, .int .i64 q6, .float .f64 f2, .slice a2 q8 c4] 40)).heap.size by have := b57.size; omega)
        clear hbb hll hok hx hy hsl hso hsn mb1 mb2 mb3 mb4 hzl hRR hkk hMB RK0 RV0 RW X1 b57 hbd HAT HMP HOKD HZL O1 O2 hap HR6 HB6 S1 S2 HT HBS HR50 S15 S25 HB50
        go_wp2_with fail
        refine (spec_inP _ _ _ _).mono ?_
        rintro e wz ⟨rfl, e1⟩
        subst wz
        rw [decide_eq_true HBB.out]
        go_wp2_with fail
        refine (spec_inP _ _ _ _).mono ?_
        rintro e wz ⟨rfl, e1⟩
        subst wz
        rw [decide_eq_true HLL.out]
        go_wp2_with fail
        clear g1 g2 c1
        refine (spec_l10copy cap HR7.out hl HOKH.out).mono ?_
        rintro e w6 ⟨ao, co, rfl, og, b6⟩
        obtain ⟨g, rfl, hgl, hgu⟩ := og.block hl (by omega)
        have bX := Below.alloc1 w6 (.cells #[.slice (some ⟨g, 0, none⟩) n co] 26)
        have bV := b6.trans (bX.mono b6.size)
        have BOX := hid (Boxed.new w6 26 (.slice (some ⟨g, 0, none⟩) n co))
        have RK := hid (RK7.out.below bV (Nat.le_refl _))
        have RV := hid (RV7.out.below bV (Nat.le_refl _))
        have T2 := hid (T7.out.below bV (Nat.le_refl _))
        have S3 := hid (show Boxed (w6.alloc (.cells #[.slice (some ⟨g, 0, none⟩) n co] 26)) (w.heap.size + 1) 26 (.slice none 0 0) from (bV.block (w.heap.size + 1) HX2.out).trans X2.out)
        have HB := hid (HB57.out.trans (bV.mono HB57.out.size))
        have HLO := hid (show w.heap.size + 2 ≤ (w5.alloc (.cells #[.int .i64 q1, .int .i64 b, .int .i64 q3, .int .i64 q4, .float .f64 f1, .slice a1 q7 c3, .int .i64 q5, .int .i64 q6, .float .f64 f2, .slice a2 q8 c4] 40)).heap.size ∧ (w5.alloc (.cells #[.int .i64 q1, .int .i64 b, .int .i64 q3, .int .i64 q4, .float .f64 f1, .slice a1 q7 c3, .int .i64 q5, .int .i64 q6, .float .f64 f2, .slice a2 q8 c4] 40)).heap.size ≤ w6.heap.size from ⟨HX2.out, b6.size⟩)
        have OGV := hid (show OwnG (w6.alloc (.cells #[.slice (some ⟨g, 0, none⟩) n co] 26)) (w5.alloc (.cells #[.int .i64 q1, .int .i64 b, .int .i64 q3, .int .i64 q4, .float .f64 f1, .slice a1 q7 c3, .int .i64 q5, .int .i64 q6, .float .f64 f2, .slice a2 q8 c4] 40)).heap.size (w6.alloc (.cells #[.slice (some ⟨g, 0, none⟩) n co] 26)).heap.size (.slice (some ⟨g, 0, none⟩) n co) (padH ps q) by rw [padH_in (by omega)]; exact (og.below bX (Nat.le_refl _)).mono (Nat.le_refl _) bX.size)
        have HNL := hid (show (padH ps q).length = n by rw [padH_in (by omega), hl])
        have HBG := hid (show w6.heap.size ≠ g by omega)
        have c14 := BOX.out.cell
        clear og b6 bX bV hgl hgu RK7 RV7 T7 X2 HB57 HX2 HS7 HR7
        generalize (w5.alloc (.cells #[.int .i64 q1, .int .i64 b, .int .i64 q3, .int .i64 q4, .float .f64 f1, .slice a1 q7 c3, .int .i64 q5, .int .i64 q6, .float .f64 f2, .slice a2 q8 c4] 40)).heap.size = LO at *
        obtain ⟨BO, hBO⟩ : ∃ BO, w6.heap.size = BO := ⟨_, rfl⟩
        go_wp2_with fail
        clear c14
        generalize w6.alloc (.cells #[.slice (some ⟨g, 0, none⟩) n co] 26) = V at *
        rw [hBO] at BOX HBG HLO
        try simp only [hBO]
        obtain ⟨pa, pc, hp1, hp2, hrp⟩ := OGV.out.page HNL.out (q := q) (by omega)
        rw [padH_at] at hp1 hp2 hrp
        obtain ⟨mm, hmm⟩ : ∃ mm, (ps.getD q pg0).2.length = mm := ⟨_, rfl⟩
        rw [hmm] at hp2
        have HMM := hid hmm
        have hgq := OGV.out.block HNL.out (by omega)
        obtain ⟨g2, eg, hg1, hg2⟩ := hgq
        obtain rfl : g = g2 := by cases eg; rfl
        have HGB := hid (show LO ≤ g ∧ g < V.heap.size from ⟨hg1, hg2⟩)
        have HRP := hid hrp.rd
        generalize (ps.getD q pg0).1 = PA at *
        generalize (ps.getD q pg0).2 = SS at *
        clear hmm hrp eg hg1 hg2
        have hq0 : (0 : Int) ≤ (q : Int) := by omega
        have hqN' : (q : Int) < (((n) : Nat) : Int) := by omega
        have HKp := hid (show ∀ X, Below V.heap.size V X → X.cell? ⟨BO, 0, none⟩ = some (.slice (some ⟨g, 0, none⟩) (n) co) ∧ Pg2 X g (q * 2) PA (.slice pa mm pc) ∧ BoxT X w5.heap.size q1 b q3 q4 f1 a1 q7 c3 q5 q6 f2 a2 q8 c4 from fun X bX => ⟨(bX.cell (p := ⟨BO, 0, none⟩) BOX.out.lt).trans BOX.out.cell, ⟨(bX.cell (p := ⟨g, q * 2, none⟩) (World.block_lt_of_cell? _ _ hp1)).trans hp1, (bX.cell (p := ⟨g, q * 2 + 1, none⟩) (World.block_lt_of_cell? _ _ hp2)).trans hp2⟩, T2.out.below bX (Nat.le_refl _)⟩)
        have HLT := hid (show BO < V.heap.size ∧ g < V.heap.size ∧ w5.heap.size < V.heap.size ∧ w.heap.size + 1 < V.heap.size from ⟨BOX.out.lt, HGB.out.2, T2.out.lt, S3.out.lt⟩)
        clear hp1 hp2
        have BD := hid ((Still.drew V).below V.heap.size)
        refine region_K 99 (fun X => X.cell? ⟨BO, 0, none⟩ = some (.slice (some ⟨g, 0, none⟩) (n) co) ∧ Pg2 X g (q * 2) PA (.slice pa mm pc) ∧ BoxT X w5.heap.size q1 b q3 q4 f1 a1 q7 c3 q5 q6 f2 a2 q8 c4) (by kernel_rfl) ?_ (fun hHeld => ?_)
        · exact HKp.out _ BD.out
        generalize V.drew = v0 at *
        refine anyK_take2 (i := 0) (v := ?v1) rfl (by kernel_rfl) (by kernel_rfl) (by kernel_rfl) (by rfl) (fun _ _ _ h => h) (by rfl) hHeld ?hy1 (some 42) (by rfl) ?rest1
        case hy1 => (intro W hSw; obtain ⟨x0, ⟨x1, x2⟩, ⟨u0, u1, u2, u3, u4, u5, u6, u7, u8, u9⟩⟩ := hSw; go_simp; (try with_reducible rfl))
        try simp only [Act.put]
        try simp only [List.setIfInBounds_toArray]
        try simp only [List.set_cons_succ, List.set_cons_zero]
        refine anyK_take2 (i := 1) (v := ?v2) rfl (by kernel_rfl) (by kernel_rfl) (by kernel_rfl) (by rfl) (fun _ _ _ h => h) (by rfl) hHeld ?hy2 (some 43) (by rfl) ?rest2
        case hy2 => (intro W hSw; obtain ⟨x0, ⟨x1, x2⟩, ⟨u0, u1, u2, u3, u4, u5, u6, u7, u8, u9⟩⟩ := hSw; go_simp; (try with_reducible rfl))
        try simp only [Act.put]
        try simp only [List.setIfInBounds_toArray]
        try simp only [List.set_cons_succ, List.set_cons_zero]
        refine anyK_take2 (i := 2) (v := ?v3) rfl (by kernel_rfl) (by kernel_rfl) (by kernel_rfl) (by rfl) (fun _ _ _ h => h) (by rfl) hHeld ?hy3 (some 44) (by rfl) ?rest3
        case hy3 => (intro W hSw; obtain ⟨x0, ⟨x1, x2⟩, ⟨u0, u1, u2, u3, u4, u5, u6, u7, u8, u9⟩⟩ := hSw; go_simp; (try with_reducible rfl))
        try simp only [Act.put]
        try simp only [List.setIfInBounds_toArray]
        try simp only [List.set_cons_succ, List.set_cons_zero]
        refine anyK_take2 (i := 3) (v := ?v4) rfl (by kernel_rfl) (by kernel_rfl) (by kernel_rfl) (by rfl) (fun _ _ _ h => h) (by rfl) hHeld ?hy4 (some 45) (by rfl) ?rest4
        case hy4 => (intro W hSw; obtain ⟨x0, ⟨x1, x2⟩, ⟨u0, u1, u2, u3, u4, u5, u6, u7, u8, u9⟩⟩ := hSw; go_simp; (try with_reducible rfl))
        try simp only [Act.put]
        try simp only [List.setIfInBounds_toArray]
        try simp only [List.set_cons_succ, List.set_cons_zero]
        refine anyK_take2 (i := 4) (v := ?v5) rfl (by kernel_rfl) (by kernel_rfl) (by kernel_rfl) (by rfl) (fun _ _ _ h => h) (by rfl) hHeld ?hy5 (some 46) (by rfl) ?rest5
        case hy5 => (intro W hSw; obtain ⟨x0, ⟨x1, x2⟩, ⟨u0, u1, u2, u3, u4, u5, u6, u7, u8, u9⟩⟩ := hSw; go_simp; (try with_reducible rfl))
        try simp only [Act.put]
        try simp only [List.setIfInBounds_toArray]
        try simp only [List.set_cons_succ, List.set_cons_zero]
        refine anyK_take2 (i := 5) (v := ?v6) rfl (by kernel_rfl) (by kernel_rfl) (by kernel_rfl) (by rfl) (fun _ _ _ h => h) (by rfl) hHeld ?hy6 (some 47) (by rfl) ?rest6
        case hy6 => (intro W hSw; obtain ⟨x0, ⟨x1, x2⟩, ⟨u0, u1, u2, u3, u4, u5, u6, u7, u8, u9⟩⟩ := hSw; go_simp; (try with_reducible rfl))
        try simp only [Act.put]
        try simp only [List.setIfInBounds_toArray]
        try simp only [List.set_cons_succ, List.set_cons_zero]
        refine anyK_take2 (i := 6) (v := ?v7) rfl (by kernel_rfl) (by kernel_rfl) (by kernel_rfl) (by rfl) (fun _ _ _ h => h) (by rfl) hHeld ?hy7 (some 48) (by rfl) ?rest7
        case hy7 => (intro W hSw; obtain ⟨x0, ⟨x1, x2⟩, ⟨u0, u1, u2, u3, u4, u5, u6, u7, u8, u9⟩⟩ := hSw; go_simp; (try with_reducible rfl))
        try simp only [Act.put]
        try simp only [List.setIfInBounds_toArray]
        try simp only [List.set_cons_succ, List.set_cons_zero]
        refine anyK_take2 (i := 8) (v := ?v8) rfl (by kernel_rfl) (by kernel_rfl) (by kernel_rfl) (by rfl) (fun _ _ _ h => h) (by rfl) hHeld ?hy8 (some 50) (by rfl) ?rest8
        case hy8 => (intro W hSw; obtain ⟨x0, ⟨x1, x2⟩, ⟨u0, u1, u2, u3, u4, u5, u6, u7, u8, u9⟩⟩ := hSw; go_simp; (try with_reducible rfl))
        try simp only [Act.put]
        try simp only [List.setIfInBounds_toArray]
        try simp only [List.set_cons_succ, List.set_cons_zero]
        refine anyK_two (i := 7) (j := 13) (by kernel_rfl) rfl rfl (fun KP hK => ?_) (fun KP hK => ?_)
        · skip
          go_simp
          refine (spec_TupleBytes q1 b q3 q4 f1 c3 q5 q6 f2 c4 (RK.out.below BD.out (Nat.le_refl _)) (RV.out.below BD.out (Nat.le_refl _)) HNI.out HNJ.out HTN.out.1 HTN.out.2 HNM.out.1 HNM.out.2 hf1 hf2).mono ?_
          rintro e w7 ⟨v7, rfl, o7, b7⟩
          rw [HMB.out] at o7
          obtain ⟨a7, c7, rfl⟩ := own_sl o7
          have RD7 := hid (reads_of10 o7 HBY.out)
          have NL7 := hid (own_nil10 o7)
          have B7 := hid (BD.out.trans (b7.mono BD.out.size))
          have HB73 := hid b7
          have HS73 := hid b7.size
          clear o7 b7
          obtain ⟨nb, hnb⟩ : ∃ nb, MB.length = nb := ⟨_, rfl⟩
          rw [hnb] at RD7 ⊢
          clear hnb
          go_wp2_with fail
          refine hK.out _ _ ?_ (fun hH2 => ?_)
          · exact HKp.out _ B7.out
          clear hK KP hHeld
          have hHeld := hH2
          clear hH2
          try simp only [Act.put]
          try simp only [List.setIfInBounds_toArray]
          try simp only [List.set_cons_succ, List.set_cons_zero]
          refine anyK_two (i := 9) (j := 13) (by kernel_rfl) rfl rfl (fun KP hK => ?_) (fun KP hK => ?_)
          · skip
            go_simp
            refine (spec_PagePut PA pc y c7 lsn (HRP.out.below B7.out (Nat.le_refl _)) HMM.out RD7.out NL7.out HRR.out HKK.out rfl).mono ?_
            rintro e w9 ⟨a', c', rfl, op, b9⟩
            have B9 := hid (B7.out.trans (b9.mono B7.out.size))
            have OP := hid op
            have HLU := hid (show V.heap.size ≤ w7.heap.size ∧ w7.heap.size ≤ w9.heap.size from ⟨B7.out.size, b9.size⟩)
            clear op b9
            go_wp2_with fail
            refine hK.out _ _ ?_ (fun hH2 => ?_)
            · exact HKp.out _ B9.out
            clear hK KP hHeld
            have hHeld := hH2
            clear hH2
            try simp only [Act.put]
            try simp only [List.setIfInBounds_toArray]
            try simp only [List.set_cons_succ, List.set_cons_zero]
            refine anyK_take2 (i := 10) (v := ?v9) rfl (by kernel_rfl) (by kernel_rfl) (by kernel_rfl) (by rfl) (fun _ _ _ h => h) (by rfl) hHeld ?hy9 (some 41) (by rfl) ?rest9
            case hy9 => (intro W hSw; obtain ⟨x0, ⟨x1, x2⟩, ⟨u0, u1, u2, u3, u4, u5, u6, u7, u8, u9⟩⟩ := hSw; go_simp; (try with_reducible rfl))
            try simp only [Act.put]
            try simp only [List.setIfInBounds_toArray]
            try simp only [List.set_cons_succ, List.set_cons_zero]
            refine anyK_take2 (i := 11) (v := ?v10) rfl (by kernel_rfl) (by kernel_rfl) (by kernel_rfl) (by rfl) (fun _ _ _ h => h) (by rfl) hHeld ?hy10 (some 52) (by rfl) ?rest10
            case hy10 => (intro W hSw; obtain ⟨x0, ⟨x1, x2⟩, ⟨u0, u1, u2, u3, u4, u5, u6, u7, u8, u9⟩⟩ := hSw; go_simp; (try with_reducible rfl))
            try simp only [Act.put]
            try simp only [List.setIfInBounds_toArray]
            try simp only [List.set_cons_succ, List.set_cons_zero]
            refine anyK_take2 (i := 12) (v := ?v11) rfl (by kernel_rfl) (by kernel_rfl) (by kernel_rfl) (by rfl) (fun _ _ _ h => h) (by rfl) hHeld ?hy11 (some 53) (by rfl) ?rest11
            case hy11 => (intro W hSw; obtain ⟨x0, ⟨x1, x2⟩, ⟨u0, u1, u2, u3, u4, u5, u6, u7, u8, u9⟩⟩ := hSw; go_simp; (try with_reducible rfl))
            try simp only [Act.put]
            try simp only [List.setIfInBounds_toArray]
            try simp only [List.set_cons_succ, List.set_cons_zero]
            refine anyK_step (i := 13) (by kernel_rfl) rfl (fun KP hK => ?_)
            go_simp
            have bZ := Below.alloc1 w9 (.cells #[.int .i64 0, .slice none 0 0] 97)
            have BC9 := hid (B9.out.trans (bZ.mono B9.out.size))
            have RPB := hid (heap_alloc_new w9 (.cells #[.int .i64 0, .slice none 0 0] 97))
            have OPc := hid (op_alloc OP.out (.cells #[.int .i64 0, .slice none 0 0] 97))
            have HPB := hid (show V.heap.size ≤ w9.heap.size ∧ (w9.heap.size < w7.heap.size ∨ w9.heap.size ≤ w9.heap.size) by have := HLU.out; omega)
            clear bZ
            refine hK.out _ _ ?_ (fun hH2 => ?_)
            · exact HKp.out _ BC9.out
            clear hK KP hHeld
            have hHeld := hH2
            clear hH2
            try simp only [Act.put]
            try simp only [List.setIfInBounds_toArray]
            try simp only [List.set_cons_succ, List.set_cons_zero]
            have ZW := hid (alloc_size w9 (.cells #[.int .i64 0, .slice none 0 0] 97))
            generalize w9.alloc (.cells #[.int .i64 0, .slice none 0 0] 97) = wc at *
            obtain ⟨PB, hPB⟩ : ∃ PB, w9.heap.size = PB := ⟨_, rfl⟩
            have HPB2 := hid hPB
            rw [hPB] at RPB
            try simp only [hPB]
            have hlt := HLT.out
            have hpb := HPB.out
            have r0 : wc.cell? ⟨PB, 0, none⟩ = some (.int .i64 0) := cell_of_row _ _ 0 _ _ _ RPB.out
            have r1 : wc.cell? ⟨PB, 1, none⟩ = some (.slice none 0 0) := cell_of_row _ _ 1 _ _ _ RPB.out
            have rf0 : wc.frozen? ⟨PB, 0, none⟩ = false := frozen_of_row _ _ _ _ _ RPB.out
            have rf1 : wc.frozen? ⟨PB, 1, none⟩ = false := frozen_of_row _ _ _ _ _ RPB.out
            have U1 := heap_setCell_same wc PB 0 _ 97 (.int .i64 RL) RPB.out
            have U2 := hid (heap_setCell_same _ PB 1 _ 97 (.slice a' RS.length c') U1)
            have KF : ∀ b, b ≠ PB → ((wc.setCell ⟨PB, 0, none⟩ (.int .i64 RL)).setCell ⟨PB, 1, none⟩ (.slice a' RS.length c')).heap[b]? = wc.heap[b]? := fun b hb => (heap_set_ne _ (PB) 1 b (.slice a' RS.length c') hb).trans (heap_set_ne wc (PB) 0 b (.int .i64 RL) hb)
            have BF := hid ((BC9.out.setCell (p := ⟨PB, 0, none⟩) (by show V.heap.size ≤ PB; omega) (.int .i64 RL)).setCell (p := ⟨PB, 1, none⟩) (by show V.heap.size ≤ PB; omega) (.slice a' RS.length c'))
            have HE := hid (HKp.out _ BF.out)
            have OF := hid (OPc.out.agree (w' := ((wc.setCell ⟨PB, 0, none⟩ (.int .i64 RL)).setCell ⟨PB, 1, none⟩ (.slice a' RS.length c'))) (fun k h1 h2 => KF k (by omega)))
            have HSF := hid (show w9.heap.size ≤ ((wc.setCell ⟨PB, 0, none⟩ (.int .i64 RL)).setCell ⟨PB, 1, none⟩ (.slice a' RS.length c')).heap.size ∧ wc.heap.size = ((wc.setCell ⟨PB, 0, none⟩ (.int .i64 RL)).setCell ⟨PB, 1, none⟩ (.slice a' RS.length c')).heap.size by rw [set_size, set_size]; exact ⟨(by have := ZW.out; omega), rfl⟩)
            clear U1 KF hlt hpb
            refine anyK_step (i := 14) (by kernel_rfl) rfl (fun KP hK => ?_)
            go_simp
            refine hK.out _ _ ?_ (fun hH2 => ?_)
            · exact HE.out
            clear hK KP hHeld
            have hHeld := hH2
            clear hH2
            try simp only [Act.put]
            try simp only [List.setIfInBounds_toArray]
            try simp only [List.set_cons_succ, List.set_cons_zero]
            refine anyK_step (i := 15) (by kernel_rfl) rfl (fun KP hK => ?_)
            go_simp
            refine hK.out _ _ ?_ (fun hH2 => ?_)
            · exact HE.out
            clear hK KP hHeld
            have hHeld := hH2
            clear hH2
            try simp only [Act.put]
            try simp only [List.setIfInBounds_toArray]
            try simp only [List.set_cons_succ, List.set_cons_zero]
            refine anyK_done (by kernel_rfl) ?_ _
            clear hHeld r0 r1 rf0 rf1
            have FG := hid (OGV.out.below BF.out (Nat.le_refl _))
            have FBO := hid (show Boxed ((wc.setCell ⟨PB, 0, none⟩ (.int .i64 RL)).setCell ⟨PB, 1, none⟩ (.slice a' RS.length c')) BO 26 (.slice (some ⟨g, 0, none⟩) (n) co) from (BF.out.block _ BOX.out.lt).trans BOX.out)
            have FS3 := hid (show Boxed ((wc.setCell ⟨PB, 0, none⟩ (.int .i64 RL)).setCell ⟨PB, 1, none⟩ (.slice a' RS.length c')) (w.heap.size + 1) 26 (.slice none 0 0) from (BF.out.block _ S3.out.lt).trans S3.out)
            have FB := hid (HB.out.trans (BF.out.mono HB.out.size))
            generalize ((wc.setCell ⟨PB, 0, none⟩ (.int .i64 RL)).setCell ⟨PB, 1, none⟩ (.slice a' RS.length c')) = FF at *
            have hlo := HLO.out
            have hgb := HGB.out
            have hlt := HLT.out
            have hlu := HLU.out
            have hpb := HPB.out
            have hsf := HSF.out
            have t0 : FF.cell? ⟨PB, 0, none⟩ = some (.int .i64 RL) := cell_of_row _ _ 0 _ _ _ U2.out
            have t1 : FF.cell? ⟨PB, 1, none⟩ = some (.slice a' RS.length c') := cell_of_row _ _ 1 _ _ _ U2.out
            have t2 := FBO.out.cell
            obtain ⟨⟨vv1, hcy⟩, ⟨vv2, hcz⟩, hfr, hfz⟩ := FG.out.cells2 HNL.out (q := q) (by omega)
            have OGF := hid (OwnG.swap (A := RL) (lo' := LO) (hi' := FF.heap.size) FG.out HNL.out (i := q) (by omega) OF.out (.inr (by omega)) (Nat.le_refl _) (by omega) (by omega) (by omega))
            have hd : ((FF.setCell ⟨g, q * 2, none⟩ (.int .i64 RL)).setCell ⟨g, q * 2 + 1, none⟩ (.slice a' RS.length c')).cell? ⟨BO, 0, none⟩ = some (.slice (some ⟨g, 0, none⟩) (n) co) := (World.cell?_of_block ((heap_set_ne _ g (q * 2 + 1) BO (.slice a' RS.length c') HBG.out).trans (heap_set_ne FF g (q * 2) BO (.int .i64 RL) HBG.out))).trans t2
            have VF := hid ((heap_set_ne _ g (q * 2 + 1) (w.heap.size + 1) (.slice a' RS.length c') (by omega)).trans ((heap_set_ne FF g (q * 2) (w.heap.size + 1) (.int .i64 RL) (by omega)).trans FS3.out))
            have BFF := hid ((FB.out.setCell (p := ⟨g, q * 2, none⟩) (by show w.heap.size ≤ g; omega) (.int .i64 RL)).setCell (p := ⟨g, q * 2 + 1, none⟩) (by show w.heap.size ≤ g; omega) (.slice a' RS.length c'))
            clear FG OF FBO FS3
            have hqN3 : (q : Int) < (((n) : Nat) : Int) := by omega
            go_wp2_with (refine wpList_store_row rfl 26 (.tmp 10) (.tmp 59) rfl (w.heap.size + 1) #[.slice (some ⟨g, 0, none⟩) (n) co] rfl rfl 26 _ VF.out ?xb1 ?xb2 ?xb3 ?_)
            case xb1 => simpa using size_hp
            try (case xb2 => rfl)
            case xb3 => simp [Value.oneCell']
            refine bodyPost_ret (results_cell_tmp Tryz.results51 _ _ (w.heap.size + 1) 26 #[.slice (some ⟨g, 0, none⟩) (n) co] (0, 0) _ rfl (setRow_heap _ _ _ _ _ _ VF.out) Tryz.underlying26 rfl size_hp) rfl ?_
            have hlen : (withH ps q (RL, RS)).length = n := by rw [withH, List.length_set, HNL.out]
            rw [HPO.out, HPH.out]
            exact ⟨some ⟨g, 0, none⟩, co, by rw [hlen]; rfl, by rw [hlen]; exact (OGF.out.agree (fun k h1 _ => setRow_other _ _ _ _ (by omega))).mono (by omega) (by simp), below_setRow BFF.out (by omega) _⟩
          · skip
            go_simp
            have bZ := Below.alloc1 w7 (.cells #[.int .i64 0, .slice none 0 0] 97)
            have B13 := hid (B7.out.trans (bZ.mono B7.out.size))
            have RPB0 := hid (heap_alloc_new w7 (.cells #[.int .i64 0, .slice none 0 0] 97))
            have ZW := hid (alloc_size w7 (.cells #[.int .i64 0, .slice none 0 0] 97))
            replace RD7 := hid (RD7.out.below bZ (Nat.le_refl _))
            clear bZ
            refine hK.out _ _ ?_ (fun hH2 => ?_)
            · exact HKp.out _ B13.out
            clear hK KP hHeld
            have hHeld := hH2
            clear hH2
            try simp only [Act.put]
            try simp only [List.setIfInBounds_toArray]
            try simp only [List.set_cons_succ, List.set_cons_zero]
            generalize w7.alloc (.cells #[.int .i64 0, .slice none 0 0] 97) = w13 at *
            refine anyK_step (i := 9) (by kernel_rfl) rfl (fun KP hK => ?_)
            go_simp
            refine (spec_PagePut PA pc y c7 lsn (HRP.out.below B13.out (Nat.le_refl _)) HMM.out RD7.out NL7.out HRR.out HKK.out rfl).mono ?_
            rintro e w9 ⟨a', c', rfl, op, b9⟩
            have B9 := hid (B13.out.trans (b9.mono B13.out.size))
            have OP := hid op
            have HLU := hid (show V.heap.size ≤ w13.heap.size ∧ w13.heap.size ≤ w9.heap.size from ⟨B13.out.size, b9.size⟩)
            have RPB1 := hid ((b9.block w7.heap.size (by have := ZW.out; omega)).trans RPB0.out)
            clear op b9
            go_wp2_with fail
            refine hK.out _ _ ?_ (fun hH2 => ?_)
            · exact HKp.out _ B9.out
            clear hK KP hHeld
            have hHeld := hH2
            clear hH2
            try simp only [Act.put]
            try simp only [List.setIfInBounds_toArray]
            try simp only [List.set_cons_succ, List.set_cons_zero]
            refine anyK_take2 (i := 10) (v := ?v12) rfl (by kernel_rfl) (by kernel_rfl) (by kernel_rfl) (by rfl) (fun _ _ _ h => h) (by rfl) hHeld ?hy12 (some 41) (by rfl) ?rest12
            case hy12 => (intro W hSw; obtain ⟨x0, ⟨x1, x2⟩, ⟨u0, u1, u2, u3, u4, u5, u6, u7, u8, u9⟩⟩ := hSw; go_simp; (try with_reducible rfl))
            try simp only [Act.put]
            try simp only [List.setIfInBounds_toArray]
            try simp only [List.set_cons_succ, List.set_cons_zero]
            refine anyK_take2 (i := 11) (v := ?v13) rfl (by kernel_rfl) (by kernel_rfl) (by kernel_rfl) (by rfl) (fun _ _ _ h => h) (by rfl) hHeld ?hy13 (some 52) (by rfl) ?rest13
            case hy13 => (intro W hSw; obtain ⟨x0, ⟨x1, x2⟩, ⟨u0, u1, u2, u3, u4, u5, u6, u7, u8, u9⟩⟩ := hSw; go_simp; (try with_reducible rfl))
            try simp only [Act.put]
            try simp only [List.setIfInBounds_toArray]
            try simp only [List.set_cons_succ, List.set_cons_zero]
            refine anyK_take2 (i := 12) (v := ?v14) rfl (by kernel_rfl) (by kernel_rfl) (by kernel_rfl) (by rfl) (fun _ _ _ h => h) (by rfl) hHeld ?hy14 (some 53) (by rfl) ?rest14
            case hy14 => (intro W hSw; obtain ⟨x0, ⟨x1, x2⟩, ⟨u0, u1, u2, u3, u4, u5, u6, u7, u8, u9⟩⟩ := hSw; go_simp; (try with_reducible rfl))
            try simp only [Act.put]
            try simp only [List.setIfInBounds_toArray]
            try simp only [List.set_cons_succ, List.set_cons_zero]
            have BC9 := B9
            have OPc := OP
            have HPB0 := hid (show V.heap.size ≤ w7.heap.size ∧ (w7.heap.size < w13.heap.size ∨ w9.heap.size ≤ w7.heap.size) by have := ZW.out; have := B7.out.size; omega)
            obtain ⟨PB, hPB⟩ : ∃ PB, w7.heap.size = PB := ⟨_, rfl⟩
            rw [hPB] at RPB1 HPB0
            have RPB := RPB1
            have HPB := HPB0
            try simp only [hPB]
            have hlt := HLT.out
            have hpb := HPB.out
            have r0 : w9.cell? ⟨PB, 0, none⟩ = some (.int .i64 0) := cell_of_row _ _ 0 _ _ _ RPB.out
            have r1 : w9.cell? ⟨PB, 1, none⟩ = some (.slice none 0 0) := cell_of_row _ _ 1 _ _ _ RPB.out
            have rf0 : w9.frozen? ⟨PB, 0, none⟩ = false := frozen_of_row _ _ _ _ _ RPB.out
            have rf1 : w9.frozen? ⟨PB, 1, none⟩ = false := frozen_of_row _ _ _ _ _ RPB.out
            have U1 := heap_setCell_same w9 PB 0 _ 97 (.int .i64 RL) RPB.out
            have U2 := hid (heap_setCell_same _ PB 1 _ 97 (.slice a' RS.length c') U1)
            have KF : ∀ b, b ≠ PB → ((w9.setCell ⟨PB, 0, none⟩ (.int .i64 RL)).setCell ⟨PB, 1, none⟩ (.slice a' RS.length c')).heap[b]? = w9.heap[b]? := fun b hb => (heap_set_ne _ (PB) 1 b (.slice a' RS.length c') hb).trans (heap_set_ne w9 (PB) 0 b (.int .i64 RL) hb)
            have BF := hid ((BC9.out.setCell (p := ⟨PB, 0, none⟩) (by show V.heap.size ≤ PB; omega) (.int .i64 RL)).setCell (p := ⟨PB, 1, none⟩) (by show V.heap.size ≤ PB; omega) (.slice a' RS.length c'))
            have HE := hid (HKp.out _ BF.out)
            have OF := hid (OPc.out.agree (w' := ((w9.setCell ⟨PB, 0, none⟩ (.int .i64 RL)).setCell ⟨PB, 1, none⟩ (.slice a' RS.length c'))) (fun k h1 h2 => KF k (by omega)))
            have HSF := hid (show w9.heap.size ≤ ((w9.setCell ⟨PB, 0, none⟩ (.int .i64 RL)).setCell ⟨PB, 1, none⟩ (.slice a' RS.length c')).heap.size ∧ w9.heap.size = ((w9.setCell ⟨PB, 0, none⟩ (.int .i64 RL)).setCell ⟨PB, 1, none⟩ (.slice a' RS.length c')).heap.size by rw [set_size, set_size]; exact ⟨Nat.le_refl _, rfl⟩)
            clear U1 KF hlt hpb
            refine anyK_step (i := 14) (by kernel_rfl) rfl (fun KP hK => ?_)
            go_simp
            refine hK.out _ _ ?_ (fun hH2 => ?_)
            · exact HE.out
            clear hK KP hHeld
            have hHeld := hH2
            clear hH2
            try simp only [Act.put]
            try simp only [List.setIfInBounds_toArray]
            try simp only [List.set_cons_succ, List.set_cons_zero]
            refine anyK_step (i := 15) (by kernel_rfl) rfl (fun KP hK => ?_)
            go_simp
            refine hK.out _ _ ?_ (fun hH2 => ?_)
            · exact HE.out
            clear hK KP hHeld
            have hHeld := hH2
            clear hH2
            try simp only [Act.put]
            try simp only [List.setIfInBounds_toArray]
            try simp only [List.set_cons_succ, List.set_cons_zero]
            refine anyK_done (by kernel_rfl) ?_ _
            clear hHeld r0 r1 rf0 rf1
            have FG := hid (OGV.out.below BF.out (Nat.le_refl _))
            have FBO := hid (show Boxed ((w9.setCell ⟨PB, 0, none⟩ (.int .i64 RL)).setCell ⟨PB, 1, none⟩ (.slice a' RS.length c')) BO 26 (.slice (some ⟨g, 0, none⟩) (n) co) from (BF.out.block _ BOX.out.lt).trans BOX.out)
            have FS3 := hid (show Boxed ((w9.setCell ⟨PB, 0, none⟩ (.int .i64 RL)).setCell ⟨PB, 1, none⟩ (.slice a' RS.length c')) (w.heap.size + 1) 26 (.slice none 0 0) from (BF.out.block _ S3.out.lt).trans S3.out)
            have FB := hid (HB.out.trans (BF.out.mono HB.out.size))
            generalize ((w9.setCell ⟨PB, 0, none⟩ (.int .i64 RL)).setCell ⟨PB, 1, none⟩ (.slice a' RS.length c')) = FF at *
            have hlo := HLO.out
            have hgb := HGB.out
            have hlt := HLT.out
            have hlu := HLU.out
            have hpb := HPB.out
            have hsf := HSF.out
            have t0 : FF.cell? ⟨PB, 0, none⟩ = some (.int .i64 RL) := cell_of_row _ _ 0 _ _ _ U2.out
            have t1 : FF.cell? ⟨PB, 1, none⟩ = some (.slice a' RS.length c') := cell_of_row _ _ 1 _ _ _ U2.out
            have t2 := FBO.out.cell
            obtain ⟨⟨vv1, hcy⟩, ⟨vv2, hcz⟩, hfr, hfz⟩ := FG.out.cells2 HNL.out (q := q) (by omega)
            have OGF := hid (OwnG.swap (A := RL) (lo' := LO) (hi' := FF.heap.size) FG.out HNL.out (i := q) (by omega) OF.out (.inr (by omega)) (Nat.le_refl _) (by omega) (by omega) (by omega))
            have hd : ((FF.setCell ⟨g, q * 2, none⟩ (.int .i64 RL)).setCell ⟨g, q * 2 + 1, none⟩ (.slice a' RS.length c')).cell? ⟨BO, 0, none⟩ = some (.slice (some ⟨g, 0, none⟩) (n) co) := (World.cell?_of_block ((heap_set_ne _ g (q * 2 + 1) BO (.slice a' RS.length c') HBG.out).trans (heap_set_ne FF g (q * 2) BO (.int .i64 RL) HBG.out))).trans t2
            have VF := hid ((heap_set_ne _ g (q * 2 + 1) (w.heap.size + 1) (.slice a' RS.length c') (by omega)).trans ((heap_set_ne FF g (q * 2) (w.heap.size + 1) (.int .i64 RL) (by omega)).trans FS3.out))
            have BFF := hid ((FB.out.setCell (p := ⟨g, q * 2, none⟩) (by show w.heap.size ≤ g; omega) (.int .i64 RL)).setCell (p := ⟨g, q * 2 + 1, none⟩) (by show w.heap.size ≤ g; omega) (.slice a' RS.length c'))
            clear FG OF FBO FS3
            have hqN3 : (q : Int) < (((n) : Nat) : Int) := by omega
            go_wp2_with (refine wpList_store_row rfl 26 (.tmp 10) (.tmp 59) rfl (w.heap.size + 1) #[.slice (some ⟨g, 0, none⟩) (n) co] rfl rfl 26 _ VF.out ?xb1 ?xb2 ?xb3 ?_)
            case xb1 => simpa using size_hp
            try (case xb2 => rfl)
            case xb3 => simp [Value.oneCell']
            refine bodyPost_ret (results_cell_tmp Tryz.results51 _ _ (w.heap.size + 1) 26 #[.slice (some ⟨g, 0, none⟩) (n) co] (0, 0) _ rfl (setRow_heap _ _ _ _ _ _ VF.out) Tryz.underlying26 rfl size_hp) rfl ?_
            have hlen : (withH ps q (RL, RS)).length = n := by rw [withH, List.length_set, HNL.out]
            rw [HPO.out, HPH.out]
            exact ⟨some ⟨g, 0, none⟩, co, by rw [hlen]; rfl, by rw [hlen]; exact (OGF.out.agree (fun k h1 _ => setRow_other _ _ _ _ (by omega))).mono (by omega) (by simp), below_setRow BFF.out (by omega) _⟩
        · skip
          go_simp
          have bZ := Below.alloc1 v0 (.cells #[.int .i64 0, .slice none 0 0] 97)
          have B13 := hid (BD.out.trans (bZ.mono BD.out.size))
          have RPB0 := hid (heap_alloc_new v0 (.cells #[.int .i64 0, .slice none 0 0] 97))
          have ZW := hid (alloc_size v0 (.cells #[.int .i64 0, .slice none 0 0] 97))
          clear bZ
          refine hK.out _ _ ?_ (fun hH2 => ?_)
          · exact HKp.out _ B13.out
          clear hK KP hHeld
          have hHeld := hH2
          clear hH2
          try simp only [Act.put]
          try simp only [List.setIfInBounds_toArray]
          try simp only [List.set_cons_succ, List.set_cons_zero]
          generalize v0.alloc (.cells #[.int .i64 0, .slice none 0 0] 97) = w13 at *
          refine anyK_step (i := 7) (by kernel_rfl) rfl (fun KP hK => ?_)
          go_simp
          refine (spec_TupleBytes q1 b q3 q4 f1 c3 q5 q6 f2 c4 (RK.out.below B13.out (Nat.le_refl _)) (RV.out.below B13.out (Nat.le_refl _)) HNI.out HNJ.out HTN.out.1 HTN.out.2 HNM.out.1 HNM.out.2 hf1 hf2).mono ?_
          rintro e w7 ⟨v7, rfl, o7, b7⟩
          rw [HMB.out] at o7
          obtain ⟨a7, c7, rfl⟩ := own_sl o7
          have RD7 := hid (reads_of10 o7 HBY.out)
          have NL7 := hid (own_nil10 o7)
          have B7 := hid (B13.out.trans (b7.mono B13.out.size))
          have HB73 := hid b7
          have HS73 := hid b7.size
          clear o7 b7
          obtain ⟨nb, hnb⟩ : ∃ nb, MB.length = nb := ⟨_, rfl⟩
          rw [hnb] at RD7 ⊢
          clear hnb
          go_wp2_with fail
          refine hK.out _ _ ?_ (fun hH2 => ?_)
          · exact HKp.out _ B7.out
          clear hK KP hHeld
          have hHeld := hH2
          clear hH2
          try simp only [Act.put]
          try simp only [List.setIfInBounds_toArray]
          try simp only [List.set_cons_succ, List.set_cons_zero]
          refine anyK_step (i := 9) (by kernel_rfl) rfl (fun KP hK => ?_)
          go_simp
          refine (spec_PagePut PA pc y c7 lsn (HRP.out.below B7.out (Nat.le_refl _)) HMM.out RD7.out NL7.out HRR.out HKK.out rfl).mono ?_
          rintro e w9 ⟨a', c', rfl, op, b9⟩
          have B9 := hid (B7.out.trans (b9.mono B7.out.size))
          have OP := hid op
          have HLU := hid (show V.heap.size ≤ w7.heap.size ∧ w7.heap.size ≤ w9.heap.size from ⟨B7.out.size, b9.size⟩)
          have RPB1 := hid ((b9.block v0.heap.size (by have := ZW.out; have := HS73.out; omega)).trans ((HB73.out.block v0.heap.size (by have := ZW.out; omega)).trans RPB0.out))
          clear op b9
          go_wp2_with fail
          refine hK.out _ _ ?_ (fun hH2 => ?_)
          · exact HKp.out _ B9.out
          clear hK KP hHeld
          have hHeld := hH2
          clear hH2
          try simp only [Act.put]
          try simp only [List.setIfInBounds_toArray]
          try simp only [List.set_cons_succ, List.set_cons_zero]
          refine anyK_take2 (i := 10) (v := ?v15) rfl (by kernel_rfl) (by kernel_rfl) (by kernel_rfl) (by rfl) (fun _ _ _ h => h) (by rfl) hHeld ?hy15 (some 41) (by rfl) ?rest15
          case hy15 => (intro W hSw; obtain ⟨x0, ⟨x1, x2⟩, ⟨u0, u1, u2, u3, u4, u5, u6, u7, u8, u9⟩⟩ := hSw; go_simp; (try with_reducible rfl))
          try simp only [Act.put]
          try simp only [List.setIfInBounds_toArray]
          try simp only [List.set_cons_succ, List.set_cons_zero]
          refine anyK_take2 (i := 11) (v := ?v16) rfl (by kernel_rfl) (by kernel_rfl) (by kernel_rfl) (by rfl) (fun _ _ _ h => h) (by rfl) hHeld ?hy16 (some 52) (by rfl) ?rest16
          case hy16 => (intro W hSw; obtain ⟨x0, ⟨x1, x2⟩, ⟨u0, u1, u2, u3, u4, u5, u6, u7, u8, u9⟩⟩ := hSw; go_simp; (try with_reducible rfl))
          try simp only [Act.put]
          try simp only [List.setIfInBounds_toArray]
          try simp only [List.set_cons_succ, List.set_cons_zero]
          refine anyK_take2 (i := 12) (v := ?v17) rfl (by kernel_rfl) (by kernel_rfl) (by kernel_rfl) (by rfl) (fun _ _ _ h => h) (by rfl) hHeld ?hy17 (some 53) (by rfl) ?rest17
          case hy17 => (intro W hSw; obtain ⟨x0, ⟨x1, x2⟩, ⟨u0, u1, u2, u3, u4, u5, u6, u7, u8, u9⟩⟩ := hSw; go_simp; (try with_reducible rfl))
          try simp only [Act.put]
          try simp only [List.setIfInBounds_toArray]
          try simp only [List.set_cons_succ, List.set_cons_zero]
          have BC9 := B9
          have OPc := OP
          have HPB0 := hid (show V.heap.size ≤ v0.heap.size ∧ (v0.heap.size < w7.heap.size ∨ w9.heap.size ≤ v0.heap.size) by have := ZW.out; have := BD.out.size; have := HS73.out; omega)
          obtain ⟨PB, hPB⟩ : ∃ PB, v0.heap.size = PB := ⟨_, rfl⟩
          rw [hPB] at RPB1 HPB0
          have RPB := RPB1
          have HPB := HPB0
          try simp only [hPB]
          have hlt := HLT.out
          have hpb := HPB.out
          have r0 : w9.cell? ⟨PB, 0, none⟩ = some (.int .i64 0) := cell_of_row _ _ 0 _ _ _ RPB.out
          have r1 : w9.cell? ⟨PB, 1, none⟩ = some (.slice none 0 0) := cell_of_row _ _ 1 _ _ _ RPB.out
          have rf0 : w9.frozen? ⟨PB, 0, none⟩ = false := frozen_of_row _ _ _ _ _ RPB.out
          have rf1 : w9.frozen? ⟨PB, 1, none⟩ = false := frozen_of_row _ _ _ _ _ RPB.out
          have U1 := heap_setCell_same w9 PB 0 _ 97 (.int .i64 RL) RPB.out
          have U2 := hid (heap_setCell_same _ PB 1 _ 97 (.slice a' RS.length c') U1)
          have KF : ∀ b, b ≠ PB → ((w9.setCell ⟨PB, 0, none⟩ (.int .i64 RL)).setCell ⟨PB, 1, none⟩ (.slice a' RS.length c')).heap[b]? = w9.heap[b]? := fun b hb => (heap_set_ne _ (PB) 1 b (.slice a' RS.length c') hb).trans (heap_set_ne w9 (PB) 0 b (.int .i64 RL) hb)
          have BF := hid ((BC9.out.setCell (p := ⟨PB, 0, none⟩) (by show V.heap.size ≤ PB; omega) (.int .i64 RL)).setCell (p := ⟨PB, 1, none⟩) (by show V.heap.size ≤ PB; omega) (.slice a' RS.length c'))
          have HE := hid (HKp.out _ BF.out)
          have OF := hid (OPc.out.agree (w' := ((w9.setCell ⟨PB, 0, none⟩ (.int .i64 RL)).setCell ⟨PB, 1, none⟩ (.slice a' RS.length c'))) (fun k h1 h2 => KF k (by omega)))
          have HSF := hid (show w9.heap.size ≤ ((w9.setCell ⟨PB, 0, none⟩ (.int .i64 RL)).setCell ⟨PB, 1, none⟩ (.slice a' RS.length c')).heap.size ∧ w9.heap.size = ((w9.setCell ⟨PB, 0, none⟩ (.int .i64 RL)).setCell ⟨PB, 1, none⟩ (.slice a' RS.length c')).heap.size by rw [set_size, set_size]; exact ⟨Nat.le_refl _, rfl⟩)
          clear U1 KF hlt hpb
          refine anyK_step (i := 14) (by kernel_rfl) rfl (fun KP hK => ?_)
          go_simp
          refine hK.out _ _ ?_ (fun hH2 => ?_)
          · exact HE.out
          clear hK KP hHeld
          have hHeld := hH2
          clear hH2
          try simp only [Act.put]
          try simp only [List.setIfInBounds_toArray]
          try simp only [List.set_cons_succ, List.set_cons_zero]
          refine anyK_step (i := 15) (by kernel_rfl) rfl (fun KP hK => ?_)
          go_simp
          refine hK.out _ _ ?_ (fun hH2 => ?_)
          · exact HE.out
          clear hK KP hHeld
          have hHeld := hH2
          clear hH2
          try simp only [Act.put]
          try simp only [List.setIfInBounds_toArray]
          try simp only [List.set_cons_succ, List.set_cons_zero]
          refine anyK_done (by kernel_rfl) ?_ _
          clear hHeld r0 r1 rf0 rf1
          have FG := hid (OGV.out.below BF.out (Nat.le_refl _))
          have FBO := hid (show Boxed ((w9.setCell ⟨PB, 0, none⟩ (.int .i64 RL)).setCell ⟨PB, 1, none⟩ (.slice a' RS.length c')) BO 26 (.slice (some ⟨g, 0, none⟩) (n) co) from (BF.out.block _ BOX.out.lt).trans BOX.out)
          have FS3 := hid (show Boxed ((w9.setCell ⟨PB, 0, none⟩ (.int .i64 RL)).setCell ⟨PB, 1, none⟩ (.slice a' RS.length c')) (w.heap.size + 1) 26 (.slice none 0 0) from (BF.out.block _ S3.out.lt).trans S3.out)
          have FB := hid (HB.out.trans (BF.out.mono HB.out.size))
          generalize ((w9.setCell ⟨PB, 0, none⟩ (.int .i64 RL)).setCell ⟨PB, 1, none⟩ (.slice a' RS.length c')) = FF at *
          have hlo := HLO.out
          have hgb := HGB.out
          have hlt := HLT.out
          have hlu := HLU.out
          have hpb := HPB.out
          have hsf := HSF.out
          have t0 : FF.cell? ⟨PB, 0, none⟩ = some (.int .i64 RL) := cell_of_row _ _ 0 _ _ _ U2.out
          have t1 : FF.cell? ⟨PB, 1, none⟩ = some (.slice a' RS.length c') := cell_of_row _ _ 1 _ _ _ U2.out
          have t2 := FBO.out.cell
          obtain ⟨⟨vv1, hcy⟩, ⟨vv2, hcz⟩, hfr, hfz⟩ := FG.out.cells2 HNL.out (q := q) (by omega)
          have OGF := hid (OwnG.swap (A := RL) (lo' := LO) (hi' := FF.heap.size) FG.out HNL.out (i := q) (by omega) OF.out (.inr (by omega)) (Nat.le_refl _) (by omega) (by omega) (by omega))
          have hd : ((FF.setCell ⟨g, q * 2, none⟩ (.int .i64 RL)).setCell ⟨g, q * 2 + 1, none⟩ (.slice a' RS.length c')).cell? ⟨BO, 0, none⟩ = some (.slice (some ⟨g, 0, none⟩) (n) co) := (World.cell?_of_block ((heap_set_ne _ g (q * 2 + 1) BO (.slice a' RS.length c') HBG.out).trans (heap_set_ne FF g (q * 2) BO (.int .i64 RL) HBG.out))).trans t2
          have VF := hid ((heap_set_ne _ g (q * 2 + 1) (w.heap.size + 1) (.slice a' RS.length c') (by omega)).trans ((heap_set_ne FF g (q * 2) (w.heap.size + 1) (.int .i64 RL) (by omega)).trans FS3.out))
          have BFF := hid ((FB.out.setCell (p := ⟨g, q * 2, none⟩) (by show w.heap.size ≤ g; omega) (.int .i64 RL)).setCell (p := ⟨g, q * 2 + 1, none⟩) (by show w.heap.size ≤ g; omega) (.slice a' RS.length c'))
          clear FG OF FBO FS3
          have hqN3 : (q : Int) < (((n) : Nat) : Int) := by omega
          go_wp2_with (refine wpList_store_row rfl 26 (.tmp 10) (.tmp 59) rfl (w.heap.size + 1) #[.slice (some ⟨g, 0, none⟩) (n) co] rfl rfl 26 _ VF.out ?xb1 ?xb2 ?xb3 ?_)
          case xb1 => simpa using size_hp
          try (case xb2 => rfl)
          case xb3 => simp [Value.oneCell']
          refine bodyPost_ret (results_cell_tmp Tryz.results51 _ _ (w.heap.size + 1) 26 #[.slice (some ⟨g, 0, none⟩) (n) co] (0, 0) _ rfl (setRow_heap _ _ _ _ _ _ VF.out) Tryz.underlying26 rfl size_hp) rfl ?_
          have hlen : (withH ps q (RL, RS)).length = n := by rw [withH, List.length_set, HNL.out]
          rw [HPO.out, HPH.out]
          exact ⟨some ⟨g, 0, none⟩, co, by rw [hlen]; rfl, by rw [hlen]; exact (OGF.out.agree (fun k h1 _ => setRow_other _ _ _ _ (by omega))).mono (by omega) (by simp), below_setRow BFF.out (by omega) _⟩
      · have HNO := hid (show markOk ps x y b lsn = false by rw [HOKD.out, decide_eq_false hll, Bool.and_false])
        have HLL := hid hll
        clear hll hbb
        go_wp2_with fail
        refine (spec_inP _ _ _ _).mono ?_
        rintro e wz ⟨rfl, e1⟩
        subst wz
        rw [decide_eq_true HBB.out]
        go_wp2_with fail
        refine (spec_inP _ _ _ _).mono ?_
        rintro e wz ⟨rfl, e1⟩
        subst wz
        rw [decide_eq_false HLL.out]
        go_wp2_with (refine wpList_store_row rfl 26 (.tmp 10) (.tmp 36) rfl (w.heap.size + 1) #[.slice none 0 0] rfl rfl 26 _ S2.out ?y1 ?y2 ?y3 ?_)
        case y1 => simpa using size_hp
        try (case y2 => rfl)
        case y3 => simp [Value.oneCell']
        refine bodyPost_ret (results_cell_tmp Tryz.results51 _ _ (w.heap.size + 1) 26 #[.slice none 0 0] (0, 0) _ rfl (setRow_heap _ _ _ _ _ _ S2.out) Tryz.underlying26 rfl size_hp) rfl ?_
        rw [HNO.out, markH_no HNO.out]
        exact AnsH.zero rfl (below_setRow HB6.out (by omega) _)
    · have HNO := hid (show markOk ps x y b lsn = false by rw [HOKD.out, decide_eq_false hbb]; rfl)
      have HBB := hid hbb
      clear hbb
      go_wp2_with fail
      refine (spec_inP _ _ _ _).mono ?_
      rintro e wz ⟨rfl, e1⟩
      subst wz
      rw [decide_eq_false HBB.out]
      go_wp2_with (refine wpList_store_row rfl 26 (.tmp 10) (.tmp 36) rfl (w.heap.size + 1) #[.slice none 0 0] rfl rfl 26 _ S2.out ?t1 ?t2 ?t3 ?_)
      case t1 => simpa using size_hp
      try (case t2 => rfl)
      case t3 => simp [Value.oneCell']
      refine bodyPost_ret (results_cell_tmp Tryz.results51 _ _ (w.heap.size + 1) 26 #[.slice none 0 0] (0, 0) _ rfl (setRow_heap _ _ _ _ _ _ S2.out) Tryz.underlying26 rfl size_hp) rfl ?_
      rw [HNO.out, markH_no HNO.out]
      exact AnsH.zero rfl (below_setRow HB6.out (by omega) _)
end Go.Proofs.YtebhipicfgnajaaGreat
