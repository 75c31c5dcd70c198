/- The contract of the program's HeapMark. Conditions: what the types say. -/
import Derived.Test.YtebhipicfgnajaaGreatIs10
import Derived.Test.YtebhipicfgnajaaGreatHr10
namespace Go.Proofs.YtebhipicfgnajaaGreat
open Go.RowKit
set_option maxRecDepth 100000

theorem putOk_lsn {L : Int} {ss : List (List Int)} {y : Int} {z : List Int} {lsn : Int} (h : ¬ (1 ≤ lsn ∧ lsn ≤ 1000000)) : putOk L ss y z lsn = false := by
  unfold putOk
  rw [decide_eq_false h]
  simp
theorem slotH_bytes {w : World} {ad : Option Addr} {ps : List Pg} (h : ReadsG w ad ps) (x y : Int) : ∀ i, 0 ≤ (slotH ps x y).getD i 0 ∧ (slotH ps x y).getD i 0 ≤ 255 := fun i => h.bytes x.toNat y.toNat i
theorem slotH_len {ps : List Pg} {x y : Int} (h : (atH ps x y).ok = true) : (slotH ps x y).length ≤ 92 := by
  obtain ⟨h1, h2, h3⟩ := atH_ok h
  exact (okP_of (okPg_of ((okH_of h1).2 x.toNat (by omega))).1).z y.toNat

set_option maxHeartbeats 12800000 in
theorem impl_HeapMark {ad : Option Addr} {n : Nat} (cap : Nat) {ps : List Pg} {w : World} (h : ReadsG w ad ps) (hl : ps.length = n) (x y b lsn : Int) :
    Calls Tryz.prog 32 #[.agg #[.slice ad n cap], .int .i64 x, .int .i64 y, .int .i64 b, .int .i64 lsn] w fun e w' => AnsH (markHp ps x y b lsn) (markOk ps x y b lsn) w e w' := by
  obtain ⟨R1, R2, z⟩ := two_rows w (.cells #[.slice ad n cap] 26) (.cells #[.slice none 0 0] 26)
  have hB := two w (.cells #[.slice ad n cap] 26) (.cells #[.slice none 0 0] 26)
  have HB := hid hB
  have HR := hid (h.below hB (Nat.le_refl _))
  have Q1 := hid R1
  have Q2 := hid R2
  have ZW := hid z
  have HBS := hid (slotH_bytes h x y)
  have c0 : ((w.alloc (.cells #[.slice ad n cap] 26)).alloc (.cells #[.slice none 0 0] 26)).cell? ⟨w.heap.size, 0, none⟩ = some (.slice ad n cap) := cell_of_row _ _ 0 _ _ _ R1
  clear h hB R1 R2 z
  go_enter Tryz.func32, Tryz.ntmps32
  go_wp2_with fail
  generalize (w.alloc (.cells #[.slice ad n cap] 26)).alloc (.cells #[.slice none 0 0] 26) = W0 at *
  refine (impl_HeapAt cap HR.out hl x y).mono ?_
  rintro e w5 ⟨⟨f1, v1, f2, v2, rfl, hf1, hf2, sf1, sf2, o1, o2, hap, b5⟩⟩
  obtain ⟨a1, c3, rfl⟩ := own_sl o1
  obtain ⟨a2, c4, rfl⟩ := own_sl o2
  have hst1 := fun w a m => run_store Tryz.prog w a (.float .f64 f1) m rfl
  have hst2 := fun w a m => run_store Tryz.prog w a (.float .f64 f2) m rfl
  have HOKD := hid (show markOk ps x y b lsn = ((atH ps x y).ok && decide (0 ≤ b ∧ b ≤ 400) && decide (1 ≤ lsn ∧ lsn ≤ 1000000)) from rfl)
  obtain ⟨T, hT⟩ : ∃ T, atH ps x y = T := ⟨_, rfl⟩
  have HAT := hid (fun (q : (atH ps x y).ok = true) => (⟨atH_ok q, atH_slot q, slotH_len q⟩ : (okH ps = true ∧ (0 ≤ x ∧ x ≤ (ps.length : Int) - 1) ∧ (0 ≤ y ∧ y ≤ ((ps.getD x.toNat pg0).2.length : Int) - 1)) ∧ (atH ps x y = readT (slotH ps x y) ∧ (readT (slotH ps x y)).ok = true) ∧ (slotH ps x y).length ≤ 92))
  have HMP := hid (fun (q : (atH ps x y).ok = true) (hb : 0 ≤ b ∧ b ≤ 400) (hl : 1 ≤ lsn ∧ lsn ≤ 1000000) => mark_page (ps := ps) (x := x) (y := y) (b := b) (lsn := lsn) q hb hl)
  rw [hT] at HOKD HAT HMP o1 o2 sf1 sf2 hap ⊢
  have HT := hid hT
  obtain ⟨q1, q2, q3, q4, TF, TZ, q5, q6, TG, TY, ok⟩ := T
  dsimp only at HOKD HAT HMP o1 o2 sf1 sf2 hap ⊢
  have hzl : ok = true → TZ.length ≤ 92 ∧ TY.length ≤ 92 := fun q => by
    have e := (HAT.out q).2.1.1
    have r := readT_len (slotH ps x y)
    rw [← e] at r
    have := (HAT.out q).2.2
    dsimp only at r
    omega
  have HZL := hid hzl
  obtain ⟨q7, hq7⟩ : ∃ q7, TZ.length = q7 := ⟨_, rfl⟩
  obtain ⟨q8, hq8⟩ : ∃ q8, TY.length = q8 := ⟨_, rfl⟩
  rw [hq7] at o1 hap ⊢
  rw [hq8] at o2 hap ⊢
  have HQ7 := hid hq7
  have HQ8 := hid hq8
  have O1 := hid o1
  have O2 := hid o2
  have bX := Below.alloc1 w5 (.cells #[.int .i64 q1, .int .i64 q2, .int .i64 q3, .int .i64 q4, .float .f64 f1, .slice a1 q7 c3, .int .i64 q5, .int .i64 q6, .float .f64 f2, .slice a2 q8 c4] 40)
  have b6 := b5.trans (bX.mono b5.size)
  have hzw := ZW.out
  have S1 := hid ((b6.block w.heap.size (by omega)).trans Q1.out)
  have S2 := hid ((b6.block (w.heap.size + 1) (by omega)).trans Q2.out)
  have HR6 := hid (HR.out.below b6 (Nat.le_refl _))
  have HB6 := hid (HB.out.trans (b6.mono HB.out.size))
  have HZ6 := hid (show w.heap.size + 2 ≤ w5.heap.size by have := b5.size; omega)
  have S15 := hid ((b5.block w.heap.size (by omega)).trans Q1.out)
  have S25 := hid ((b5.block (w.heap.size + 1) (by omega)).trans Q2.out)
  have HR50 := hid (HR.out.below b5 (Nat.le_refl _))
  have HB50 := hid (HB.out.trans (b5.mono HB.out.size))
  clear bX b5 b6 Q1 Q2 hzw c0 o1 o2 hT hzl hq7 hq8
  cases ok with
  | false =>
    have HNO := hid (show markOk ps x y b lsn = false by rw [HOKD.out]; rfl)
    go_wp2_with (refine wpList_store_row rfl 26 (.tmp 10) (.tmp 28) rfl (w.heap.size + 1) #[.slice none 0 0] rfl rfl 26 _ S2.out ?s1 ?s2 ?s3 ?_)
    case s1 => simpa using size_hp
    try (case s2 => rfl)
    case s3 => simp [Value.oneCell']
    refine bodyPost_ret (results_cell_tmp Tryz.results32 _ _ (w.heap.size + 1) 26 #[.slice none 0 0] (0, 0) _ rfl (setRow_heap _ _ _ _ _ _ S2.out) Tryz.underlying26 rfl size_hp) rfl ?_
    rw [HNO.out, markH_no HNO.out]
    exact AnsH.zero rfl (below_setRow HB6.out (by omega) _)
  | true =>
    by_cases hbb : 0 ≤ b ∧ b ≤ 400
    · have HBB := hid hbb
      obtain ⟨⟨hok, hx, hy⟩, ⟨hsl, hso⟩, hsn⟩ := HAT.out rfl
      obtain ⟨q, rfl⟩ : ∃ q : Nat, x = q := ⟨x.toNat, by omega⟩
      have mb := mark_bytes (f1 := f1) (f2 := f2) hso HBS.out (by rw [← hsl]; exact sf1.out) (by rw [← hsl]; exact sf2.out) hbb
      rw [← hsl] at mb
      dsimp only at mb
      rw [HQ7.out, HQ8.out] at mb
      obtain ⟨mb1, mb2, mb3, mb4⟩ := mb
      have hzl := HZL.out rfl
      rw [HQ7.out, HQ8.out] at hzl
      obtain ⟨RL, RS, hRR⟩ : ∃ RL RS, putP (ps.getD q pg0).1 (ps.getD q pg0).2 y (markB (slotH ps q y) b) lsn = (RL, RS) := ⟨_, _, rfl⟩
      obtain ⟨OK, hOK⟩ : ∃ OK, decide (1 ≤ lsn ∧ lsn ≤ 1000000) = OK := ⟨_, rfl⟩
      have hkk : putOk (ps.getD q pg0).1 (ps.getD q pg0).2 y (markB (slotH ps q y) b) lsn = OK := by
        by_cases e : 1 ≤ lsn ∧ lsn ≤ 1000000
        · rw [← hOK, decide_eq_true e]; have := HMP.out rfl hbb e; rwa [Int.toNat_natCast] at this
        · rw [← hOK, decide_eq_false e]; exact putOk_lsn e
      have HPO := hid (show markOk ps (q : Int) y b lsn = OK by rw [HOKD.out, decide_eq_true hbb, hOK]; rfl)
      have HPH0 := hid (show markHp ps (q : Int) y b lsn = if OK = true then withH ps q (RL, RS) else [] by unfold markHp; rw [HPO.out, Int.toNat_natCast, hRR])
      have b57 : Below w5.heap.size w5 (w5.alloc (.cells #[.int .i64 q1, .int .i64 b, .int .i64 q3, .int .i64 q4, .float .f64 f1, .slice a1 q7 c3, .int .i64 q5, .int .i64 q6, .float .f64 f2, .slice a2 q8 c4] 40)) := Below.alloc1 w5 _
      have RK := reads_of10 (O1.out) (by have := readT_bd (zs := slotH ps q y) HBS.out (by omega); rw [← hsl] at this; exact this.1)
      have RV := reads_of10 (O2.out) (by have := readT_bd (zs := slotH ps q y) HBS.out (by omega); rw [← hsl] at this; exact this.2.2.1)
      have HR5 := hid (HR50.out.below b57 (Nat.le_refl _))
      have HC := hid (impl_withTuple cap (q := q) (RL := RL) (RS := RS) (ok := OK) y lsn q1 b q3 q4 c3 q5 q6 c4 HR5.out hl hok (by omega) (RK.below b57 (Nat.le_refl _)) (RV.below b57 (Nat.le_refl _)) (own_nil10 O1.out) (own_nil10 O2.out) (by omega) (by omega) mb3 mb4 hf1 hf2 (by rw [mb2]; exact hRR) (by rw [mb2]; exact hkk))
      have RW := heap_alloc_new w5 (.cells #[.int .i64 q1, .int .i64 q2, .int .i64 q3, .int .i64 q4, .float .f64 f1, .slice a1 q7 c3, .int .i64 q5, .int .i64 q6, .float .f64 f2, .slice a2 q8 c4] 40)
      have RM : (w5.alloc (.cells #[.int .i64 q1, .int .i64 b, .int .i64 q3, .int .i64 q4, .float .f64 f1, .slice a1 q7 c3, .int .i64 q5, .int .i64 q6, .float .f64 f2, .slice a2 q8 c4] 40)).heap[w5.heap.size]? = some (.cells #[.int .i64 q1, .int .i64 b, .int .i64 q3, .int .i64 q4, .float .f64 f1, .slice a1 q7 c3, .int .i64 q5, .int .i64 q6, .float .f64 f2, .slice a2 q8 c4] 40) := heap_alloc_new w5 _
      have g1 : (w5.alloc (.cells #[.int .i64 q1, .int .i64 q2, .int .i64 q3, .int .i64 q4, .float .f64 f1, .slice a1 q7 c3, .int .i64 q5, .int .i64 q6, .float .f64 f2, .slice a2 q8 c4] 40)).cell? ⟨w5.heap.size, 1, none⟩ = some (.int .i64 q2) := cell_of_row _ _ 1 _ _ _ RW
      have g2 : (w5.alloc (.cells #[.int .i64 q1, .int .i64 q2, .int .i64 q3, .int .i64 q4, .float .f64 f1, .slice a1 q7 c3, .int .i64 q5, .int .i64 q6, .float .f64 f2, .slice a2 q8 c4] 40)).frozen? ⟨w5.heap.size, 1, none⟩ = false := frozen_of_row _ _ _ _ _ RW
      have u0 : (w5.alloc (.cells #[.int .i64 q1, .int .i64 b, .int .i64 q3, .int .i64 q4, .float .f64 f1, .slice a1 q7 c3, .int .i64 q5, .int .i64 q6, .float .f64 f2, .slice a2 q8 c4] 40)).cell? ⟨w5.heap.size, 0, none⟩ = some (.int .i64 q1) := cell_of_row _ _ 0 _ _ _ RM
      have u1 : (w5.alloc (.cells #[.int .i64 q1, .int .i64 b, .int .i64 q3, .int .i64 q4, .float .f64 f1, .slice a1 q7 c3, .int .i64 q5, .int .i64 q6, .float .f64 f2, .slice a2 q8 c4] 40)).cell? ⟨w5.heap.size, 1, none⟩ = some (.int .i64 b) := cell_of_row _ _ 1 _ _ _ RM
      have u2 : (w5.alloc (.cells #[.int .i64 q1, .int .i64 b, .int .i64 q3, .int .i64 q4, .float .f64 f1, .slice a1 q7 c3, .int .i64 q5, .int .i64 q6, .float .f64 f2, .slice a2 q8 c4] 40)).cell? ⟨w5.heap.size, 2, none⟩ = some (.int .i64 q3) := cell_of_row _ _ 2 _ _ _ RM
      have u3 : (w5.alloc (.cells #[.int .i64 q1, .int .i64 b, .int .i64 q3, .int .i64 q4, .float .f64 f1, .slice a1 q7 c3, .int .i64 q5, .int .i64 q6, .float .f64 f2, .slice a2 q8 c4] 40)).cell? ⟨w5.heap.size, 3, none⟩ = some (.int .i64 q4) := cell_of_row _ _ 3 _ _ _ RM
      have u4 : (w5.alloc (.cells #[.int .i64 q1, .int .i64 b, .int .i64 q3, .int .i64 q4, .float .f64 f1, .slice a1 q7 c3, .int .i64 q5, .int .i64 q6, .float .f64 f2, .slice a2 q8 c4] 40)).cell? ⟨w5.heap.size, 4, none⟩ = some (.float .f64 f1) := cell_of_row _ _ 4 _ _ _ RM
      have u5 : (w5.alloc (.cells #[.int .i64 q1, .int .i64 b, .int .i64 q3, .int .i64 q4, .float .f64 f1, .slice a1 q7 c3, .int .i64 q5, .int .i64 q6, .float .f64 f2, .slice a2 q8 c4] 40)).cell? ⟨w5.heap.size, 5, none⟩ = some (.slice a1 q7 c3) := cell_of_row _ _ 5 _ _ _ RM
      have u6 : (w5.alloc (.cells #[.int .i64 q1, .int .i64 b, .int .i64 q3, .int .i64 q4, .float .f64 f1, .slice a1 q7 c3, .int .i64 q5, .int .i64 q6, .float .f64 f2, .slice a2 q8 c4] 40)).cell? ⟨w5.heap.size, 6, none⟩ = some (.int .i64 q5) := cell_of_row _ _ 6 _ _ _ RM
      have u7 : (w5.alloc (.cells #[.int .i64 q1, .int .i64 b, .int .i64 q3, .int .i64 q4, .float .f64 f1, .slice a1 q7 c3, .int .i64 q5, .int .i64 q6, .float .f64 f2, .slice a2 q8 c4] 40)).cell? ⟨w5.heap.size, 7, none⟩ = some (.int .i64 q6) := cell_of_row _ _ 7 _ _ _ RM
      have u8 : (w5.alloc (.cells #[.int .i64 q1, .int .i64 b, .int .i64 q3, .int .i64 q4, .float .f64 f1, .slice a1 q7 c3, .int .i64 q5, .int .i64 q6, .float .f64 f2, .slice a2 q8 c4] 40)).cell? ⟨w5.heap.size, 8, none⟩ = some (.float .f64 f2) := cell_of_row _ _ 8 _ _ _ RM
      have u9 : (w5.alloc (.cells #[.int .i64 q1, .int .i64 b, .int .i64 q3, .int .i64 q4, .float .f64 f1, .slice a1 q7 c3, .int .i64 q5, .int .i64 q6, .float .f64 f2, .slice a2 q8 c4] 40)).cell? ⟨w5.heap.size, 9, none⟩ = some (.slice a2 q8 c4) := cell_of_row _ _ 9 _ _ _ RM
      have hz6 := HZ6.out
      have X1 : (w5.alloc (.cells #[.int .i64 q1, .int .i64 b, .int .i64 q3, .int .i64 q4, .float .f64 f1, .slice a1 q7 c3, .int .i64 q5, .int .i64 q6, .float .f64 f2, .slice a2 q8 c4] 40)).heap[w.heap.size]? = _ := (b57.block w.heap.size (by omega)).trans S15.out
      have c1 : (w5.alloc (.cells #[.int .i64 q1, .int .i64 b, .int .i64 q3, .int .i64 q4, .float .f64 f1, .slice a1 q7 c3, .int .i64 q5, .int .i64 q6, .float .f64 f2, .slice a2 q8 c4] 40)).cell? ⟨w.heap.size, 0, none⟩ = some (.slice ad n cap) := cell_of_row _ _ 0 _ _ _ X1
      have X2 := hid ((b57.block (w.heap.size + 1) (by omega)).trans S25.out)
      have HB57 := hid (HB50.out.trans (b57.mono HB50.out.size))
      have HS7 := hid b57.size
      clear hbb hok hx hy hsl hso hsn mb1 mb2 mb3 mb4 hzl hRR hOK hkk RK RV RW RM X1 b57
      go_wp2_with fail
      refine (impl_inP _ _ _ _).mono ?_
      rintro e wz ⟨rfl, e1⟩
      subst wz
      rw [decide_eq_true HBB.out]
      go_wp2_with fail
      clear u0 u1 u2 u3 u4 u5 u6 u7 u8 u9 g1 g2 c1
      refine HC.out.mono ?_
      rintro e w7 ⟨v7, c7, rfl, og, b7⟩
      have U4 := hid ((b7.block (w.heap.size + 1) (by have := HS7.out; omega)).trans X2.out)
      have HB7 := hid (HB57.out.trans (b7.mono HB57.out.size))
      have OG := hid og
      have hs7 := HS7.out
      clear b7 og HC
      obtain ⟨QS, hQS⟩ : ∃ QS, (if OK = true then withH ps q (RL, RS) else []) = QS := ⟨_, rfl⟩
      rw [hQS] at OG ⊢
      have HQS := hid hQS
      clear hQS
      cases OK with
      | true =>
        have HPH := hid (show markHp ps (q : Int) y b lsn = withH ps q (RL, RS) by have := HPH0.out; simpa using this)
        have HQ2 := hid (show withH ps q (RL, RS) = QS by have := HQS.out; simpa using this)
        obtain ⟨NN, hNN⟩ : ∃ N, QS.length = N := ⟨_, rfl⟩
        rw [hNN] at OG ⊢
        have HNN := hid hNN
        clear hNN
        go_wp2_with (refine wpList_store_row rfl 26 (.tmp 10) (.tmp 37) rfl (w.heap.size + 1) #[.slice v7 NN c7] rfl rfl 26 _ U4.out ?w1 ?w2 ?w3 ?_)
        case w1 => simpa using size_hp
        try (case w2 => rfl)
        case w3 => simp [Value.oneCell']
        refine bodyPost_ret (results_cell_tmp Tryz.results32 _ _ (w.heap.size + 1) 26 #[.slice v7 NN c7] (0, 0) _ rfl (setRow_heap _ _ _ _ _ _ U4.out) Tryz.underlying26 rfl size_hp) rfl ?_
        rw [HPO.out, HPH.out, HQ2.out]
        exact ⟨v7, c7, by rw [HNN.out]; rfl, by rw [HNN.out]; exact (OG.out.agree (fun k h1 _ => setRow_other _ _ _ _ (by omega))).mono (by omega) (by simp), below_setRow HB7.out (by omega) _⟩
      | false =>
        have HPH := hid (show markHp ps (q : Int) y b lsn = ([] : List Pg) by have := HPH0.out; simpa using this)
        have HQ2 := hid (show ([] : List Pg) = QS by have := HQS.out; simpa using this)
        obtain ⟨NN, hNN⟩ : ∃ N, QS.length = N := ⟨_, rfl⟩
        rw [hNN] at OG ⊢
        have HNN := hid hNN
        clear hNN
        go_wp2_with (refine wpList_store_row rfl 26 (.tmp 10) (.tmp 37) rfl (w.heap.size + 1) #[.slice v7 NN c7] rfl rfl 26 _ U4.out ?w1 ?w2 ?w3 ?_)
        case w1 => simpa using size_hp
        try (case w2 => rfl)
        case w3 => simp [Value.oneCell']
        refine bodyPost_ret (results_cell_tmp Tryz.results32 _ _ (w.heap.size + 1) 26 #[.slice v7 NN c7] (0, 0) _ rfl (setRow_heap _ _ _ _ _ _ U4.out) Tryz.underlying26 rfl size_hp) rfl ?_
        rw [HPO.out, HPH.out, HQ2.out]
        exact ⟨v7, c7, by rw [HNN.out]; rfl, by rw [HNN.out]; exact (OG.out.agree (fun k h1 _ => setRow_other _ _ _ _ (by omega))).mono (by omega) (by simp), below_setRow HB7.out (by omega) _⟩
    · have HNO := hid (show markOk ps x y b lsn = false by rw [HOKD.out, decide_eq_false hbb]; rfl)
      have HBB := hid hbb
      clear hbb
      go_wp2_with fail
      refine (impl_inP _ _ _ _).mono ?_
      rintro e wz ⟨rfl, e1⟩
      subst wz
      rw [decide_eq_false HBB.out]
      go_wp2_with (refine wpList_store_row rfl 26 (.tmp 10) (.tmp 28) rfl (w.heap.size + 1) #[.slice none 0 0] rfl rfl 26 _ S2.out ?t1 ?t2 ?t3 ?_)
      case t1 => simpa using size_hp
      try (case t2 => rfl)
      case t3 => simp [Value.oneCell']
      refine bodyPost_ret (results_cell_tmp Tryz.results32 _ _ (w.heap.size + 1) 26 #[.slice none 0 0] (0, 0) _ rfl (setRow_heap _ _ _ _ _ _ S2.out) Tryz.underlying26 rfl size_hp) rfl ?_
      rw [HNO.out, markH_no HNO.out]
      exact AnsH.zero rfl (below_setRow HB6.out (by omega) _)
end Go.Proofs.YtebhipicfgnajaaGreat
