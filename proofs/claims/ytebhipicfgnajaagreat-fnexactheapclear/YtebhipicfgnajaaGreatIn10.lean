/- The contract of the specification's HeapClear. Conditions: what the types say. -/
import Derived.Test.YtebhipicfgnajaaGreatIm10
import Derived.Test.YtebhipicfgnajaaGreatPk
namespace Go.Proofs.YtebhipicfgnajaaGreat
open Go.RowKit
set_option maxRecDepth 100000

theorem withH_in {ps : List Pg} {q : Nat} {p : Pg} (h : q < ps.length) : withH ps q p = ps.set q p := by
  unfold withH padH
  rw [show q + 1 - ps.length = 0 by omega, List.replicate_zero, List.append_nil]
theorem OwnG.block {w : World} {lo hi n c : Nat} {a : Option Addr} {ps : List Pg} (h : OwnG w lo hi (.slice a n c) ps) (hn : ps.length = n) (h0 : 0 < n) : ∃ g, a = some ⟨g, 0, none⟩ ∧ lo ≤ g ∧ g < hi := by
  obtain ⟨ys, bs, ow, _, _⟩ := h.own
  rw [hn] at ow
  rcases ow.2 with ⟨e, e0⟩ | ⟨g, cap, cur, e, hb, _⟩
  · omega
  · cases e
    exact ⟨g, rfl, hb, h.top g rfl⟩
/-- The cells of page q may be written. -/
theorem OwnG.cells2 {w : World} {lo hi n c g q : Nat} {ps : List Pg} (h : OwnG w lo hi (.slice (some ⟨g, 0, none⟩) n c) ps) (hn : ps.length = n) (hq : q < n) : (∃ v, w.cell? ⟨g, q * 2, none⟩ = some v) ∧ (∃ v, w.cell? ⟨g, q * 2 + 1, none⟩ = some v) ∧ w.frozen? ⟨g, q * 2, none⟩ = false ∧ w.frozen? ⟨g, q * 2 + 1, none⟩ = false := by
  obtain ⟨ys, bs, ow, _, _⟩ := h.own
  rw [hn] at ow
  have hcl := ow.1
  exact ⟨⟨_, (ow.cellAt (q * 2) (by omega)).trans (List.getElem?_eq_getElem (by omega))⟩, ⟨_, (ow.cellAt (q * 2 + 1) (by omega)).trans (List.getElem?_eq_getElem (by omega))⟩, ow.frozenAt _, ow.frozenAt _⟩
/-- What page q reads. -/
theorem OwnG.page {w : World} {lo hi n c g q : Nat} {ps : List Pg} (h : OwnG w lo hi (.slice (some ⟨g, 0, none⟩) n c) ps) (hn : ps.length = n) (hq : q < n) : ∃ pa pc, w.cell? ⟨g, q * 2, none⟩ = some (.int .i64 (ps.getD q pg0).1) ∧ w.cell? ⟨g, q * 2 + 1, none⟩ = some (.slice pa (ps.getD q pg0).2.length pc) ∧ ReadsP w pa (ps.getD q pg0).2 := by
  obtain ⟨b, off, pa, pc, e, h1, h2, h3, _⟩ := h.rd.at (k := q) (by omega)
  cases e
  rw [Nat.zero_add] at h1 h2
  exact ⟨pa, pc, h1, h2, h3⟩

set_option maxHeartbeats 12800000 in
theorem spec_HeapClear {ad : Option Addr} {n : Nat} (cap : Nat) {ps : List Pg} {w : World} (h : ReadsG w ad ps) (hl : ps.length = n) (x y lsn : Int) :
    Calls Tryz.prog 52 #[.agg #[.slice ad n cap], .int .i64 x, .int .i64 y, .int .i64 lsn] w fun e w' => AnsH (clrH ps x y lsn) (clrOk ps x y lsn) w e w' := by
  obtain ⟨R1, R2, z⟩ := two_rows w (.cells #[.slice ad n cap] 26) (.cells #[.slice none 0 0] 26)
  have hB := two w (.cells #[.slice ad n cap] 26) (.cells #[.slice none 0 0] 26)
  have HB := hid hB
  have HR := hid (h.below hB (Nat.le_refl _))
  have Q1 := hid R1
  have Q2 := hid R2
  have ZW := hid z
  have c0 : ((w.alloc (.cells #[.slice ad n cap] 26)).alloc (.cells #[.slice none 0 0] 26)).cell? ⟨w.heap.size, 0, none⟩ = some (.slice ad n cap) := cell_of_row _ _ 0 _ _ _ R1
  clear h hB R1 R2 z
  go_enter Tryz.func52, Tryz.ntmps52
  go_wp2_with fail
  generalize (w.alloc (.cells #[.slice ad n cap] 26)).alloc (.cells #[.slice none 0 0] 26) = W0 at *
  refine (spec_HeapAt cap HR.out hl x y).mono ?_
  rintro e w5 ⟨⟨f1, v1, f2, v2, rfl, _, _, _, _, o1, o2, _, b5⟩⟩
  obtain ⟨a1, c3, rfl⟩ := own_sl o1
  obtain ⟨a2, c4, rfl⟩ := own_sl o2
  have hst1 := fun w a m => run_store Tryz.prog w a (.float .f64 f1) m rfl
  have hst2 := fun w a m => run_store Tryz.prog w a (.float .f64 f2) m rfl
  have HOKD := hid (show clrOk ps x y lsn = ((atH ps x y).ok && decide (1 ≤ lsn ∧ lsn ≤ 1000000)) from rfl)
  have HAT := hid (fun (q : (atH ps x y).ok = true) => (⟨atH_ok q, clrOk_page (lsn := lsn) q⟩ : (okH ps = true ∧ (0 ≤ x ∧ x ≤ (ps.length : Int) - 1) ∧ (0 ≤ y ∧ y ≤ ((ps.getD x.toNat pg0).2.length : Int) - 1)) ∧ clearOk (ps.getD x.toNat pg0).1 (ps.getD x.toNat pg0).2 y lsn = decide (1 ≤ lsn ∧ lsn ≤ 1000000)))
  clear o1 o2 c0
  generalize (atH ps x y).A = q1 at *
  generalize (atH ps x y).B = q2 at *
  generalize (atH ps x y).K = q3 at *
  generalize (atH ps x y).N = q4 at *
  generalize (atH ps x y).L = q5 at *
  generalize (atH ps x y).M = q6 at *
  generalize (atH ps x y).Z.length = q7 at *
  generalize (atH ps x y).Y.length = q8 at *
  generalize (atH ps x y).ok = ok at *
  have bX := Below.alloc1 w5 (.cells #[.int .i64 q1, .int .i64 q2, .int .i64 q3, .int .i64 q4, .float .f64 f1, .slice a1 q7 c3, .int .i64 q5, .int .i64 q6, .float .f64 f2, .slice a2 q8 c4] 40)
  have b6 := b5.trans (bX.mono b5.size)
  have hzw := ZW.out
  have S1 := hid ((b6.block w.heap.size (by omega)).trans Q1.out)
  have S2 := hid ((b6.block (w.heap.size + 1) (by omega)).trans Q2.out)
  have HR6 := hid (HR.out.below b6 (Nat.le_refl _))
  have HB6 := hid (HB.out.trans (b6.mono HB.out.size))
  have HZ6 := hid (show w.heap.size + 2 ≤ (w5.alloc (.cells #[.int .i64 q1, .int .i64 q2, .int .i64 q3, .int .i64 q4, .float .f64 f1, .slice a1 q7 c3, .int .i64 q5, .int .i64 q6, .float .f64 f2, .slice a2 q8 c4] 40)).heap.size by have := b6.size; omega)
  have c0 : (w5.alloc (.cells #[.int .i64 q1, .int .i64 q2, .int .i64 q3, .int .i64 q4, .float .f64 f1, .slice a1 q7 c3, .int .i64 q5, .int .i64 q6, .float .f64 f2, .slice a2 q8 c4] 40)).cell? ⟨w.heap.size, 0, none⟩ = some (.slice ad n cap) := cell_of_row _ _ 0 _ _ _ S1.out
  clear bX b5 b6 Q1 Q2 hzw
  cases ok with
  | false =>
    rw [Bool.false_and] at HOKD
    have HNO := hid (clrH_no HOKD.out)
    clear c0
    go_wp2_with (refine wpList_store_row rfl 26 (.tmp 8) (.tmp 29) rfl (w.heap.size + 1) #[.slice none 0 0] rfl rfl 26 _ S2.out ?s1 ?s2 ?s3 ?_)
    case s1 => simpa using size_hp
    try (case s2 => rfl)
    case s3 => simp [Value.oneCell']
    refine bodyPost_ret (results_cell_tmp Tryz.results52 _ _ (w.heap.size + 1) 26 #[.slice none 0 0] (0, 0) _ rfl (setRow_heap _ _ _ _ _ _ S2.out) Tryz.underlying26 rfl size_hp) rfl ?_
    rw [HOKD.out, HNO.out]
    exact AnsH.zero rfl (below_setRow HB6.out (by omega) _)
  | true =>
    rw [Bool.true_and] at HOKD
    obtain ⟨⟨hok, hx, hy⟩, hcl⟩ := HAT.out rfl
    obtain ⟨q, rfl⟩ : ∃ q : Nat, x = q := ⟨x.toNat, by omega⟩
    rw [Int.toNat_natCast] at hcl hy
    have HCH := hid (show clrH ps q y lsn = if decide (1 ≤ lsn ∧ lsn ≤ 1000000) = true then withH ps q (clearP (ps.getD q pg0).1 (ps.getD q pg0).2 y lsn) else [] by unfold clrH; rw [HOKD.out, Int.toNat_natCast])
    by_cases hlsn : 1 ≤ lsn ∧ lsn ≤ 1000000
    · rw [decide_eq_true hlsn] at hcl HCH HOKD
      have HLS := hid hlsn
      obtain ⟨RL, RS, hRR⟩ : ∃ RL RS, clearP (ps.getD q pg0).1 (ps.getD q pg0).2 y lsn = (RL, RS) := ⟨_, _, rfl⟩
      rw [hRR, if_pos rfl, withH_in (by omega)] at HCH
      have HOK := hid hok
      have HRR := hid hRR
      have HCL := hid hcl
      have hqn : q < n := by omega
      have hqn' : (q : Int) < (n : Int) := by omega
      have hq0 : (0 : Int) ≤ (q : Int) := by omega
      clear hlsn hok hx hy hcl hRR HAT
      go_wp2_with fail
      refine (spec_inP _ _ _ _).mono ?_
      rintro e wz ⟨rfl, e1⟩
      subst wz
      rw [decide_eq_true HLS.out]
      go_wp2_with fail
      refine (spec_l10copy cap HR6.out hl HOK.out).mono ?_
      rintro e w6 ⟨a, c, rfl, og, b6⟩
      obtain ⟨g, rfl, hg1, hg2⟩ := og.block hl (by omega)
      have bX := Below.alloc1 w6 (.cells #[.slice (some ⟨g, 0, none⟩) n c] 26)
      have b7 := b6.trans (bX.mono b6.size)
      have OG7 := hid (og.below bX (Nat.le_refl _))
      have S27 := hid ((b7.block (w.heap.size + 1) (by have := HZ6.out; omega)).trans S2.out)
      have HB7 := hid (HB6.out.trans (b7.mono HB6.out.size))
      obtain ⟨pa, pc, hp1, hp2, hrp⟩ := OG7.out.page hl hqn
      have HRP := hid hrp.rd
      have R12 := hid (heap_alloc_new w6 (.cells #[.slice (some ⟨g, 0, none⟩) n c] 26))
      have Z7 := hid (alloc_size w6 (.cells #[.slice (some ⟨g, 0, none⟩) n c] 26))
      have HGE := hid (show w.heap.size + 2 ≤ g ∧ g < w6.heap.size ∧ (w5.alloc (.cells #[.int .i64 q1, .int .i64 q2, .int .i64 q3, .int .i64 q4, .float .f64 f1, .slice a1 q7 c3, .int .i64 q5, .int .i64 q6, .float .f64 f2, .slice a2 q8 c4] 40)).heap.size ≤ g by have := HZ6.out; omega)
      have HLO := hid (show (w5.alloc (.cells #[.int .i64 q1, .int .i64 q2, .int .i64 q3, .int .i64 q4, .float .f64 f1, .slice a1 q7 c3, .int .i64 q5, .int .i64 q6, .float .f64 f2, .slice a2 q8 c4] 40)).heap.size ≤ w6.heap.size from b6.size)
      have k0 : (w6.alloc (.cells #[.slice (some ⟨g, 0, none⟩) n c] 26)).cell? ⟨w6.heap.size, 0, none⟩ = some (.slice (some ⟨g, 0, none⟩) n c) := cell_of_row _ _ 0 _ _ _ R12.out
      generalize (w5.alloc (.cells #[.int .i64 q1, .int .i64 q2, .int .i64 q3, .int .i64 q4, .float .f64 f1, .slice a1 q7 c3, .int .i64 q5, .int .i64 q6, .float .f64 f2, .slice a2 q8 c4] 40)).heap.size = LO at *
      obtain ⟨mm, hmm⟩ : ∃ mm, (ps.getD q pg0).2.length = mm := ⟨_, rfl⟩
      rw [hmm] at hp2
      have HC := hid (spec_PageClear (ps.getD q pg0).1 pc y lsn HRP.out hmm HRR.out HCL.out rfl)
      have HNe : (ps.getD q pg0) = (ps.getD q pg0) := rfl
      generalize (ps.getD q pg0).1 = PA at *
      clear og b6 bX b7 hrp hmm c0 HNe
      go_wp2_with fail
      refine HC.out.mono ?_
      rintro e w8 ⟨a', c', rfl, op, b8⟩
      have bY := Below.alloc1 w8 (.cells #[.int .i64 RL, .slice a' RS.length c'] 97)
      have b9 := b8.trans (bY.mono b8.size)
      have OG9 := hid (OG7.out.below b9 (by have := Z7.out; omega))
      have OP9 := hid (op_alloc op (.cells #[.int .i64 RL, .slice a' RS.length c'] 97))
      have S29 := (b9.block (w.heap.size + 1) (by have := Z7.out; have := HGE.out; omega)).trans S27.out
      have R29 := (b9.block w6.heap.size (by have := Z7.out; omega)).trans R12.out
      have HB9 := hid (HB7.out.trans (b9.mono HB7.out.size))
      have hz8 := b8.size
      have Z9 := hid (alloc_size w8 (.cells #[.int .i64 RL, .slice a' RS.length c'] 97))
      have hz7 := Z7.out
      have hge := HGE.out
      have hlo := HLO.out
      have hp := heap_alloc_new w8 (.cells #[.int .i64 RL, .slice a' RS.length c'] 97)
      have t0 : (w8.alloc (.cells #[.int .i64 RL, .slice a' RS.length c'] 97)).cell? ⟨w8.heap.size, 0, none⟩ = some (.int .i64 RL) := cell_of_row _ _ 0 _ _ _ hp
      have t1 : (w8.alloc (.cells #[.int .i64 RL, .slice a' RS.length c'] 97)).cell? ⟨w8.heap.size, 1, none⟩ = some (.slice a' RS.length c') := cell_of_row _ _ 1 _ _ _ hp
      have t2 : (w8.alloc (.cells #[.int .i64 RL, .slice a' RS.length c'] 97)).cell? ⟨w6.heap.size, 0, none⟩ = some (.slice (some ⟨g, 0, none⟩) n c) := cell_of_row _ _ 0 _ _ _ R29
      obtain ⟨⟨v1, hcy⟩, ⟨v2, hcz⟩, hfr, hfz⟩ := OG9.out.cells2 hl hqn
      have OGF := hid (OwnG.swap (A := RL) (lo' := LO) (hi' := (w8.alloc (.cells #[.int .i64 RL, .slice a' RS.length c'] 97)).heap.size) OG9.out hl (i := q) hqn OP9.out (.inr (by omega)) (Nat.le_refl _) (by omega) (by have := Z9.out; omega) (by have := Z9.out; omega))
      have hd : (((w8.alloc (.cells #[.int .i64 RL, .slice a' RS.length c'] 97)).setCell ⟨g, q * 2, none⟩ (.int .i64 RL)).setCell ⟨g, q * 2 + 1, none⟩ (.slice a' RS.length c')).cell? ⟨w6.heap.size, 0, none⟩ = some (.slice (some ⟨g, 0, none⟩) n c) := (World.cell?_of_block ((heap_set_ne _ g (q * 2 + 1) w6.heap.size (.slice a' RS.length c') (by omega)).trans (heap_set_ne (w8.alloc (.cells #[.int .i64 RL, .slice a' RS.length c'] 97)) g (q * 2) w6.heap.size (.int .i64 RL) (by omega)))).trans t2
      have VF := hid ((heap_set_ne _ g (q * 2 + 1) (w.heap.size + 1) (.slice a' RS.length c') (by omega)).trans ((heap_set_ne (w8.alloc (.cells #[.int .i64 RL, .slice a' RS.length c'] 97)) g (q * 2) (w.heap.size + 1) (.int .i64 RL) (by omega)).trans S29))
      have BF := hid ((HB9.out.setCell (p := ⟨g, q * 2, none⟩) (by show w.heap.size ≤ g; omega) (.int .i64 RL)).setCell (p := ⟨g, q * 2 + 1, none⟩) (by show w.heap.size ≤ g; omega) (.slice a' RS.length c'))
      have HLL := hid (show w.heap.size + 2 ≤ LO from HZ6.out)
      clear op b8 bY b9 hp S29 R29 OG9 OP9 HC k0 hp1 hp2
      go_wp2_with (refine wpList_store_row rfl 26 (.tmp 8) (.tmp 48) rfl (w.heap.size + 1) #[.slice (some ⟨g, 0, none⟩) n c] rfl rfl 26 _ VF.out ?u1 ?u2 ?u3 ?_)
      case u1 => simpa using size_hp
      try (case u2 => rfl)
      case u3 => simp [Value.oneCell']
      refine bodyPost_ret (results_cell_tmp Tryz.results52 _ _ (w.heap.size + 1) 26 #[.slice (some ⟨g, 0, none⟩) n c] (0, 0) _ rfl (setRow_heap _ _ _ _ _ _ VF.out) Tryz.underlying26 rfl size_hp) rfl ?_
      have hll := HLL.out
      have hlen : (ps.set q (RL, RS)).length = n := by rw [List.length_set, hl]
      rw [HOKD.out, HCH.out]
      exact ⟨some ⟨g, 0, none⟩, c, by rw [hlen]; rfl, by rw [hlen]; exact (OGF.out.agree (fun k h1 _ => setRow_other _ _ _ _ (by omega))).mono (by omega) (by simp), below_setRow BF.out (by omega) _⟩
    · rw [decide_eq_false hlsn] at HOKD
      have HNO := hid (clrH_no HOKD.out)
      have HLS := hid hlsn
      clear hlsn hok hx hy hcl HAT c0
      go_wp2_with fail
      refine (spec_inP _ _ _ _).mono ?_
      rintro e wz ⟨rfl, e1⟩
      subst wz
      rw [decide_eq_false HLS.out]
      go_wp2_with (refine wpList_store_row rfl 26 (.tmp 8) (.tmp 29) rfl (w.heap.size + 1) #[.slice none 0 0] rfl rfl 26 _ S2.out ?t1 ?t2 ?t3 ?_)
      case t1 => simpa using size_hp
      try (case t2 => rfl)
      case t3 => simp [Value.oneCell']
      refine bodyPost_ret (results_cell_tmp Tryz.results52 _ _ (w.heap.size + 1) 26 #[.slice none 0 0] (0, 0) _ rfl (setRow_heap _ _ _ _ _ _ S2.out) Tryz.underlying26 rfl size_hp) rfl ?_
      rw [HOKD.out, HNO.out]
      exact AnsH.zero rfl (below_setRow HB6.out (by omega) _)
end Go.Proofs.YtebhipicfgnajaaGreat
