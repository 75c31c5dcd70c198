/- The contracts of the specification's HeapOk and HeapPlace. Conditions: what the types say. -/
import Derived.Test.YtkfhfjghfadofaaGreatMgc
import Derived.Test.YtkfhfjghfadofaaGreatTrcc
import Derived.Test.YtkfhfjghfadofaaGreatPw
namespace Go.Proofs.YtkfhfjghfadofaaGreat
open Go.RowKit
set_option maxRecDepth 100000
set_option maxHeartbeats 3200000 in
theorem spec_HeapOk {ad : Option Addr} {n : Nat} (cap : Nat) {ps : List Pg} {w : World} (h : ReadsG w ad ps) (hl : ps.length = n) :
 Calls Tryz.prog 27 #[.agg #[.slice ad n cap]] w fun e w' => e = .returned (.bool (okH ps)) ∧ Below w.heap.size w w' := by
 have HB := hid (Below.alloc1 w (.cells #[.slice ad n cap] 26))
 have HR := hid (h.below HB.out (Nat.le_refl _))
 have hc0 := box1 w (.slice ad n cap) 26
 have hbx := alloc_size w (.cells #[.slice ad n cap] 26)
 have HBX := hid (show w.heap.size < (w.alloc (.cells #[.slice ad n cap] 26)).heap.size by omega)
 clear h hbx
 by_cases h16 : 16 < n
 · rw [okH_long (by omega)]
   have h16' : (16 : Int) < (n : Int) := by omega
   clear hc0
   go_enter Tryz.func27, Tryz.ntmps27
   go_wp2_with fail
   go_ret
   exact ⟨rfl, HB.out⟩
 have h16' : ¬ (16 : Int) < (n : Int) := by omega
 have C0 := hid hc0
 clear hc0
 go_enter Tryz.func27, Tryz.ntmps27
 go_wp2_with fail
 generalize w.alloc (.cells #[.slice ad n cap] 26) = W at *
 go_loopw [3, 4, 5, 6, 7] (fun i _ _ _ _ wr => ∃ j : Nat, j ≤ n ∧ i = .int .i64 j ∧ Hid (∀ q, q < j → okPg (ps.getD q pg0) = true) ∧ Hid (Below W.heap.size W wr)) (fun i _ _ _ _ _ => n - (intOf i).toNat)
 case atStart => exact ⟨0, Nat.zero_le _, rfl, hid (fun q hq => by omega), hid (Below.refl _ _)⟩
 case round =>
  obtain ⟨j, hj, rfl, HA, HS⟩ := hrel
  have hb0 := (HS.out.cell (p := ⟨w.heap.size, 0, none⟩) HBX.out).trans C0.out
  by_cases hlt : j < n
  · have hlt' : (j : Int) < (n : Int) := by omega
    have hj0 : (0 : Int) ≤ (j : Int) := by omega
    obtain ⟨b, off, a, c, rfl, hca0, hcx0, hr0, hmx⟩ := HR.out.at (k := j) (by omega)
    have bl := World.block_lt_of_cell? W _ hca0
    have hca := (HS.out.cell (p := ⟨b, off + j * 2, none⟩) bl).trans hca0
    have hcx := (HS.out.cell (p := ⟨b, off + j * 2 + 1, none⟩) bl).trans hcx0
    have HBad := hid (fun q => okH_bad (ps := ps) (i := j) (by omega) q)
    have HN := hid (fun (q : okPg (ps.getD j pg0) = true) (i : Nat) (hi : i < j + 1) => show okPg (ps.getD i pg0) = true from by
     by_cases e : i = j
     · subst e; exact q
     · exact HA.out i (by omega))
    have hr1 := hr0.below HS.out (Nat.le_refl _)
    generalize ps.getD j pg0 = p at hca hcx hr1 HBad HN hmx
    obtain ⟨A, ss⟩ := p
    obtain ⟨m, hm⟩ : ∃ m, ss.length = m := ⟨_, rfl⟩
    simp only at hca hcx hr1 HBad HN hmx
    rw [hm] at hcx hmx
    have BO := Below.alloc1 wr (.cells #[.int .i64 A, .slice a m c] 87)
    have RB := hid (heap_alloc_new wr (.cells #[.int .i64 A, .slice a m c] 87))
    have ZB := hid (alloc_size wr (.cells #[.int .i64 A, .slice a m c] 87))
    have hr := hid (hr1.below BO (Nat.le_refl _))
    replace HS := hid (HS.out.trans (BO.mono HS.out.size))
    have HM := hid hm
    clear hca0 hcx0 hr0 hr1 bl HA BO hm
    go_wp2_with fail
    refine (spec_PageUsed A c hr.out.rd HM.out).mono ?_
    rintro e w2 ⟨rfl, b2⟩
    have T2 := hid ((b2.block wr.heap.size (by rw [ZB.out]; omega)).trans RB.out)
    have hzw := hid (show wr.heap.size < w2.heap.size by have := b2.size; have := ZB.out; omega)
    replace HS := hid (HS.out.trans (b2.mono HS.out.size))
    replace hr := hid (hr.out.below b2 (Nat.le_refl _))
    clear b2 hca hcx hb0 RB ZB
    rcases usedP_bd (L := A) (ss := ss) with ⟨hok, hu⟩ | ⟨hok, hu1, hu2⟩
    · rw [hu]
      go_wp2_with fail
      go_ret
      exact ⟨by rw [HBad.out (okPg_p hok)]; rfl, HB.out.trans (HS.out.mono HB.out.size)⟩
    · generalize usedP A ss = U at *
      have hu0 : ¬ U < 0 := by omega
      have HOK := hid hok
      have HZ := hid (okP_of hok).z
      have hm16 : m ≤ 16 := by have := (okP_of hok).n; have := HM.out; omega
      have hd1 : w2.cell? ⟨wr.heap.size, 1, none⟩ = some (.slice a m c) := by rw [cell_of_row _ _ _ _ _ _ T2.out]; rfl
      clear hok hu1 hu2
      go_wp2_with fail
      clear hu0 hd1
      generalize wr.heap.size = P0 at T2 hzw ⊢
      go_loopw [5, 6, 7] (fun i _ _ wi => ∃ q : Nat, q ≤ m ∧ i = .int .i64 q ∧ Hid (∀ r, r < q → slotOk (ss.getD r []) = true) ∧ Hid (Below w2.heap.size w2 wi)) (fun i _ _ _ => m - (intOf i).toNat)
      case atStart => exact ⟨0, Nat.zero_le _, rfl, hid (fun q hq => by omega), hid (Below.refl _ _)⟩
      case round =>
       obtain ⟨q, hq, rfl, HA, HI⟩ := hrel
       have hd1 : wr.cell? ⟨P0, 1, none⟩ = some (.slice a m c) := (HI.out.cell (p := ⟨P0, 1, none⟩) hzw.out).trans (by rw [cell_of_row _ _ _ _ _ _ T2.out]; rfl)
       by_cases hlq : q < m
       · have hlq' : (q : Int) < (m : Int) := by omega
         have hq0 : (0 : Int) ≤ (q : Int) := by omega
         obtain ⟨b3, off3, a3, c3, rfl, hs0, hrs0, hnil, hroom⟩ := hr.out.at (k := q) (by rw [HM.out]; exact hlq)
         have bl3 := World.block_lt_of_cell? w2 _ hs0
         have hs1 := (HI.out.cell (p := ⟨b3, off3 + q, none⟩) bl3).trans hs0
         have hrs := hid (hrs0.below HI.out (Nat.le_refl _))
         have hz92 := HZ.out q
         have HBs := hid (fun z => okPg_bad (A := A) (ss := ss) (i := q) (by rw [HM.out]; exact hlq) z)
         have HNs := hid (fun (z : slotOk (ss.getD q []) = true) (r : Nat) (hrr : r < q + 1) => show slotOk (ss.getD r []) = true from by
          by_cases e : r = q
          · subst e; exact z
          · exact HA.out r (by omega))
         have hTbd := readT_bd (zs := ss.getD q []) hrs0.bd (by omega)
         generalize ss.getD q [] = zz at hs1 hrs hz92 HBs HNs hroom hTbd
         obtain ⟨l, hlz⟩ : ∃ l, zz.length = l := ⟨_, rfl⟩
         rw [hlz] at hs1 hz92 hroom hrs
         have HLZ := hid hlz
         have BD1 := hid hTbd.1
         have BD2 := hid hTbd.2.2.1
         clear hs0 hrs0 HA hTbd hlz
         go_wp2_with fail
         refine (spec_TupleRead_any c3 hroom hrs.out (by omega)).mono ?_
         rintro e w5 ⟨f1, v1, f2, v2, rfl, _, _, _, _, o1, o2, _, b5⟩
         obtain ⟨a1, c1, rfl⟩ := own_sl o1
         obtain ⟨a2, c2, rfl⟩ := own_sl o2
         have hst1 := fun w a m => run_store Tryz.prog w a (.float .f64 f1) m rfl
         have hst2 := fun w a m => run_store Tryz.prog w a (.float .f64 f2) m rfl
         have bX := Below.alloc1 w5 (.cells #[.int .i64 (readT zz).A, .int .i64 (readT zz).B, .int .i64 (readT zz).K, .int .i64 (readT zz).N, .float .f64 f1, .slice a1 (readT zz).Z.length c1, .int .i64 (readT zz).L, .int .i64 (readT zz).M, .float .f64 f2, .slice a2 (readT zz).Y.length c2] 31)
         have b6 := b5.trans (bX.mono b5.size)
         replace HI := hid (HI.out.trans (b6.mono HI.out.size))
         have BQ := hid (show P0 < wr.heap.size from World.block_lt_of_cell? wr _ hd1)
         have BQ3 := hid (show b3 < wr.heap.size from World.block_lt_of_cell? wr _ hs1)
         have k1 := (b6.cell (p := ⟨P0, 1, none⟩) BQ.out).trans hd1
         have k2 := (b6.cell (p := ⟨b3, off3 + q, none⟩) BQ3.out).trans hs1
         clear b5 bX b6 hd1 hs1 o1 o2 bl3
         have HOKT := hid (show slotOk zz = (decide (l = 0) || (readT zz).ok) by unfold slotOk; rw [HLZ.out])
         generalize (readT zz).A = q1 at *
         generalize (readT zz).B = q2 at *
         generalize (readT zz).K = q3 at *
         generalize (readT zz).N = q4 at *
         generalize (readT zz).L = q5 at *
         generalize (readT zz).M = q6 at *
         generalize (readT zz).Z.length = q7 at *
         generalize (readT zz).Y.length = q8 at *
         generalize (readT zz).ok = ok at *
         by_cases hl0 : 0 < l
         · have hl0' : (0 : Int) < (l : Int) := by omega
           rw [decide_eq_false (by omega)] at HOKT
           cases ok with
           | false =>
            go_wp2_with fail
            go_ret
            exact ⟨by rw [HBad.out (HBs.out HOKT.out)]; rfl, HB.out.trans ((HS.out.trans (HI.out.mono HS.out.size)).mono HB.out.size)⟩
           | true =>
            go_wp2_with fail
            go_roundw
            case rel => exact ⟨q + 1, by omega, by go_num, hid (HNs.out HOKT.out), HI⟩
            case measure => simp [intOf]; omega
         · have hl0' : ¬ (0 : Int) < (l : Int) := by omega
           rw [decide_eq_true (by omega), Bool.true_or] at HOKT
           go_wp2_with fail
           go_roundw
           case rel => exact ⟨q + 1, by omega, by go_num, hid (HNs.out HOKT.out), HI⟩
           case measure => simp [intOf]; omega
       · have hlq' : ¬ (q : Int) < (m : Int) := by omega
         have HG := hid (HN.out (okPg_yes HOK.out (fun i hi => HA.out i (by rw [HM.out] at hi; omega))))
         have HSn := hid (HS.out.trans (HI.out.mono HS.out.size))
         go_wp2_with fail
         go_roundw
         case rel => exact ⟨j + 1, by omega, by go_num, HG, HSn⟩
         case measure => simp [intOf]; omega
  · have hlt' : ¬ (j : Int) < (n : Int) := by omega
    go_wp2_with fail
    go_ret
    exact ⟨by rw [okH_yes (by omega) (fun i hi => HA.out i (by omega))]; rfl, HB.out.trans (HS.out.mono HB.out.size)⟩
end Go.Proofs.YtkfhfjghfadofaaGreat
