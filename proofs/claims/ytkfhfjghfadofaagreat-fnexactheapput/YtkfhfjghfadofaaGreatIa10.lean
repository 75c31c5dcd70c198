/- The contracts of the program's isTupleOrFree, holdsTuples and HeapOk. Conditions: what the types say. -/
import Derived.Test.YtkfhfjghfadofaaGreatMgc
import Derived.Test.YtkfhfjghfadofaaGreatMgd
namespace Go.Proofs.YtkfhfjghfadofaaGreat
open Go.RowKit
set_option maxRecDepth 100000
set_option maxHeartbeats 3200000 in
theorem impl_isTupleOrFree {ad : Option Addr} {n : Nat} (cap : Nat) (hc : n ≤ cap) {zs : List Int} {w : World} (h : Reads w ad n zs) (hn : n ≤ 1048576) :
 Calls Tryz.prog 112 #[.slice ad n cap] w fun e w' => e = .returned (.bool (slotOk zs)) ∧ Below w.heap.size w w' := by
 have HS := hid (show slotOk zs = (decide (n = 0) || (readT zs).ok) by unfold slotOk; rw [h.len])
 have hT := impl_TupleRead cap hc h hn
 have hTbd := readT_bd (zs := zs) h.bd (by have := h.len; omega)
 have BD1 := hid hTbd.1
 have BD2 := hid hTbd.2.2.1
 clear h hTbd
 go_enter Tryz.func112, Tryz.ntmps112
 go_wp2_with fail
 refine hT.mono ?_
 rintro e w5 ⟨f1, v1, f2, v2, rfl, _, _, _, _, o1, o2, _, b5⟩
 obtain ⟨a1, c1, rfl⟩ := own_sl o1
 obtain ⟨a2, c2, rfl⟩ := own_sl o2
 have hst1 := fun w a m => run_store Tryz.prog w a (.float .f64 f1) m rfl
 have hst2 := fun w a m => run_store Tryz.prog w a (.float .f64 f2) m rfl
 clear o1 o2 hT
 generalize (readT zs).A = q1 at *
 generalize (readT zs).B = q2 at *
 generalize (readT zs).K = q3 at *
 generalize (readT zs).N = q4 at *
 generalize (readT zs).L = q5 at *
 generalize (readT zs).M = q6 at *
 generalize (readT zs).Z.length = q7 at *
 generalize (readT zs).Y.length = q8 at *
 generalize (readT zs).ok = ok at *
 have HB := hid (b5.trans ((Below.alloc1 w5 (.cells #[.int .i64 q1, .int .i64 q2, .int .i64 q3, .int .i64 q4, .float .f64 f1, .slice a1 q7 c1, .int .i64 q5, .int .i64 q6, .float .f64 f2, .slice a2 q8 c2] 31)).mono b5.size))
 clear b5
 cases ok with
 | true =>
  go_wp2_with fail
  go_ret
  exact ⟨by rw [HS.out, Bool.or_true]; rfl, HB.out⟩
 | false =>
  go_wp2_with fail
  refine (impl_isFree _ _ _ _).mono ?_
  rintro e w6 ⟨rfl, rfl⟩
  go_wp2_with fail
  go_ret
  exact ⟨by rw [HS.out, Bool.or_false]; rfl, HB.out⟩
set_option maxHeartbeats 3200000 in
theorem impl_holdsTuples (L : Int) {a : Option Addr} {n : Nat} (c : Nat) {ss : List (List Int)} {w : World} (h : ReadsP w a ss) (hl : ss.length = n) (hn : n ≤ 16) (hz : ∀ i, (ss.getD i []).length ≤ 92) :
 Calls Tryz.prog 61 #[.agg #[.int .i64 L, .slice a n c]] w fun e w' => e = .returned (.bool (ss.all slotOk)) ∧ Below w.heap.size w w' := by
 have HB := hid (Below.alloc1 w (.cells #[.int .i64 L, .slice a n c] 87))
 have HR := hid (h.below HB.out (Nat.le_refl _))
 have T0 := hid (heap_alloc_new w (.cells #[.int .i64 L, .slice a n c] 87))
 have hd1 : (w.alloc (.cells #[.int .i64 L, .slice a n c] 87)).cell? ⟨w.heap.size, 1, none⟩ = some (.slice a n c) := by rw [cell_of_row _ _ _ _ _ _ T0.out]; rfl
 have HZ := hid hz
 have HL := hid hl
 clear h hz T0 hl
 go_enter Tryz.func61, Tryz.ntmps61
 go_wp2_with fail
 clear hd1
 generalize w.alloc (.cells #[.int .i64 L, .slice a n c] 87) = W at *
 go_loopw [4, 8] (fun _ i wr => ∃ j : Nat, j ≤ n ∧ i = .int .i64 j ∧ Hid (∀ q, q < j → slotOk (ss.getD q []) = true) ∧ Hid (Below W.heap.size W wr)) (fun _ i _ => n - (intOf i).toNat)
 case atStart => exact ⟨0, Nat.zero_le _, rfl, hid (fun q hq => by omega), hid (Below.refl _ _)⟩
 case round =>
  obtain ⟨j, hj, rfl, HA, HS⟩ := hrel
  by_cases hlt : j < n
  · have hlt' : (j : Int) < (n : Int) := by omega
    have hj0 : (0 : Int) ≤ (j : Int) := by omega
    obtain ⟨b3, off3, a3, c3, rfl, hs0, hrs0, hnil, hroom⟩ := HR.out.at (k := j) (by rw [HL.out]; exact hlt)
    have hs1 := (HS.out.cell (p := ⟨b3, off3 + j, none⟩) (World.block_lt_of_cell? W _ hs0)).trans hs0
    have hrs := hrs0.below HS.out (Nat.le_refl _)
    have hz92 := HZ.out j
    have HN := hid (fun (z : slotOk (ss.getD j []) = true) (r : Nat) (hrr : r < j + 1) => show slotOk (ss.getD r []) = true from by
     by_cases e : r = j
     · subst e; exact z
     · exact HA.out r (by omega))
    have HBad := hid (fun (z : slotOk (ss.getD j []) = false) => show ss.all slotOk = false from by
     cases e : ss.all slotOk with
     | false => rfl
     | true => have := (all_at slotOk ss []).1 e j (by rw [HL.out]; exact hlt); rw [z] at this; cases this)
    have hC := impl_isTupleOrFree c3 hroom hrs (by omega)
    clear hs0 hrs0 HA hrs hnil hroom
    generalize (ss.getD j []).length = l at *
    generalize slotOk (ss.getD j []) = okk at *
    go_wp2_with fail
    refine hC.mono ?_
    rintro e w2 ⟨rfl, b2⟩
    have HS2 := hid (HS.out.trans (b2.mono HS.out.size))
    clear b2 hC hs1 HS
    cases okk with
    | false =>
     have HF := hid (HBad.out rfl)
     go_wp2_with fail
     go_ret
     exact ⟨by rw [HF.out]; rfl, HB.out.trans (HS2.out.mono HB.out.size)⟩
    | true =>
     have HF := hid (HN.out rfl)
     go_wp2_with fail
     go_roundw
     case rel => exact ⟨j + 1, by omega, by go_num, HF, HS2⟩
     case measure => simp [intOf]; omega
  · have hlt' : ¬ (j : Int) < (n : Int) := by omega
    go_wp2_with fail
    go_ret
    exact ⟨by rw [(all_at slotOk ss []).2 (fun i hi => HA.out i (by rw [HL.out] at hi; omega))]; rfl, HB.out.trans (HS.out.mono HB.out.size)⟩
set_option maxHeartbeats 3200000 in
theorem impl_HeapOk {ad : Option Addr} {n : Nat} (cap : Nat) {ps : List Pg} {w : World} (h : ReadsG w ad ps) (hl : ps.length = n) :
 Calls Tryz.prog 14 #[.agg #[.slice ad n cap]] w fun e w' => e = .returned (.bool (okH ps)) ∧ Below w.heap.size w w' := by
 have HB := hid (Below.alloc1 w (.cells #[.slice ad n cap] 26))
 have HR := hid (h.below HB.out (Nat.le_refl _))
 have hc0 := box1 w (.slice ad n cap) 26
 clear h
 by_cases h16 : 16 < n
 · rw [okH_long (by omega)]
   have h16' : (16 : Int) < (n : Int) := by omega
   go_enter Tryz.func14, Tryz.ntmps14
   go_wp2_with fail
   go_ret
   exact ⟨rfl, HB.out⟩
 have h16' : ¬ (16 : Int) < (n : Int) := by omega
 go_enter Tryz.func14, Tryz.ntmps14
 go_wp2_with fail
 clear hc0
 generalize w.alloc (.cells #[.slice ad n cap] 26) = W at *
 go_loopw [4, 12] (fun _ i wr => ∃ j : Nat, j ≤ n ∧ i = .int .i64 j ∧ Hid (∀ q, q < j → okPg (ps.getD q pg0) = true) ∧ Hid (Below W.heap.size W wr)) (fun _ i _ => n - (intOf i).toNat)
 case atStart => exact ⟨0, Nat.zero_le _, rfl, hid (fun q hq => by omega), hid (Below.refl _ _)⟩
 case round =>
  obtain ⟨j, hj, rfl, HA, HS⟩ := hrel
  by_cases hlt : j < n
  · have hlt' : (j : Int) < (n : Int) := by omega
    have hj0 : (0 : Int) ≤ (j : Int) := by omega
    obtain ⟨b, off, a, c, rfl, hca0, hcx0, hr0, hmx⟩ := HR.out.at (k := j) (by omega)
    have bl := World.block_lt_of_cell? W _ hca0
    have hca := (HS.out.cell (p := ⟨b, off + j * 2, none⟩) bl).trans hca0
    have hcx := (HS.out.cell (p := ⟨b, off + j * 2 + 1, none⟩) bl).trans hcx0
    have HBad := hid (fun q => okH_bad (ps := ps) (i := j) (by omega) q)
    have HN := hid (fun (q : okPg (ps.getD j pg0) = true) (i : Nat) (hi : i < j + 1) => show okPg (ps.getD i pg0) = true from by
     by_cases e : i = j
     · subst e; exact q
     · exact HA.out i (by omega))
    have hr1 := hr0.below HS.out (Nat.le_refl _)
    generalize ps.getD j pg0 = p at hca hcx hr1 HBad HN hmx
    obtain ⟨A, ss⟩ := p
    obtain ⟨m, hm⟩ : ∃ m, ss.length = m := ⟨_, rfl⟩
    simp only at hca hcx hr1 HBad HN hmx
    rw [hm] at hcx hmx
    have BO := Below.alloc1 wr (.cells #[.int .i64 A, .slice a m c] 87)
    have RB := hid (heap_alloc_new wr (.cells #[.int .i64 A, .slice a m c] 87))
    have ZB := hid (alloc_size wr (.cells #[.int .i64 A, .slice a m c] 87))
    have hr := hid (hr1.below BO (Nat.le_refl _))
    replace HS := hid (HS.out.trans (BO.mono HS.out.size))
    have HM := hid hm
    have HK : okPg (A, ss) = (okP A ss && ss.all slotOk) := rfl
    have HKK := hid HK
    clear hca0 hcx0 hr0 hr1 bl HA BO hm HK
    go_wp2_with fail
    refine (impl_isPage_any A c hr.out.rd HM.out).mono ?_
    rintro e w2 ⟨rfl, b2⟩
    have T2 := (b2.block wr.heap.size (by rw [ZB.out]; omega)).trans RB.out
    have hd0 : w2.cell? ⟨wr.heap.size, 0, none⟩ = some (.int .i64 A) := by rw [cell_of_row _ _ _ _ _ _ T2]; rfl
    have hd1 : w2.cell? ⟨wr.heap.size, 1, none⟩ = some (.slice a m c) := by rw [cell_of_row _ _ _ _ _ _ T2]; rfl
    replace HS := hid (HS.out.trans (b2.mono HS.out.size))
    replace hr := hid (hr.out.below b2 (Nat.le_refl _))
    clear b2 hca hcx RB ZB T2
    cases hok : okP A ss with
    | false =>
     rw [hok] at HKK
     go_wp2_with fail
     go_ret
     exact ⟨by rw [HBad.out HKK.out]; rfl, HB.out.trans (HS.out.mono HB.out.size)⟩
    | true =>
     rw [hok, Bool.true_and] at HKK
     have HC := hid (impl_holdsTuples A c hr.out HM.out (by have := (okP_of hok).n; have := HM.out; omega) (okP_of hok).z)
     clear hok
     generalize ss.all slotOk = oks at *
     go_wp2_with fail
     refine HC.out.mono ?_
     rintro e w3 ⟨rfl, b3⟩
     replace HS := hid (HS.out.trans (b3.mono HS.out.size))
     clear b3 HC
     cases oks with
     | false =>
      go_wp2_with fail
      go_ret
      exact ⟨by rw [HBad.out HKK.out]; rfl, HB.out.trans (HS.out.mono HB.out.size)⟩
     | true =>
      go_wp2_with fail
      go_roundw
      case rel => exact ⟨j + 1, by omega, by go_num, hid (HN.out HKK.out), HS⟩
      case measure => simp [intOf]; omega
  · have hlt' : ¬ (j : Int) < (n : Int) := by omega
    go_wp2_with fail
    go_ret
    exact ⟨by rw [okH_yes (by omega) (fun i hi => HA.out i (by omega))]; rfl, HB.out.trans (HS.out.mono HB.out.size)⟩
end Go.Proofs.YtkfhfjghfadofaaGreat
