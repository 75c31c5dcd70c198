/- Texts of this proof in one: Wp Rq7 Rt7 Draw Drawo Drawf Flo Flx Flv Fli Flw Flb Flq Flf Drl. -/
import Derived.Test.YtdfieopdbpklnaaMgb
import Derived.Test.YtdfieopdbpklnaaMga
import Derived.WalkLawsBesides
import Derived.Deep.RegionHeld3
import Derived.Laws.FloatArith
import Derived.Test.YtdfieopdbpklnaaChecked
import Derived.Laws.BitsAllLaws
import Derived.Laws.Externs
import Derived.KernelRfl
import Derived.Deep.Draws
/- The contracts of the program's PagePut and PageClear. Conditions: lists of at most 2^47. -/


namespace Go.Proofs.Ytdfieopdbpklnaa
open Go.RowKit
set_option maxRecDepth 100000

set_option maxHeartbeats 6400000 in
theorem impl_PagePut (L : Int) {a : Option Addr} {n : Nat} (c : Nat) {ss : List (List Int)} (slot : Int) {ad : Option Addr} {nd : Nat} (cd : Nat) {zs : List Int} (lsn : Int) {w : World} (h : ReadsS w a ss) (hl : ss.length = n) (hn : n ≤ 140737488355328) (hd : Reads w ad nd zs) (hnil : ad = none → cd = 0)
    {RL : Int} {RS : List (List Int)} {ok : Bool} {m : Nat} (hR : putP L ss slot zs lsn = (RL, RS)) (hk : putOk L ss slot zs lsn = ok) (hm : RS.length = m) :
    Calls Try.prog 14 #[.agg #[.int .i64 L, .slice a n c], .int .i64 slot, .slice ad nd cd, .int .i64 lsn] w fun e w' => ∃ a' c', e = .returned (.tuple #[.agg #[.int .i64 RL, .slice a' m c'], .bool ok]) ∧ OwnP w' w.heap.size w'.heap.size (.slice a' m c') RS ∧ Below w.heap.size w w' := by
  have HR := hid hR
  have HK := hid hk
  have HM := hid hm
  have HNI := hid hnil
  have HDL := hid hd.len
  clear hR hk hm hnil
  have HB := hid (two w (.cells #[.int .i64 L, .slice a n c] 26) (.cells #[.int .i64 0, .slice none 0 0] 26))
  have HX := hid (show ArgP _ _ _ _ _ _ _ from (ArgP.new L n c h 26 w.heap.size rfl).alloc (.cells #[.int .i64 0, .slice none 0 0] 26))
  have R1 := hid (heap_new2 w (.cells #[.int .i64 L, .slice a n c] 26) (.cells #[.int .i64 0, .slice none 0 0] 26))
  have HSZ := hid (show w.heap.size + 2 ≤ ((w.alloc (.cells #[.int .i64 L, .slice a n c] 26)).alloc (.cells #[.int .i64 0, .slice none 0 0] 26)).heap.size by simp)
  have HD0 := hid hd
  clear h hd
  go_enter Try.func14, Try.ntmps14
  go_wp2_with fail
  generalize (w.alloc (.cells #[.int .i64 L, .slice a n c] 26)).alloc (.cells #[.int .i64 0, .slice none 0 0] 26) = W at *
  refine (impl_isPage L c HX.out.reads hl hn).mono ?_
  rintro e w1 ⟨rfl, b⟩
  replace HX := hid (HX.out.below b (Nat.le_refl _))
  replace R1 := hid ((b.block _ (by have := HSZ.out; omega)).trans R1.out)
  replace HB := hid (HB.out.trans (b.mono HB.out.size))
  replace HSZ := hid (Nat.le_trans HSZ.out b.size)
  clear b
  by_cases h1 : okP L ss = false
  · rw [h1]
    have HE := hid h1
    clear h1
    have HO := hid (show putOk L ss slot zs lsn = false from putOk_1 HE.out)
    have T1 := heap_setCell_same w1 (w.heap.size + 1) 0 _ 26 (.int .i64 0) R1.out
    have T2 := hid (heap_setCell_same _ (w.heap.size + 1) 1 _ 26 (.slice none 0 0) T1)
    have B6 := hid ((HB.out.setCell (p := ⟨w.heap.size + 1, 0, none⟩) (by simp) (.int .i64 0)).setCell (p := ⟨w.heap.size + 1, 1, none⟩) (by simp) (.slice none 0 0))
    have r0 : w1.cell? ⟨w.heap.size + 1, 0, none⟩ = some (.int .i64 0) := cell_of_row _ _ 0 _ _ _ R1.out
    have r1 : w1.cell? ⟨w.heap.size + 1, 1, none⟩ = some (.slice none 0 0) := cell_of_row _ _ 1 _ _ _ R1.out
    have rf0 : w1.frozen? ⟨w.heap.size + 1, 0, none⟩ = false := frozen_of_row _ _ _ _ _ R1.out
    have rf1 : w1.frozen? ⟨w.heap.size + 1, 1, none⟩ = false := frozen_of_row _ _ _ _ _ R1.out
    clear T1
    go_wp2_with fail
    obtain ⟨rfl, rfl⟩ : 0 = RL ∧ [] = RS := Prod.mk.inj ((putP_no HO.out).symm.trans HR.out)
    obtain rfl : false = ok := HO.out.symm.trans HK.out
    obtain rfl : 0 = m := HM.out
    exact bodyPost_ret (results_cell_tmp7 Try.results14 _ _ (w.heap.size + 1) 26 _ (0, 0) _ rfl T2.out Try.underlying26 rfl size_pg) rfl ⟨none, 0, rfl, OwnP.nil _ _ _, B6.out⟩
  rw [Bool.not_eq_false] at h1
  rw [h1]
  have HE := hid h1
  clear h1
  go_wp2_with fail
  refine (impl_inP slot 0 15 _).mono ?_
  rintro e w2 ⟨rfl, e1⟩
  subst w2
  by_cases hs : ¬ (0 ≤ slot ∧ slot ≤ 15)
  · rw [decide_eq_false hs]
    have HO := hid (show putOk L ss slot zs lsn = false from putOk_2 hs)
    have T1 := heap_setCell_same w1 (w.heap.size + 1) 0 _ 26 (.int .i64 0) R1.out
    have T2 := hid (heap_setCell_same _ (w.heap.size + 1) 1 _ 26 (.slice none 0 0) T1)
    have B6 := hid ((HB.out.setCell (p := ⟨w.heap.size + 1, 0, none⟩) (by simp) (.int .i64 0)).setCell (p := ⟨w.heap.size + 1, 1, none⟩) (by simp) (.slice none 0 0))
    have r0 : w1.cell? ⟨w.heap.size + 1, 0, none⟩ = some (.int .i64 0) := cell_of_row _ _ 0 _ _ _ R1.out
    have r1 : w1.cell? ⟨w.heap.size + 1, 1, none⟩ = some (.slice none 0 0) := cell_of_row _ _ 1 _ _ _ R1.out
    have rf0 : w1.frozen? ⟨w.heap.size + 1, 0, none⟩ = false := frozen_of_row _ _ _ _ _ R1.out
    have rf1 : w1.frozen? ⟨w.heap.size + 1, 1, none⟩ = false := frozen_of_row _ _ _ _ _ R1.out
    clear T1
    go_wp2_with fail
    obtain ⟨rfl, rfl⟩ : 0 = RL ∧ [] = RS := Prod.mk.inj ((putP_no HO.out).symm.trans HR.out)
    obtain rfl : false = ok := HO.out.symm.trans HK.out
    obtain rfl : 0 = m := HM.out
    exact bodyPost_ret (results_cell_tmp7 Try.results14 _ _ (w.heap.size + 1) 26 _ (0, 0) _ rfl T2.out Try.underlying26 rfl size_pg) rfl ⟨none, 0, rfl, OwnP.nil _ _ _, B6.out⟩
  replace hs := Decidable.not_not.1 hs
  rw [decide_eq_true hs]
  obtain ⟨hs0, hs1⟩ := hs
  go_wp2_with fail
  refine (impl_isFree ad nd cd _).mono ?_
  rintro e w2 ⟨rfl, e1⟩
  subst w2
  by_cases hd0 : nd = 0
  · rw [decide_eq_true hd0]
    subst hd0
    have HO := hid (show putOk L ss slot zs lsn = false from putOk_3 (by rw [HDL.out]; omega))
    have T1 := heap_setCell_same w1 (w.heap.size + 1) 0 _ 26 (.int .i64 0) R1.out
    have T2 := hid (heap_setCell_same _ (w.heap.size + 1) 1 _ 26 (.slice none 0 0) T1)
    have B6 := hid ((HB.out.setCell (p := ⟨w.heap.size + 1, 0, none⟩) (by simp) (.int .i64 0)).setCell (p := ⟨w.heap.size + 1, 1, none⟩) (by simp) (.slice none 0 0))
    have r0 : w1.cell? ⟨w.heap.size + 1, 0, none⟩ = some (.int .i64 0) := cell_of_row _ _ 0 _ _ _ R1.out
    have r1 : w1.cell? ⟨w.heap.size + 1, 1, none⟩ = some (.slice none 0 0) := cell_of_row _ _ 1 _ _ _ R1.out
    have rf0 : w1.frozen? ⟨w.heap.size + 1, 0, none⟩ = false := frozen_of_row _ _ _ _ _ R1.out
    have rf1 : w1.frozen? ⟨w.heap.size + 1, 1, none⟩ = false := frozen_of_row _ _ _ _ _ R1.out
    clear T1
    go_wp2_with fail
    obtain ⟨rfl, rfl⟩ : 0 = RL ∧ [] = RS := Prod.mk.inj ((putP_no HO.out).symm.trans HR.out)
    obtain rfl : false = ok := HO.out.symm.trans HK.out
    obtain rfl : 0 = m := HM.out
    exact bodyPost_ret (results_cell_tmp7 Try.results14 _ _ (w.heap.size + 1) 26 _ (0, 0) _ rfl T2.out Try.underlying26 rfl size_pg) rfl ⟨none, 0, rfl, OwnP.nil _ _ _, B6.out⟩
  rw [decide_eq_false hd0]
  go_wp2_with fail
  refine (impl_isTooLong ad nd cd _).mono ?_
  rintro e w2 ⟨rfl, e1⟩
  subst w2
  by_cases hd1 : 92 < nd
  · rw [decide_eq_true hd1]
    have HO := hid (show putOk L ss slot zs lsn = false from putOk_3 (by rw [HDL.out]; omega))
    have T1 := heap_setCell_same w1 (w.heap.size + 1) 0 _ 26 (.int .i64 0) R1.out
    have T2 := hid (heap_setCell_same _ (w.heap.size + 1) 1 _ 26 (.slice none 0 0) T1)
    have B6 := hid ((HB.out.setCell (p := ⟨w.heap.size + 1, 0, none⟩) (by simp) (.int .i64 0)).setCell (p := ⟨w.heap.size + 1, 1, none⟩) (by simp) (.slice none 0 0))
    have r0 : w1.cell? ⟨w.heap.size + 1, 0, none⟩ = some (.int .i64 0) := cell_of_row _ _ 0 _ _ _ R1.out
    have r1 : w1.cell? ⟨w.heap.size + 1, 1, none⟩ = some (.slice none 0 0) := cell_of_row _ _ 1 _ _ _ R1.out
    have rf0 : w1.frozen? ⟨w.heap.size + 1, 0, none⟩ = false := frozen_of_row _ _ _ _ _ R1.out
    have rf1 : w1.frozen? ⟨w.heap.size + 1, 1, none⟩ = false := frozen_of_row _ _ _ _ _ R1.out
    clear T1
    go_wp2_with fail
    obtain ⟨rfl, rfl⟩ : 0 = RL ∧ [] = RS := Prod.mk.inj ((putP_no HO.out).symm.trans HR.out)
    obtain rfl : false = ok := HO.out.symm.trans HK.out
    obtain rfl : 0 = m := HM.out
    exact bodyPost_ret (results_cell_tmp7 Try.results14 _ _ (w.heap.size + 1) 26 _ (0, 0) _ rfl T2.out Try.underlying26 rfl size_pg) rfl ⟨none, 0, rfl, OwnP.nil _ _ _, B6.out⟩
  rw [decide_eq_false hd1]
  go_wp2_with fail
  refine (impl_inP lsn 1 1000000 _).mono ?_
  rintro e w2 ⟨rfl, e1⟩
  subst w2
  by_cases hs : ¬ (1 ≤ lsn ∧ lsn ≤ 1000000)
  · rw [decide_eq_false hs]
    have HO := hid (show putOk L ss slot zs lsn = false from putOk_4 hs)
    have T1 := heap_setCell_same w1 (w.heap.size + 1) 0 _ 26 (.int .i64 0) R1.out
    have T2 := hid (heap_setCell_same _ (w.heap.size + 1) 1 _ 26 (.slice none 0 0) T1)
    have B6 := hid ((HB.out.setCell (p := ⟨w.heap.size + 1, 0, none⟩) (by simp) (.int .i64 0)).setCell (p := ⟨w.heap.size + 1, 1, none⟩) (by simp) (.slice none 0 0))
    have r0 : w1.cell? ⟨w.heap.size + 1, 0, none⟩ = some (.int .i64 0) := cell_of_row _ _ 0 _ _ _ R1.out
    have r1 : w1.cell? ⟨w.heap.size + 1, 1, none⟩ = some (.slice none 0 0) := cell_of_row _ _ 1 _ _ _ R1.out
    have rf0 : w1.frozen? ⟨w.heap.size + 1, 0, none⟩ = false := frozen_of_row _ _ _ _ _ R1.out
    have rf1 : w1.frozen? ⟨w.heap.size + 1, 1, none⟩ = false := frozen_of_row _ _ _ _ _ R1.out
    clear T1
    go_wp2_with fail
    obtain ⟨rfl, rfl⟩ : 0 = RL ∧ [] = RS := Prod.mk.inj ((putP_no HO.out).symm.trans HR.out)
    obtain rfl : false = ok := HO.out.symm.trans HK.out
    obtain rfl : 0 = m := HM.out
    exact bodyPost_ret (results_cell_tmp7 Try.results14 _ _ (w.heap.size + 1) 26 _ (0, 0) _ rfl T2.out Try.underlying26 rfl size_pg) rfl ⟨none, 0, rfl, OwnP.nil _ _ _, B6.out⟩
  replace hs := Decidable.not_not.1 hs
  rw [decide_eq_true hs]
  obtain ⟨hs2, hs3⟩ := hs
  obtain ⟨q, rfl⟩ := Int.eq_ofNat_of_zero_le hs0
  have HPK := hid (show putOk L ss (q : Int) zs lsn = okP lsn (layP ss q zs) from putOk_eq HE.out ⟨hs0, hs1⟩ (by rw [HDL.out]; omega) ⟨hs2, hs3⟩)
  have HTR := hid (lay_trim (slot := q) HE.out (show 0 < zs.length by rw [HDL.out]; omega))
  have hn16 : n ≤ 16 := by have := (okP_of HE.out).n; omega
  have HZ92 := hid (fun i => Nat.le_trans ((okP_of HE.out).z i) (show 92 ≤ 1048576 by omega))
  obtain ⟨c0, c1⟩ := HX.out.box
  go_wp2_with fail
  refine (impl_with L c q cd lsn HX.out.reads hl (by omega) HZ92.out (by omega) (HD0.out.below HB.out (Nat.le_refl _)) HNI.out (by omega)).mono ?_
  rintro e w2 ⟨a1, c1', rfl, o, b⟩
  rw [HTR.out] at o
  obtain ⟨k, hk⟩ : ∃ k, (layP ss q zs).length = k := ⟨_, rfl⟩
  have HLK := hid hk
  have hk16 : k ≤ 16 := by rw [layP_length, hl] at hk; omega
  rw [hk] at o
  rw [HTR.out, hk]
  replace R1 := hid ((b.block _ (by have := HSZ.out; omega)).trans R1.out)
  replace HB := hid (HB.out.trans (b.mono HB.out.size))
  have LO := hid (show w.heap.size + 2 ≤ w1.heap.size from HSZ.out)
  replace HSZ := hid (Nat.le_trans HSZ.out b.size)
  have HO := hid o
  clear b o c0 c1 HX hk
  go_wp2_with fail
  have HX := hid (ArgP.new lsn k c1' HO.out.rd 26 w2.heap.size rfl)
  have bA := Below.alloc1 w2 (.cells #[.int .i64 lsn, .slice a1 k c1'] 26)
  replace HO := hid (HO.out.below bA (Nat.le_refl _))
  replace R1 := hid ((bA.block _ (by have := HSZ.out; omega)).trans R1.out)
  replace HB := hid (HB.out.trans (bA.mono HB.out.size))
  have HXL := hid HX.out.lt
  generalize w2.alloc (.cells #[.int .i64 lsn, .slice a1 k c1'] 26) = V0 at *
  clear bA
  refine (impl_isPage lsn c1' HX.out.reads HLK.out (by omega)).mono ?_
  rintro e w3 ⟨rfl, b⟩
  replace HX := hid (HX.out.below b (Nat.le_refl _))
  replace HO := hid (HO.out.below b (Nat.le_of_lt HXL.out))
  replace R1 := hid ((b.block _ (by have := HXL.out; have := HSZ.out; omega)).trans R1.out)
  replace HB := hid (HB.out.trans (b.mono HB.out.size))
  have S3 := hid b.size
  clear b
  by_cases h1 : okP lsn (layP ss q zs) = false
  · rw [h1]
    have HEE := hid h1
    clear h1
    clear HO
    have HO := hid (show putOk L ss (q : Int) zs lsn = false from HPK.out.trans HEE.out)
    have T1 := heap_setCell_same w3 (w.heap.size + 1) 0 _ 26 (.int .i64 0) R1.out
    have T2 := hid (heap_setCell_same _ (w.heap.size + 1) 1 _ 26 (.slice none 0 0) T1)
    have B6 := hid ((HB.out.setCell (p := ⟨w.heap.size + 1, 0, none⟩) (by simp) (.int .i64 0)).setCell (p := ⟨w.heap.size + 1, 1, none⟩) (by simp) (.slice none 0 0))
    have r0 : w3.cell? ⟨w.heap.size + 1, 0, none⟩ = some (.int .i64 0) := cell_of_row _ _ 0 _ _ _ R1.out
    have r1 : w3.cell? ⟨w.heap.size + 1, 1, none⟩ = some (.slice none 0 0) := cell_of_row _ _ 1 _ _ _ R1.out
    have rf0 : w3.frozen? ⟨w.heap.size + 1, 0, none⟩ = false := frozen_of_row _ _ _ _ _ R1.out
    have rf1 : w3.frozen? ⟨w.heap.size + 1, 1, none⟩ = false := frozen_of_row _ _ _ _ _ R1.out
    clear T1
    go_wp2_with fail
    obtain ⟨rfl, rfl⟩ : 0 = RL ∧ [] = RS := Prod.mk.inj ((putP_no HO.out).symm.trans HR.out)
    obtain rfl : false = ok := HO.out.symm.trans HK.out
    obtain rfl : 0 = m := HM.out
    exact bodyPost_ret (results_cell_tmp7 Try.results14 _ _ (w.heap.size + 1) 26 _ (0, 0) _ rfl T2.out Try.underlying26 rfl size_pg) rfl ⟨none, 0, rfl, OwnP.nil _ _ _, B6.out⟩
  rw [Bool.not_eq_false] at h1
  rw [h1]
  have HEE := hid h1
  clear h1
  have HOK := hid (show putOk L ss (q : Int) zs lsn = true from HPK.out.trans HEE.out)
  obtain ⟨rfl, rfl⟩ : lsn = RL ∧ layP ss q zs = RS := Prod.mk.inj ((putP_yes HOK.out).symm.trans HR.out)
  obtain rfl : true = ok := HOK.out.symm.trans HK.out
  obtain rfl : k = m := HLK.out.symm.trans HM.out
  obtain ⟨d0, d1⟩ := HX.out.box
  have T1 := heap_setCell_same w3 (w.heap.size + 1) 0 _ 26 (.int .i64 lsn) R1.out
  have T2 := hid (heap_setCell_same _ (w.heap.size + 1) 1 _ 26 (.slice a1 k c1') T1)
  have B6 := hid ((HB.out.setCell (p := ⟨w.heap.size + 1, 0, none⟩) (by simp) (.int .i64 lsn)).setCell (p := ⟨w.heap.size + 1, 1, none⟩) (by simp) (.slice a1 k c1'))
  have r0 : w3.cell? ⟨w.heap.size + 1, 0, none⟩ = some (.int .i64 0) := cell_of_row _ _ 0 _ _ _ R1.out
  have r1 : w3.cell? ⟨w.heap.size + 1, 1, none⟩ = some (.slice none 0 0) := cell_of_row _ _ 1 _ _ _ R1.out
  have rf0 : w3.frozen? ⟨w.heap.size + 1, 0, none⟩ = false := frozen_of_row _ _ _ _ _ R1.out
  have rf1 : w3.frozen? ⟨w.heap.size + 1, 1, none⟩ = false := frozen_of_row _ _ _ _ _ R1.out
  clear T1
  have O6 := hid (HO.out.agree (w' := (w3.setCell ⟨w.heap.size + 1, 0, none⟩ (.int .i64 lsn)).setCell ⟨w.heap.size + 1, 1, none⟩ (.slice a1 k c1')) (fun k h1 _ => (heap_set_ne _ _ _ _ _ (by have := LO.out; omega)).trans (heap_set_ne _ _ _ _ _ (by have := LO.out; omega))))
  go_wp2_with fail
  exact bodyPost_ret (results_cell_tmp7 Try.results14 _ _ (w.heap.size + 1) 26 _ (0, 0) _ rfl T2.out Try.underlying26 rfl size_pg) rfl ⟨_, _, rfl, O6.out.mono (by have := LO.out; omega) (by simp only [set_size]; have := HXL.out; have := S3.out; omega), B6.out⟩

set_option maxHeartbeats 6400000 in
theorem impl_PageClear (L : Int) {a : Option Addr} {n : Nat} (c : Nat) {ss : List (List Int)} (slot : Int) (lsn : Int) {w : World} (h : ReadsS w a ss) (hl : ss.length = n) (hn : n ≤ 140737488355328)
    {RL : Int} {RS : List (List Int)} {ok : Bool} {m : Nat} (hR : clearP L ss slot lsn = (RL, RS)) (hk : clearOk L ss slot lsn = ok) (hm : RS.length = m) :
    Calls Try.prog 20 #[.agg #[.int .i64 L, .slice a n c], .int .i64 slot, .int .i64 lsn] w fun e w' => ∃ a' c', e = .returned (.tuple #[.agg #[.int .i64 RL, .slice a' m c'], .bool ok]) ∧ OwnP w' w.heap.size w'.heap.size (.slice a' m c') RS ∧ Below w.heap.size w w' := by
  have HR := hid hR
  have HK := hid hk
  have HM := hid hm


  clear hR hk hm 
  have HB := hid (two w (.cells #[.int .i64 L, .slice a n c] 26) (.cells #[.int .i64 0, .slice none 0 0] 26))
  have HX := hid (show ArgP _ _ _ _ _ _ _ from (ArgP.new L n c h 26 w.heap.size rfl).alloc (.cells #[.int .i64 0, .slice none 0 0] 26))
  have R1 := hid (heap_new2 w (.cells #[.int .i64 L, .slice a n c] 26) (.cells #[.int .i64 0, .slice none 0 0] 26))
  have HSZ := hid (show w.heap.size + 2 ≤ ((w.alloc (.cells #[.int .i64 L, .slice a n c] 26)).alloc (.cells #[.int .i64 0, .slice none 0 0] 26)).heap.size by simp)

  clear h 
  go_enter Try.func20, Try.ntmps20
  go_wp2_with fail
  generalize (w.alloc (.cells #[.int .i64 L, .slice a n c] 26)).alloc (.cells #[.int .i64 0, .slice none 0 0] 26) = W at *
  refine (impl_isPage L c HX.out.reads hl hn).mono ?_
  rintro e w1 ⟨rfl, b⟩
  replace HX := hid (HX.out.below b (Nat.le_refl _))
  replace R1 := hid ((b.block _ (by have := HSZ.out; omega)).trans R1.out)
  replace HB := hid (HB.out.trans (b.mono HB.out.size))
  replace HSZ := hid (Nat.le_trans HSZ.out b.size)
  clear b
  by_cases h1 : okP L ss = false
  · rw [h1]
    have HE := hid h1
    clear h1
    have HO := hid (show clearOk L ss slot lsn = false from clearOk_1 HE.out)
    have T1 := heap_setCell_same w1 (w.heap.size + 1) 0 _ 26 (.int .i64 0) R1.out
    have T2 := hid (heap_setCell_same _ (w.heap.size + 1) 1 _ 26 (.slice none 0 0) T1)
    have B6 := hid ((HB.out.setCell (p := ⟨w.heap.size + 1, 0, none⟩) (by simp) (.int .i64 0)).setCell (p := ⟨w.heap.size + 1, 1, none⟩) (by simp) (.slice none 0 0))
    have r0 : w1.cell? ⟨w.heap.size + 1, 0, none⟩ = some (.int .i64 0) := cell_of_row _ _ 0 _ _ _ R1.out
    have r1 : w1.cell? ⟨w.heap.size + 1, 1, none⟩ = some (.slice none 0 0) := cell_of_row _ _ 1 _ _ _ R1.out
    have rf0 : w1.frozen? ⟨w.heap.size + 1, 0, none⟩ = false := frozen_of_row _ _ _ _ _ R1.out
    have rf1 : w1.frozen? ⟨w.heap.size + 1, 1, none⟩ = false := frozen_of_row _ _ _ _ _ R1.out
    clear T1
    go_wp2_with fail
    obtain ⟨rfl, rfl⟩ : 0 = RL ∧ [] = RS := Prod.mk.inj ((clearP_no HO.out).symm.trans HR.out)
    obtain rfl : false = ok := HO.out.symm.trans HK.out
    obtain rfl : 0 = m := HM.out
    exact bodyPost_ret (results_cell_tmp7 Try.results20 _ _ (w.heap.size + 1) 26 _ (0, 0) _ rfl T2.out Try.underlying26 rfl size_pg) rfl ⟨none, 0, rfl, OwnP.nil _ _ _, B6.out⟩
  rw [Bool.not_eq_false] at h1
  rw [h1]
  have HE := hid h1
  clear h1
  have hn16 : n ≤ 16 := by have := (okP_of HE.out).n; omega
  obtain ⟨c0, c1⟩ := HX.out.box
  go_wp2_with fail
  refine (impl_inP slot 0 ((n : Int) - 1) _).mono ?_
  rintro e w2 ⟨rfl, e1⟩
  subst w2
  by_cases hs : ¬ (0 ≤ slot ∧ slot ≤ (n : Int) - 1)
  · rw [decide_eq_false hs]
    have HO := hid (show clearOk L ss slot lsn = false from clearOk_2 (by rw [hl]; exact hs))
    have T1 := heap_setCell_same w1 (w.heap.size + 1) 0 _ 26 (.int .i64 0) R1.out
    have T2 := hid (heap_setCell_same _ (w.heap.size + 1) 1 _ 26 (.slice none 0 0) T1)
    have B6 := hid ((HB.out.setCell (p := ⟨w.heap.size + 1, 0, none⟩) (by simp) (.int .i64 0)).setCell (p := ⟨w.heap.size + 1, 1, none⟩) (by simp) (.slice none 0 0))
    have r0 : w1.cell? ⟨w.heap.size + 1, 0, none⟩ = some (.int .i64 0) := cell_of_row _ _ 0 _ _ _ R1.out
    have r1 : w1.cell? ⟨w.heap.size + 1, 1, none⟩ = some (.slice none 0 0) := cell_of_row _ _ 1 _ _ _ R1.out
    have rf0 : w1.frozen? ⟨w.heap.size + 1, 0, none⟩ = false := frozen_of_row _ _ _ _ _ R1.out
    have rf1 : w1.frozen? ⟨w.heap.size + 1, 1, none⟩ = false := frozen_of_row _ _ _ _ _ R1.out
    clear T1
    go_wp2_with fail
    obtain ⟨rfl, rfl⟩ : 0 = RL ∧ [] = RS := Prod.mk.inj ((clearP_no HO.out).symm.trans HR.out)
    obtain rfl : false = ok := HO.out.symm.trans HK.out
    obtain rfl : 0 = m := HM.out
    exact bodyPost_ret (results_cell_tmp7 Try.results20 _ _ (w.heap.size + 1) 26 _ (0, 0) _ rfl T2.out Try.underlying26 rfl size_pg) rfl ⟨none, 0, rfl, OwnP.nil _ _ _, B6.out⟩
  replace hs := Decidable.not_not.1 hs
  rw [decide_eq_true hs]
  obtain ⟨hs0, hs1⟩ := hs
  go_wp2_with fail
  refine (impl_inP lsn 1 1000000 _).mono ?_
  rintro e w2 ⟨rfl, e1⟩
  subst w2
  by_cases hs : ¬ (1 ≤ lsn ∧ lsn ≤ 1000000)
  · rw [decide_eq_false hs]
    have HO := hid (show clearOk L ss slot lsn = false from clearOk_3 hs)
    have T1 := heap_setCell_same w1 (w.heap.size + 1) 0 _ 26 (.int .i64 0) R1.out
    have T2 := hid (heap_setCell_same _ (w.heap.size + 1) 1 _ 26 (.slice none 0 0) T1)
    have B6 := hid ((HB.out.setCell (p := ⟨w.heap.size + 1, 0, none⟩) (by simp) (.int .i64 0)).setCell (p := ⟨w.heap.size + 1, 1, none⟩) (by simp) (.slice none 0 0))
    have r0 : w1.cell? ⟨w.heap.size + 1, 0, none⟩ = some (.int .i64 0) := cell_of_row _ _ 0 _ _ _ R1.out
    have r1 : w1.cell? ⟨w.heap.size + 1, 1, none⟩ = some (.slice none 0 0) := cell_of_row _ _ 1 _ _ _ R1.out
    have rf0 : w1.frozen? ⟨w.heap.size + 1, 0, none⟩ = false := frozen_of_row _ _ _ _ _ R1.out
    have rf1 : w1.frozen? ⟨w.heap.size + 1, 1, none⟩ = false := frozen_of_row _ _ _ _ _ R1.out
    clear T1
    go_wp2_with fail
    obtain ⟨rfl, rfl⟩ : 0 = RL ∧ [] = RS := Prod.mk.inj ((clearP_no HO.out).symm.trans HR.out)
    obtain rfl : false = ok := HO.out.symm.trans HK.out
    obtain rfl : 0 = m := HM.out
    exact bodyPost_ret (results_cell_tmp7 Try.results20 _ _ (w.heap.size + 1) 26 _ (0, 0) _ rfl T2.out Try.underlying26 rfl size_pg) rfl ⟨none, 0, rfl, OwnP.nil _ _ _, B6.out⟩
  replace hs := Decidable.not_not.1 hs
  rw [decide_eq_true hs]
  obtain ⟨hs2, hs3⟩ := hs
  obtain ⟨q, rfl⟩ := Int.eq_ofNat_of_zero_le hs0
  have HOK := hid (show clearOk L ss (q : Int) lsn = true from clearOk_yes HE.out ⟨hs0, by rw [hl]; exact hs1⟩ ⟨hs2, hs3⟩)
  have HZ92 := hid (fun i => Nat.le_trans ((okP_of HE.out).z i) (show 92 ≤ 1048576 by omega))
  obtain ⟨rfl, rfl⟩ : lsn = RL ∧ trimP (layP ss q []) = RS := Prod.mk.inj ((clearP_yes HOK.out).symm.trans HR.out)
  obtain rfl : true = ok := HOK.out.symm.trans HK.out
  go_wp2_with fail
  refine (impl_with L c q 0 lsn HX.out.reads hl (by omega) HZ92.out (by omega) (show Reads w1 none 0 [] from ⟨rfl, .inl rfl, by simp⟩) (fun _ => rfl) (by omega)).mono ?_
  rintro e w2 ⟨a1, c1', rfl, o, b⟩
  rw [HM.out] at o ⊢
  replace R1 := hid ((b.block _ (by have := HSZ.out; omega)).trans R1.out)
  replace HB := hid (HB.out.trans (b.mono HB.out.size))
  have LO := hid (show w.heap.size + 2 ≤ w1.heap.size from HSZ.out)
  have HO := hid o
  clear b o c0 c1 HX
  have T1 := heap_setCell_same w2 (w.heap.size + 1) 0 _ 26 (.int .i64 lsn) R1.out
  have T2 := hid (heap_setCell_same _ (w.heap.size + 1) 1 _ 26 (.slice a1 m c1') T1)
  have B6 := hid ((HB.out.setCell (p := ⟨w.heap.size + 1, 0, none⟩) (by simp) (.int .i64 lsn)).setCell (p := ⟨w.heap.size + 1, 1, none⟩) (by simp) (.slice a1 m c1'))
  have r0 : w2.cell? ⟨w.heap.size + 1, 0, none⟩ = some (.int .i64 0) := cell_of_row _ _ 0 _ _ _ R1.out
  have r1 : w2.cell? ⟨w.heap.size + 1, 1, none⟩ = some (.slice none 0 0) := cell_of_row _ _ 1 _ _ _ R1.out
  have rf0 : w2.frozen? ⟨w.heap.size + 1, 0, none⟩ = false := frozen_of_row _ _ _ _ _ R1.out
  have rf1 : w2.frozen? ⟨w.heap.size + 1, 1, none⟩ = false := frozen_of_row _ _ _ _ _ R1.out
  clear T1
  have O6 := hid (HO.out.agree (w' := (w2.setCell ⟨w.heap.size + 1, 0, none⟩ (.int .i64 lsn)).setCell ⟨w.heap.size + 1, 1, none⟩ (.slice a1 m c1')) (fun k h1 _ => (heap_set_ne _ _ _ _ _ (by have := LO.out; omega)).trans (heap_set_ne _ _ _ _ _ (by have := LO.out; omega))))
  go_wp2_with fail
  exact bodyPost_ret (results_cell_tmp7 Try.results20 _ _ (w.heap.size + 1) 26 _ (0, 0) _ rfl T2.out Try.underlying26 rfl size_pg) rfl ⟨_, _, rfl, O6.out.mono (by have := LO.out; omega) (by simp only [set_size]; exact Nat.le_refl _), B6.out⟩
end Go.Proofs.Ytdfieopdbpklnaa
/- The contract of the program's PageRead. Conditions: a slice as Go has them. -/



namespace Go.Proofs.Ytdfieopdbpklnaa
open Go.RowKit
set_option maxRecDepth 100000

theorem read_impl {zs : List Int} {ss : List (List Int)} {L : Int} (h256 : 256 ≤ zs.length) (hs : slotsZ (bodyZ zs 4) = some ss) (hL : numOf ((zs.drop 192).take 4) 0 4 = L) :
    (bytesP L ss = zs → readP zs = some (L, ss)) ∧ (bytesP L ss ≠ zs → readP zs = none) := by
  by_cases hz : zs.length = 256
  · have := read_last hz hs
    exact ⟨fun h => this.1 L hL.symm h, fun h => this.2 (by rw [hL]; exact h)⟩
  · refine ⟨fun h => absurd ?_ hz, fun _ => read_none_len hz⟩
    have ho := bytes_ok h (by intro e; rw [e] at h256; simp at h256)
    rw [← h]
    exact bytesP_len ho
theorem cutA_length {body : List Int} : ∀ (j : Nat) (acc : List (List Int)) (p : Nat), cutA body j = some (acc, p) → acc.length = j
  | 0, acc, p, h => by cases h; rfl
  | j + 1, acc, p, h => by
    rw [cutA] at h
    split at h
    · cases h
    · rename_i acc' p' hc
      split at h
      · cases h
        rw [List.length_append, cutA_length j acc' p' hc]; rfl
      · cases h
theorem slots_few {body : List Int} {ss : List (List Int)} (h : slotsZ body = some ss) : 1 + ss.length ≤ body.length := by
  by_cases h1 : 1 + lenB body 0 ≤ body.length
  · cases hc : cutA body (lenB body 0) with
    | none => rw [slotsZ_no2 (Nat.le_refl _) hc] at h; cases h
    | some q =>
      obtain ⟨acc, p⟩ := q
      rw [slotsZ_yes h1 hc] at h
      cases h
      rw [cutA_length _ _ _ hc]; exact h1
  · rw [slotsZ_no1 h1] at h; cases h
theorem read_less {zs : List Int} (h : zs.length < 256 ∨ slotsZ (bodyZ zs 4) = none) : readP zs = none := by
  rcases h with h | h
  · exact read_none_len (by omega)
  · exact read_none_slots h

set_option maxHeartbeats 6400000 in
theorem impl_PageRead {a : Option Addr} {n c : Nat} {zs : List Int} {w : World} (h : Reads w a n zs) (hc : n ≤ c) (hc2 : c ≤ 9223372036854775807)
    {RL : Int} {RS : List (List Int)} {ok : Bool} {m : Nat} (hR : (readP zs).getD (0, []) = (RL, RS)) (hk : (readP zs).isSome = ok) (hm : RS.length = m) :
    Calls Try.prog 17 #[.slice a n c] w fun e w' => ∃ a' c', e = .returned (.tuple #[.agg #[.int .i64 RL, .slice a' m c'], .bool ok]) ∧ OwnP w' w.heap.size w'.heap.size (.slice a' m c') RS ∧ Below w.heap.size w w' := by
  have HR := hid hR
  have HK := hid hk
  have HM := hid hm
  clear hR hk hm
  have HB := hid (Below.alloc1 w (.cells #[.int .i64 0, .slice none 0 0] 26))
  have R0 := hid (heap_alloc_new w (.cells #[.int .i64 0, .slice none 0 0] 26))
  have HSZ := hid (show w.heap.size + 1 ≤ (w.alloc (.cells #[.int .i64 0, .slice none 0 0] 26)).heap.size by simp)
  have HRD := hid (h.below HB.out (Nat.le_refl _))
  clear h
  go_enter_defers Try.func17, Try.ntmps17
  go_wp2_with fail
  generalize w.alloc (.cells #[.int .i64 0, .slice none 0 0] 26) = W at *
  refine (impl_readPage HRD.out hc hc2).mono ?_
  rintro e w1 ⟨hex, b⟩
  replace HRD := hid (HRD.out.below b (Nat.le_refl _))
  replace R0 := hid ((b.block _ (by have := HSZ.out; omega)).trans R0.out)
  replace HB := hid (HB.out.trans (b.mono HB.out.size))
  rcases hex with ⟨hno, t, rfl⟩ | ⟨h256, ss, a', c', hyes, rfl, hown⟩
  · have HN := hid (read_less hno)
    clear hno b
    go_wp2_with fail
    refine leaves_cons (f := 56) (args := #[]) (by simp) (by simp [go_sem]) ?_
    refine (guard_panicking t _).mono ?_
    rintro e u' w'' ⟨rfl, rfl, rfl⟩
    obtain ⟨rfl, rfl⟩ : 0 = RL ∧ [] = RS := Prod.mk.inj ((show (readP zs).getD (0, []) = (0, []) by rw [HN.out]; rfl).symm.trans HR.out)
    obtain rfl : false = ok := (show (readP zs).isSome = false by rw [HN.out]; rfl).symm.trans HK.out
    obtain rfl : 0 = m := HM.out
    exact ⟨_, results_cell_tmp7 Try.results17 _ _ w.heap.size 26 _ (0, 0) _ rfl R0.out Try.underlying26 rfl size_pg, none, 0, rfl, OwnP.nil _ _ _, HB.out⟩
  obtain ⟨L, hL⟩ : ∃ L, numOf ((zs.drop 192).take 4) 0 4 = L := ⟨_, rfl⟩
  rw [hL]
  have HRI := hid (read_impl h256 hyes hL)
  have LO := hid (show w.heap.size + 1 ≤ W.heap.size from HSZ.out)
  replace HSZ := hid (Nat.le_trans HSZ.out b.size)
  obtain ⟨k, hk⟩ : ∃ k, ss.length = k := ⟨_, rfl⟩
  have HLK := hid hk
  rw [hk] at hown ⊢
  have hk47 : k ≤ 140737488355328 := by
    have := slots_few hyes
    rw [bodyZ_len h256 4 (by omega)] at this
    omega
  have bX := Below.alloc1 w1 (.cells #[.int .i64 L, .slice a' k c'] 26)
  have RX := hid (heap_alloc_new w1 (.cells #[.int .i64 L, .slice a' k c'] 26))
  have HO := hid (hown.below bX (Nat.le_refl _))
  replace HRD := hid (HRD.out.below bX (Nat.le_refl _))
  replace R0 := hid ((bX.block _ (by have := HSZ.out; omega)).trans R0.out)
  replace HB := hid (HB.out.trans (bX.mono HB.out.size))
  have S1 := hid (show (w1.alloc (.cells #[.int .i64 L, .slice a' k c'] 26)).heap.size = w1.heap.size + 1 by simp)
  clear b hown hL hk h256 hyes bX
  go_wp2_with fail
  generalize w1.alloc (.cells #[.int .i64 L, .slice a' k c'] 26) = V0 at *
  refine (impl_PageBytes L c' HO.out.rd HLK.out hk47).mono ?_
  rintro e w2 ⟨v, rfl, ov, b⟩
  have HBB := hid (bytesP_bd (L := L) HO.out.rd.bd)
  obtain ⟨av, cv, rfl, rv, _⟩ := Reads.own ov HBB.out
  have RV := hid rv
  replace HO := hid (HO.out.below b (by have := S1.out; omega))
  replace HRD := hid (HRD.out.below b (Nat.le_refl _))
  replace R0 := hid ((b.block _ (by have := S1.out; have := HSZ.out; omega)).trans R0.out)
  replace RX := hid ((b.block _ (by have := S1.out; omega)).trans RX.out)
  replace HB := hid (HB.out.trans (b.mono HB.out.size))
  have S2 := hid (show w1.heap.size + 1 ≤ w2.heap.size by have := S1.out; have := b.size; omega)
  clear ov rv b
  go_wp2_with fail
  refine (bytes_equal cv c RV.out HRD.out).mono ?_
  rintro e w3 ⟨rfl, e3⟩
  subst w3
  have x0 : w2.cell? ⟨w1.heap.size, 0, none⟩ = some (.int .i64 L) := cell_of_row _ _ 0 _ _ _ RX.out
  have x1 : w2.cell? ⟨w1.heap.size, 1, none⟩ = some (.slice a' k c') := cell_of_row _ _ 1 _ _ _ RX.out
  have r0 : w2.cell? ⟨w.heap.size, 0, none⟩ = some (.int .i64 0) := cell_of_row _ _ 0 _ _ _ R0.out
  have r1 : w2.cell? ⟨w.heap.size, 1, none⟩ = some (.slice none 0 0) := cell_of_row _ _ 1 _ _ _ R0.out
  have rf0 : w2.frozen? ⟨w.heap.size, 0, none⟩ = false := frozen_of_row _ _ _ _ _ R0.out
  have rf1 : w2.frozen? ⟨w.heap.size, 1, none⟩ = false := frozen_of_row _ _ _ _ _ R0.out
  by_cases he : bytesP L ss ≠ zs
  · have HN := hid (HRI.out.2 he)
    rw [decide_eq_false he]
    have T1 := heap_setCell_same w2 w.heap.size 0 _ 26 (.int .i64 0) R0.out
    have T2 := hid (heap_setCell_same _ w.heap.size 1 _ 26 (.slice none 0 0) T1)
    have B6 := hid ((HB.out.setCell (p := ⟨w.heap.size, 0, none⟩) (by simp) (.int .i64 0)).setCell (p := ⟨w.heap.size, 1, none⟩) (by simp) (.slice none 0 0))
    clear T1 he
    go_wp2_with fail
    refine leaves_cons (f := 56) (args := #[]) (by simp) (by simp [go_sem]) ?_
    refine (guard_idle _).mono ?_
    rintro e u' w'' ⟨rfl, rfl, rfl⟩
    obtain ⟨rfl, rfl⟩ : 0 = RL ∧ [] = RS := Prod.mk.inj ((show (readP zs).getD (0, []) = (0, []) by rw [HN.out]; rfl).symm.trans HR.out)
    obtain rfl : false = ok := (show (readP zs).isSome = false by rw [HN.out]; rfl).symm.trans HK.out
    obtain rfl : 0 = m := HM.out
    exact ⟨_, results_cell_tmp7 Try.results17 _ _ w.heap.size 26 _ (0, 0) _ rfl T2.out Try.underlying26 rfl size_pg, none, 0, rfl, OwnP.nil _ _ _, B6.out⟩
  replace he := Decidable.not_not.1 he
  have HY := hid (HRI.out.1 he)
  rw [decide_eq_true he]
  obtain ⟨rfl, rfl⟩ : L = RL ∧ ss = RS := Prod.mk.inj ((show (readP zs).getD (0, []) = (L, ss) by rw [HY.out]; rfl).symm.trans HR.out)
  obtain rfl : true = ok := (show (readP zs).isSome = true by rw [HY.out]; rfl).symm.trans HK.out
  obtain rfl : k = m := HLK.out.symm.trans HM.out
  have T1 := heap_setCell_same w2 w.heap.size 0 _ 26 (.int .i64 L) R0.out
  have T2 := hid (heap_setCell_same _ w.heap.size 1 _ 26 (.slice a' k c') T1)
  have B6 := hid ((HB.out.setCell (p := ⟨w.heap.size, 0, none⟩) (by simp) (.int .i64 L)).setCell (p := ⟨w.heap.size, 1, none⟩) (by simp) (.slice a' k c'))
  have O6 := hid (HO.out.agree (w' := (w2.setCell ⟨w.heap.size, 0, none⟩ (.int .i64 L)).setCell ⟨w.heap.size, 1, none⟩ (.slice a' k c')) (fun q h1 _ => (heap_set_ne _ _ _ _ _ (by have := LO.out; omega)).trans (heap_set_ne _ _ _ _ _ (by have := LO.out; omega))))
  clear T1 he
  go_wp2_with fail
  refine leaves_cons (f := 56) (args := #[]) (by simp) (by simp [go_sem]) ?_
  refine (guard_idle _).mono ?_
  rintro e u' w'' ⟨rfl, rfl, rfl⟩
  exact ⟨_, results_cell_tmp7 Try.results17 _ _ w.heap.size 26 _ (0, 0) _ rfl T2.out Try.underlying26 rfl size_pg, a', c', rfl, O6.out.mono (by have := LO.out; omega) (by simp only [set_size]; have := S2.out; omega), B6.out⟩
end Go.Proofs.Ytdfieopdbpklnaa
/- The contract of the specification's PageRead. Conditions: a slice as Go has them. -/


namespace Go.Proofs.Ytdfieopdbpklnaa
open Go.RowKit
set_option maxRecDepth 100000

theorem read_ne {zs : List Int} {acc : List (List Int)} {L : Int} (hs : slotsZ (bodyZ zs 4) = some acc) (hL : numOf zs 0 4 = L) (h : bytesP L acc ≠ zs) : readP zs = none := by
  unfold readP
  split
  · rw [hs]; simp only; rw [hL, if_neg h]
  · rfl
theorem own_len {w : World} {B x y : Nat} {e : TypeId} {s : Nat} {v : Value} {xs : List Value} (o : w.ownsRow B e s v x xs) (h : x = y) : w.ownsRow B e s v y xs := h ▸ o

set_option maxHeartbeats 12800000 in
theorem spec_PageRead {a : Option Addr} {n0 c : Nat} {zs : List Int} {w : World} (h : Reads w a n0 zs) (hc : n0 ≤ c) (hc2 : c ≤ 9223372036854775807)
    {RL : Int} {RS : List (List Int)} {ok : Bool} {m : Nat} (hR : (readP zs).getD (0, []) = (RL, RS)) (hk : (readP zs).isSome = ok) (hm : RS.length = m) :
    Calls Try.prog 38 #[.slice a n0 c] w fun e w' => ∃ a' c', e = .returned (.tuple #[.agg #[.int .i64 RL, .slice a' m c'], .bool ok]) ∧ OwnP w' w.heap.size w'.heap.size (.slice a' m c') RS ∧ Below w.heap.size w w' := by
  obtain ⟨i0, hi, hz0, hz1, hz2⟩ := info_parts Try.info22
  obtain ⟨k0', ki, kz0, kz1, kz2⟩ := info_parts Try.info5
  have HR := hid hR
  have HK := hid hk
  have HM := hid hm
  clear hR hk hm
  have HB := hid (two w (.cells #[.int .i64 0, .slice none 0 0] 26) (.cells #[.int .i64 0, .slice none 0 0] 26))
  have R0 := hid (((Below.alloc1 (w.alloc (.cells #[.int .i64 0, .slice none 0 0] 26)) (.cells #[.int .i64 0, .slice none 0 0] 26)).block _ (by simp)).trans (heap_alloc_new w (.cells #[.int .i64 0, .slice none 0 0] 26)))
  have R1 := hid (heap_new2 w (.cells #[.int .i64 0, .slice none 0 0] 26) (.cells #[.int .i64 0, .slice none 0 0] 26))
  have HSZ := hid (show ((w.alloc (.cells #[.int .i64 0, .slice none 0 0] 26)).alloc (.cells #[.int .i64 0, .slice none 0 0] 26)).heap.size = w.heap.size + 2 by simp)
  have HRD := hid (h.below HB.out (Nat.le_refl _))
  have HRW := hid h
  have HZL := hid h.len
  have HBD := hid (show bdZ zs from h.bd)
  by_cases hn : n0 ≠ 256
  · have hn' : ((n0 : Int) == 256) = false := by simp; omega
    have hn2 : ¬ (n0 : Int) = 256 := by omega
    have HN := hid (show readP zs = none from read_none_len (by rw [HZL.out]; exact hn))
    go_enter Try.func38, Try.ntmps38
    go_wp2_with (first
      | (refine wpList_load_row rfl 26 (.tmp 4) rfl (w.heap.size + 1) rfl 26 _ (0, 0) _ R1.out Try.underlying26 rfl size_pg ?_)
      | (refine wpList_store_row rfl 26 (.tmp 2) (.tmp 14) rfl w.heap.size #[.int .i64 0, .slice none 0 0] rfl rfl 26 _ R0.out ?s1 ?s2 ?s3 ?_))
    case s1 => exact size_pg
    case s2 => rfl
    case s3 => simp [Value.oneCell']
    obtain ⟨rfl, rfl⟩ : 0 = RL ∧ [] = RS := Prod.mk.inj ((show (readP zs).getD (0, []) = (0, []) by rw [HN.out]; rfl).symm.trans HR.out)
    obtain rfl : false = ok := (show (readP zs).isSome = false by rw [HN.out]; rfl).symm.trans HK.out
    obtain rfl : 0 = m := HM.out
    exact bodyPost_ret (results_cell_tmp7 Try.results38 _ _ w.heap.size 26 _ (0, 0) _ rfl (setRow_heap _ _ _ _ _ _ R0.out) Try.underlying26 rfl size_pg) rfl ⟨none, 0, rfl, OwnP.nil _ _ _, below_setRow HB.out (by omega) _⟩
  replace hn := Decidable.not_not.1 hn
  subst hn
  obtain ⟨b, off, rfl, hbl⟩ : ∃ b off, a = some ⟨b, off, none⟩ ∧ b < w.heap.size := by
    rcases h.cells with h0 | ⟨b, off, e, hcc⟩
    · omega
    · exact ⟨b, off, e, by have := hcc 0 (by omega); exact World.block_lt_of_cell? w _ this⟩
  have HBL := hid hbl
  clear h hbl
  go_enter Try.func38, Try.ntmps38
  go_wp2_with fail
  generalize (w.alloc (.cells #[.int .i64 0, .slice none 0 0] 26)).alloc (.cells #[.int .i64 0, .slice none 0 0] 26) = W at *
  refine (spec_GetNum c HRD.out (by omega) 0 4 (by omega) (by omega) (by omega)).mono ?_
  rintro e w1 ⟨rfl, e1⟩
  subst w1
  obtain ⟨L, hL⟩ : ∃ L, numOf zs 0 4 = L := ⟨_, rfl⟩
  rw [hL]
  have HLN := hid hL
  clear hL
  have HL := hid (show Liv W W.heap.size (w.heap.size + 1) 0 none 0 0 [] [] from ⟨R1.out, World.ownsRow_nil _ _ _ _, Bands.nil _ _ _, rfl⟩)
  obtain ⟨x0, x1⟩ := HL.out.box
  have xf := HL.out.fz 0
  have HL1 := hid (HL.out.lsn L)
  have R2 := hid ((heap_set_ne W (w.heap.size + 1) 0 w.heap.size (.int .i64 L) (by omega)).trans R0.out)
  have HB2 := hid (HB.out.setCell (p := ⟨w.heap.size + 1, 0, none⟩) (by simp) (.int .i64 L))
  have ZS := hid (show (W.setCell ⟨w.heap.size + 1, 0, none⟩ (.int .i64 L)).heap.size = w.heap.size + 2 by simp only [set_size]; exact HSZ.out)
  clear HL HB R0 HRD R1
  go_wp2_with fail
  clear x0 x1 xf
  generalize W.setCell ⟨w.heap.size + 1, 0, none⟩ (.int .i64 L) = U at *
  go_loopw [5, 6] (fun s i wr => ∃ (k : Nat) (a5 : Option Addr) (c5 : Nat), k ≤ 4 ∧ i = .int .i64 ((64 * k : Nat) : Int) ∧ s = .slice a5 (60 * k) c5 ∧ Hid (wr.ownsRow U.heap.size 5 1 (.slice a5 (60 * k) c5) (60 * k) (bys (bodyZ zs k))) ∧ Hid (Below U.heap.size U wr)) (fun _ i _ => 256 - (intOf i).toNat)
  case atStart => exact ⟨0, none, 0, by omega, rfl, rfl, hid (World.ownsRow_nil _ _ _ _), hid (Below.refl _ _)⟩
  case round =>
    obtain ⟨k, a5, c5, hk, rfl, rfl, HO, HW⟩ := hrel
    by_cases hlt4 : k < 4
    · obtain ⟨q, hq⟩ : ∃ q, 64 * k = q := ⟨_, rfl⟩
      have HQ := hid hq
      obtain ⟨N5, hN5⟩ : ∃ N5, 60 * k = N5 := ⟨_, rfl⟩
      have HN5 := hid hN5
      have hq256 : q + 64 ≤ 256 := by omega
      have hN192 : N5 ≤ 180 := by omega
      rw [hN5] at HO ⊢
      rw [hq]
      clear hq hN5
      have l1 : (q : Int) < 256 := by omega
      have l2 : (0 : Int) ≤ (q : Int) := by omega
      have l3 : (q : Int) + 64 ≤ (c : Int) := by omega
      have l4 : ¬ c = q + 4 := by omega
      have l5 : q + 4 ≤ c := by omega
      have l6 : q + 64 ≤ c := by omega
      have R6 := hid (reads_cut (HRW.out.below (HB2.out.trans (HW.out.mono HB2.out.size)) (Nat.le_refl _)) (q + 4) 60 (by omega))
      have hcl := hid (show ((zs.drop (q + 4)).take 60).length = 60 from cut_len (by rw [HZL.out]; omega))
      go_wp2_with (at_builtin; refine wpList_append_row rfl _ _ 22 rfl U.heap.size 5 k0' (.int .u8 0) 1 1 Try.underlying22 ki kz0 kz1 kz2 rfl (by decide) _ _ _ rfl HO.out (some ⟨b, off + (q + 4), none⟩) (q + 64 - (q + 4)) (c - (q + 4)) (bys ((zs.drop (q + 4)).take 60)) rfl ?d1 (R6.out.news' (c := c - (q + 4)) (fun e => by cases e)) ?d5 ?d2 ?d3 ?d4 ?d6 ?_)
      case d1 => rw [bys_length, hcl.out]; omega
      case d5 => exact fun e => by cases e
      case d2 => exact bys_one _
      case d3 => unfold maxLen; omega
      case d4 => omega
      case d6 => exact HW.out.size
      intro a8 c8 w8 o8 g8
      replace HW := hid (HW.out.grown g8 HW.out.size (fun k hk => (HO.out.lt k hk).1))
      have HO8 := hid (show w8.ownsRow U.heap.size 5 1 (.slice a8 (60 * (k + 1)) c8) (60 * (k + 1)) (bys (bodyZ zs (k + 1))) by
        have e : N5 + 60 = 60 * (k + 1) := by have := HN5.out; omega
        simp only [bodyZ, secB_at, bys_append, HQ.out]
        rw [e] at o8
        exact o8)
      have e9 : N5 + 60 = 60 * (k + 1) := by have := HN5.out; omega
      rw [e9]
      clear o8 g8 HO R6 e9
      go_wp2_with fail
      go_roundw
      case rel => exact ⟨k + 1, a8, c8, by omega, by have := HQ.out; go_num, rfl, HO8, HW⟩
      case measure => have := HQ.out; simp [intOf]; omega
    · obtain rfl : k = 4 := by omega
      clear hlt4 hk
      have HBBD := hid (show bdZ (bodyZ zs 4) from bodyZ_bd HBD.out 4)
      obtain ⟨gb, cb, e0, hgb, hgb2⟩ := HO.out.form (by omega)
      obtain ⟨rfl, _, rfl⟩ := Value.slice.inj e0
      have hcb : 240 ≤ c5 ∧ c5 ≤ 9223372036854775807 := by
        rcases HO.out.2 with ⟨e, _⟩ | ⟨g', cap, cur, e, _, _, h1, h2, _⟩
        · cases e
        · obtain ⟨_, _, rfl⟩ := Value.slice.inj e
          exact ⟨h1, h2⟩
      obtain ⟨hcb1, hcb2⟩ := hcb
      have RB := hid (show Reads wr (some ⟨gb, 0, none⟩) 240 (bodyZ zs 4) by
        obtain ⟨x, y, e, r, _⟩ := Reads.own HO.out HBBD.out
        obtain ⟨rfl, _, _⟩ := Value.slice.inj e
        exact r)
      have HGB := hid (show w.heap.size + 2 ≤ gb ∧ gb < wr.heap.size by have := ZS.out; omega)
      have HL := hid (show Liv wr wr.heap.size (w.heap.size + 1) L none 0 0 [] [] from ⟨(HW.out.block _ (by have := ZS.out; omega)).trans HL1.out.row, World.ownsRow_nil _ _ _ _, Bands.nil _ _ _, rfl⟩)
      have R0 := hid ((HW.out.block _ (by have := ZS.out; omega)).trans R2.out)
      have HB := hid (HB2.out.trans (HW.out.mono HB2.out.size))
      have LO := hid (show w.heap.size + 2 ≤ wr.heap.size by have := ZS.out; have := HW.out.size; omega)
      clear e0 hgb hgb2 HO HL1 R2 HB2 HW ZS
      generalize wr = V at *
      obtain ⟨BB, hBB⟩ : ∃ BB, bodyZ zs 4 = BB := ⟨_, rfl⟩
      rw [hBB] at RB HBBD
      have HBB := hid hBB
      have HLB := hid (show BB.length = 240 from RB.out.len)
      obtain ⟨n, hn⟩ : ∃ n, lenB BB 0 = n := ⟨_, rfl⟩
      have hn255 : n ≤ 255 := by rw [← hn]; exact (lenB_cast HBBD.out 0).2
      have HN0 := hid hn
      have hcx : V.cell? ⟨gb, 0, none⟩ = some (.int .u8 (n : Int)) := by
        rcases RB.out.cells with h0 | ⟨b', o', e, hcc⟩
        · omega
        · cases e
          rw [← hn, ← (lenB_cast HBBD.out 0).1]
          simpa using hcc 0 (by omega)
      have hw := wrapn7 n hn255
      clear hBB hn
      go_wp2_with fail
      clear hcx hw
      go_loopw [8, 9] (fun s i wr => ∃ (j p : Nat) (acc : List (List Int)) (a' : Option Addr) (c' : Nat) (xs : List Value), j ≤ n ∧ p ≤ 256 ∧ i = .int .i64 j ∧ s = .int .i64 p ∧ Hid (cutA BB j = some (acc, p)) ∧ Hid (p ≤ 240 ∧ n ≤ 239 ∨ j = 0 ∧ p = 1 + n) ∧ Hid (Liv wr V.heap.size (w.heap.size + 1) L a' j c' xs acc) ∧ Hid (wr.heap[w.heap.size]? = some (.cells #[.int .i64 0, .slice none 0 0] 26 (0, 0))) ∧ Hid (Below w.heap.size w wr) ∧ Hid (Reads wr (some ⟨gb, 0, none⟩) 240 BB) ∧ Hid (V.heap.size ≤ wr.heap.size)) (fun _ i _ => n - (intOf i).toNat)
      case atStart => exact ⟨0, 1 + n, [], none, 0, [], Nat.zero_le _, by omega, rfl, by go_num, hid (by simp only [cutA, HN0.out]), hid (.inr ⟨rfl, rfl⟩), HL, R0, HB, RB, hid (Nat.le_refl _)⟩
      case round =>
        clear HL R0 HB RB
        obtain ⟨j, p, acc, a', c', xs, hj, hp256, rfl, rfl, HC, HNJ, HL, R0, HB, RB, HZV⟩ := hrel
        by_cases hlt : j < n
        · have hlt' : (j : Int) < (n : Int) := by omega
          have hj240 : 1 + j < 240 := by rcases HNJ.out with h | h <;> omega
          have hj' : 1 + (j : Int) < 240 := by omega
          have hj0 : (0 : Int) ≤ 1 + (j : Int) := by omega
          obtain ⟨k, hk⟩ : ∃ k, lenB BB (1 + j) = k := ⟨_, rfl⟩
          have hk255 : k ≤ 255 := by rw [← hk]; exact (lenB_cast HBBD.out _).2
          have HK1 := hid hk
          have hcx : wr.cell? ⟨gb, 1 + j, none⟩ = some (.int .u8 (k : Int)) := by
            rcases RB.out.cells with h0 | ⟨b', o', e, hcc⟩
            · omega
            · cases e
              rw [← hk, ← (lenB_cast HBBD.out (1 + j)).1]
              simpa using hcc (1 + j) (by omega)
          have hw := wrapn7 k hk255
          clear hk
          by_cases hp : 240 < p
          · have hp' : (240 : Int) < (p : Int) := by omega
            have HN := hid (show readP zs = none from read_none_slots (by rw [HBB.out]; exact slotsZ_no1 (by rw [HN0.out, HLB.out]; rcases HNJ.out with h | h <;> omega)))
            have T1 := heap_setCell_same wr w.heap.size 0 _ 26 (.int .i64 0) R0.out
            have T2 := hid (heap_setCell_same _ w.heap.size 1 _ 26 (.slice none 0 0) T1)
            have B6 := hid ((HB.out.setCell (p := ⟨w.heap.size, 0, none⟩) (by simp) (.int .i64 0)).setCell (p := ⟨w.heap.size, 1, none⟩) (by simp) (.slice none 0 0))
            have r0 : wr.cell? ⟨w.heap.size, 0, none⟩ = some (.int .i64 0) := cell_of_row _ _ 0 _ _ _ R0.out
            have r1 : wr.cell? ⟨w.heap.size, 1, none⟩ = some (.slice none 0 0) := cell_of_row _ _ 1 _ _ _ R0.out
            have rf0 : wr.frozen? ⟨w.heap.size, 0, none⟩ = false := frozen_of_row _ _ _ _ _ R0.out
            have rf1 : wr.frozen? ⟨w.heap.size, 1, none⟩ = false := frozen_of_row _ _ _ _ _ R0.out
            clear T1
            go_wp2_with fail
            obtain ⟨rfl, rfl⟩ : 0 = RL ∧ [] = RS := Prod.mk.inj ((show (readP zs).getD (0, []) = (0, []) by rw [HN.out]; rfl).symm.trans HR.out)
            obtain rfl : false = ok := (show (readP zs).isSome = false by rw [HN.out]; rfl).symm.trans HK.out
            obtain rfl : 0 = m := HM.out
            exact bodyPost_ret (results_cell_tmp7 Try.results38 _ _ w.heap.size 26 _ (0, 0) _ rfl T2.out Try.underlying26 rfl size_pg) rfl ⟨none, 0, rfl, OwnP.nil _ _ _, B6.out⟩

          have hp' : ¬ (240 : Int) < (p : Int) := by omega
          by_cases hpk : 240 < p + k
          · have hpk' : (240 : Int) - (p : Int) < (k : Int) := by omega
            have HN := hid (show readP zs = none from read_none_slots (by rw [HBB.out]; exact slotsZ_no2 (j := j + 1) (by rw [HN0.out]; omega) (cutA_stop HC.out (by rw [HK1.out, HLB.out]; omega))))
            have T1 := heap_setCell_same wr w.heap.size 0 _ 26 (.int .i64 0) R0.out
            have T2 := hid (heap_setCell_same _ w.heap.size 1 _ 26 (.slice none 0 0) T1)
            have B6 := hid ((HB.out.setCell (p := ⟨w.heap.size, 0, none⟩) (by simp) (.int .i64 0)).setCell (p := ⟨w.heap.size, 1, none⟩) (by simp) (.slice none 0 0))
            have r0 : wr.cell? ⟨w.heap.size, 0, none⟩ = some (.int .i64 0) := cell_of_row _ _ 0 _ _ _ R0.out
            have r1 : wr.cell? ⟨w.heap.size, 1, none⟩ = some (.slice none 0 0) := cell_of_row _ _ 1 _ _ _ R0.out
            have rf0 : wr.frozen? ⟨w.heap.size, 0, none⟩ = false := frozen_of_row _ _ _ _ _ R0.out
            have rf1 : wr.frozen? ⟨w.heap.size, 1, none⟩ = false := frozen_of_row _ _ _ _ _ R0.out
            clear T1
            go_wp2_with fail
            obtain ⟨rfl, rfl⟩ : 0 = RL ∧ [] = RS := Prod.mk.inj ((show (readP zs).getD (0, []) = (0, []) by rw [HN.out]; rfl).symm.trans HR.out)
            obtain rfl : false = ok := (show (readP zs).isSome = false by rw [HN.out]; rfl).symm.trans HK.out
            obtain rfl : 0 = m := HM.out
            exact bodyPost_ret (results_cell_tmp7 Try.results38 _ _ w.heap.size 26 _ (0, 0) _ rfl T2.out Try.underlying26 rfl size_pg) rfl ⟨none, 0, rfl, OwnP.nil _ _ _, B6.out⟩

          have hpk' : ¬ (240 : Int) - (p : Int) < (k : Int) := by omega
          have HC2 := hid (cutA_some HC.out (by rw [HK1.out, HLB.out]; omega))
          obtain ⟨zk, hzk⟩ : ∃ zk, (BB.drop p).take k = zk := ⟨_, rfl⟩
          rw [HK1.out, hzk] at HC2
          have RZ := hid (reads_cut RB.out p k (by omega))
          rw [hzk] at RZ
          simp only [Nat.zero_add] at RZ
          have HZK := hid (show zk.length = k from RZ.out.len)
          have HZB := hid RZ.out.bd
          clear hzk
          obtain ⟨x0, x1⟩ := HL.out.box
          have xf := HL.out.fz 1
          have HLT := hid HL.out.lt
          have HK' := hid (show ∀ X, Below wr.heap.size wr X → X.cell? ⟨w.heap.size + 1, 1, none⟩ = some (.slice a' j c') ∧ X.frozen? ⟨w.heap.size + 1, 1, none⟩ = false from fun X bb => ⟨(bb.cell (p := ⟨w.heap.size + 1, 1, none⟩) HLT.out).trans x1, (bb.frozen (p := ⟨w.heap.size + 1, 1, none⟩) HLT.out).trans xf⟩)
          have HNE := hid (show some (w.heap.size + 1) ≠ (Value.slice a' j c').ownBlock from own_nk HL.out.own HL.out.row (by decide))
          have HNR := hid (show some w.heap.size ≠ (Value.slice a' j c').ownBlock from own_nk HL.out.own R0.out (by decide))
          have HNB := hid (show some gb ≠ (Value.slice a' j c').ownBlock from fun e => by have := (HL.out.own.lt _ e.symm).1; have := HGB.out; omega)
          have H0 := hid (World.ownsRow_lit (base := wr.heap.size) (e := 5) (size := 1) wr #[] 0 (Nat.le_refl _) (Nat.zero_le _) rfl)
          have l1 : (0 : Int) ≤ (p : Int) := by omega
          have l3 : (p : Int) + (k : Int) ≤ (c5 : Int) := by omega
          have l5 : p ≤ c5 := by omega
          have l6 : p + k ≤ c5 := by omega
          have l7 : (p : Int) ≤ (p : Int) + (k : Int) := by omega
          by_cases l4 : c5 = p
          · have hk00 : k = 0 := by omega
            have RZ2 := hid (show Reads wr (some ⟨gb, 0, none⟩) k zk from ⟨HZK.out, .inl hk00, HZB.out⟩)
            clear RZ
            subst hk00
            obtain rfl : c5 = p := l4
            go_wp2_with fail
            clear hcx hw x0 x1 xf
            have lw : IntKind.i64.wrap (c5 : Int) = (c5 : Int) := by simp [IntKind.wrap, IntKind.bits, IntKind.signed]; omega
            refine region_K 13 (fun W => W.cell? ⟨(w.heap.size + 1), 1, none⟩ = some (.slice a' j c') ∧ W.frozen? ⟨(w.heap.size + 1), 1, none⟩ = false) (by kernel_rfl) ?_ (fun hHeld => ?_)
            · exact HK'.out _ ((Below.refl _ wr).drew)
            refine anyK_take (i := 0) (v := ?v721) rfl (by kernel_rfl) (by kernel_rfl) (by kernel_rfl) (by kernel_rfl) (fun _ _ _ h => h) (by rfl) hHeld ?hy721 (some 72) (by rfl) ?rest721
            case hy721 => (intro W hSw; (try dsimp only at hSw); go_simp; (try with_reducible rfl))
            try simp only [Act.put]
            try simp only [List.setIfInBounds_toArray]
            try simp only [List.set_cons_succ, List.set_cons_zero]
            refine anyK_take (i := 1) (v := ?v722) rfl (by kernel_rfl) (by kernel_rfl) (by kernel_rfl) (by kernel_rfl) (fun _ _ _ h => h) (by rfl) hHeld ?hy722 (some 73) (by rfl) ?rest722
            case hy722 => (intro W hSw; (try dsimp only at hSw); go_simp; (try with_reducible rfl))
            try simp only [Act.put]
            try simp only [List.setIfInBounds_toArray]
            try simp only [List.set_cons_succ, List.set_cons_zero]
            refine anyK_take (i := 3) (v := ?v723) rfl (by kernel_rfl) (by kernel_rfl) (by kernel_rfl) (by kernel_rfl) (fun _ _ _ h => h) (by rfl) hHeld ?hy723 (some 75) (by rfl) ?rest723
            case hy723 => (intro W hSw; (try dsimp only at hSw); go_simp; (try with_reducible rfl))
            try simp only [Act.put]
            try simp only [List.setIfInBounds_toArray]
            try simp only [List.set_cons_succ, List.set_cons_zero]
            refine anyK_take (i := 4) (v := ?v724) rfl (by kernel_rfl) (by kernel_rfl) (by kernel_rfl) (by kernel_rfl) (fun _ _ _ h => h) (by rfl) hHeld ?hy724 (some 76) (by rfl) ?rest724
            case hy724 => (intro W hSw; (try dsimp only at hSw); go_simp; (try with_reducible rfl))
            try simp only [Act.put]
            try simp only [List.setIfInBounds_toArray]
            try simp only [List.set_cons_succ, List.set_cons_zero]
            refine anyK_take (i := 5) (v := ?v725) rfl (by kernel_rfl) (by kernel_rfl) (by kernel_rfl) (by kernel_rfl) (fun _ _ _ h => h) (by rfl) hHeld ?hy725 (some 77) (by rfl) ?rest725
            case hy725 => (intro W hSw; (try dsimp only at hSw); go_simp; (try with_reducible rfl))
            try simp only [Act.put]
            try simp only [List.setIfInBounds_toArray]
            try simp only [List.set_cons_succ, List.set_cons_zero]
            refine anyK_take (i := 6) (v := ?v726) rfl (by kernel_rfl) (by kernel_rfl) (by kernel_rfl) (by kernel_rfl) (fun _ _ _ h => h) (by rfl) hHeld ?hy726 (some 78) (by rfl) ?rest726
            case hy726 => (intro W hSw; (try dsimp only at hSw); go_simp; (try with_reducible rfl))
            try simp only [Act.put]
            try simp only [List.setIfInBounds_toArray]
            try simp only [List.set_cons_succ, List.set_cons_zero]
            refine anyK_take (i := 7) (v := ?v727) rfl (by kernel_rfl) (by kernel_rfl) (by kernel_rfl) (by kernel_rfl) (fun _ _ _ h => h) (by rfl) hHeld ?hy727 (some 79) (by rfl) ?rest727
            case hy727 => (intro W hSw; (try dsimp only at hSw); go_simp; (try with_reducible rfl))
            try simp only [Act.put]
            try simp only [List.setIfInBounds_toArray]
            try simp only [List.set_cons_succ, List.set_cons_zero]
            refine anyK_take (i := 8) (v := ?v728) rfl (by kernel_rfl) (by kernel_rfl) (by kernel_rfl) (by kernel_rfl) (fun _ _ _ h => h) (by rfl) hHeld ?hy728 (some 80) (by rfl) ?rest728
            case hy728 => (intro W hSw; (try dsimp only at hSw); go_simp; (try with_reducible rfl))
            try simp only [Act.put]
            try simp only [List.setIfInBounds_toArray]
            try simp only [List.set_cons_succ, List.set_cons_zero]
            refine anyK_step (i := 2) (by kernel_rfl) rfl (fun K hK => ?_)
            go_simp
            refine hK.out _ _ ?_ (fun hH2 => ?_)
            · exact HK'.out _ ((bel_al (Below.refl _ wr) _).drew)
            clear hK K hHeld
            have hHeld := hH2
            clear hH2
            try simp only [Act.put]
            try simp only [List.setIfInBounds_toArray]
            try simp only [List.set_cons_succ, List.set_cons_zero]
            refine anyK_step (i := 9) (by kernel_rfl) rfl (fun K hK => ?_)
            refine step_append_row (by rfl) _ _ _ (by rfl) wr.heap.size 5 k0' (.int .u8 0) 1 1 Try.underlying22 ki kz0 kz1 kz2 rfl (by omega) (.slice (some ⟨wr.heap.size, 0, none⟩) 0 0) 0 [] (by rfl) (by simpa using H0.out.drew) (some ⟨gb, 0, none⟩) (0) (0) (bys zk) (by rfl) (by rw [bys_length, HZK.out]) ((RZ2.out.below (bel_al (Below.refl _ wr) _).drew (Nat.le_refl _)).news' (fun e => by cases e)) (fun e => by cases e) (bys_one _) (by unfold maxLen; omega) (by omega) (by simp) ?_
            intro av cv u hob hgb
            simp only [Nat.zero_add, List.nil_append] at hob
            have bu := ((bel_al (Below.refl wr.heap.size wr) (.cells #[] 5)).drew).grown hgb (by simp) (fun q hq => by cases hq; exact Nat.le_refl _)
            have HO1 := hid hob
            have HBU := hid bu
            clear hob hgb bu
            simp only [Nat.zero_add]
            refine hK.out _ _ ?_ (fun hH2 => ?_)
            · exact HK'.out _ HBU.out
            clear hK K hHeld
            have hHeld := hH2
            clear hH2
            try simp only [Act.put]
            try simp only [List.setIfInBounds_toArray]
            try simp only [List.set_cons_succ, List.set_cons_zero]
            refine anyK_step (i := 10) (by kernel_rfl) rfl (fun K hK => ?_)
            go_simp
            refine hK.out _ _ ?_ (fun hH2 => ?_)
            · exact HK'.out _ (bel_al HBU.out _)
            clear hK K hHeld
            have hHeld := hH2
            clear hH2
            try simp only [Act.put]
            try simp only [List.setIfInBounds_toArray]
            try simp only [List.set_cons_succ, List.set_cons_zero]
            refine anyK_step (i := 11) (by kernel_rfl) rfl (fun K hK => ?_)
            refine step_append_row (by rfl) _ _ _ (by rfl) V.heap.size 22 i0 (.slice none 0 0) 1 24 Try.underlying24 hi hz0 hz1 hz2 rfl (by omega) (.slice a' j c') j xs (by rfl) (owns_below (bel_al HBU.out _) (Nat.le_refl _) HL.out.own) (some ⟨u.heap.size, 0, none⟩) 1 1 [.slice av (0) cv] (by rfl) rfl (.inr ⟨_, rfl, World.news_of_block (heap_alloc_new u _)⟩) (fun e => by cases e) (by simp [Value.oneCell']) (by unfold maxLen; omega) (by omega) (by have := HZV.out; have := HBU.out.size; simp; omega) ?_
            intro g' cap w1 hown1 hgrow
            obtain ⟨s1, s2⟩ := HK'.out _ (bel_al HBU.out (.cells #[.slice av (0) cv] 22))
            have k0 := hgrow.cell s1 HNE.out
            have k1 := (hgrow.frozen_far ⟨(w.heap.size + 1), 1, none⟩ (Nat.lt_of_lt_of_le HLT.out (bel_al HBU.out (.cells #[.slice av (0) cv] 22)).size) HNE.out).trans s2
            clear s1 s2
            refine hK.out _ _ ?_ (fun hH2 => ?_)
            · exact ⟨k0, k1⟩
            clear hK K hHeld
            have hHeld := hH2
            clear hH2
            try simp only [Act.put]
            try simp only [List.setIfInBounds_toArray]
            try simp only [List.set_cons_succ, List.set_cons_zero]
            refine anyK_take (i := 12) (v := ?v733) rfl (by kernel_rfl) (by kernel_rfl) (by kernel_rfl) (by kernel_rfl) (fun _ _ _ h => h) (by rfl) hHeld ?hy733 (some 84) (by rfl) ?rest733
            case hy733 => (intro W hSw; (try dsimp only at hSw); go_simp; (try with_reducible rfl))
            try simp only [Act.put]
            try simp only [List.setIfInBounds_toArray]
            try simp only [List.set_cons_succ, List.set_cons_zero]
            refine anyK_last (by kernel_rfl) rfl (fun K hK => ?_)
            go_simp
            refine hK.out _ _ ?_
            clear hK K hHeld
            refine anyK_done (by kernel_rfl) ?_ _
            clear lw
            have bX := bel_al HBU.out (.cells #[.slice av (0) cv] 22)
            have L2 := HL.out.grow (v := .slice av (0) cv) (z := zk) bX (by have := HZV.out; omega) (by rw [HZK.out]; exact (own_len HO1.out (show 0 = 0 from rfl)).alloc _) HZB.out hown1 hgrow
            have HL2 := hid L2
            have R2 := hid (HL.out.grow_at (a2 := g') (c2 := cap) bX hgrow R0.out HNR.out (by omega))
            have B2 := hid (((HB.out.trans (bX.mono HB.out.size)).grown hgrow (Nat.le_trans HB.out.size bX.size) (fun q hq => by have := (HL.out.own.lt q hq).1; have := LO.out; omega)).setCell (p := ⟨(w.heap.size + 1), 1, none⟩) (by simp) (.slice g' (j + 1) cap))
            have RB2 := hid (((RB.out.below bX (Nat.le_refl _)).other hgrow (fun a e => by cases e; exact HNB.out)).other (grown_set7 w1 (w.heap.size + 1) 1 (.slice g' (j + 1) cap)) (fun a e => by cases e; exact (show some gb ≠ some (w.heap.size + 1) from fun e => by have e2 := Option.some.inj e; have := HGB.out; omega)))
            have Z2 := hid (show V.heap.size ≤ (w1.setCell ⟨(w.heap.size + 1), 1, none⟩ (.slice g' (j + 1) cap)).heap.size by have := HZV.out; have := bX.size; have := hgrow.size; simp only [set_size]; omega)
            clear bX L2 hown1 hgrow k0 k1 HL R0 HB RB HZV HK' HBU HO1 H0 HNE HNR HNB
            go_wp2_with fail
            go_roundw
            case rel => exact ⟨j + 1, c5, acc ++ [zk], g', cap, xs ++ [.slice av (0) cv], by omega, by omega, by go_num, by go_num, HC2, hid (.inl ⟨by omega, by rcases HNJ.out with h | h <;> omega⟩), HL2, R2, B2, RB2, Z2⟩
            case measure => simp [intOf]; omega

          go_wp2_with fail
          clear hcx hw x0 x1 xf
          have lw : IntKind.i64.wrap ((p : Int) + (k : Int)) = (p : Int) + (k : Int) := by simp [IntKind.wrap, IntKind.bits, IntKind.signed]; omega
          refine region_K 13 (fun W => W.cell? ⟨(w.heap.size + 1), 1, none⟩ = some (.slice a' j c') ∧ W.frozen? ⟨(w.heap.size + 1), 1, none⟩ = false) (by kernel_rfl) ?_ (fun hHeld => ?_)
          · exact HK'.out _ ((Below.refl _ wr).drew)
          refine anyK_take (i := 0) (v := ?v707) rfl (by kernel_rfl) (by kernel_rfl) (by kernel_rfl) (by kernel_rfl) (fun _ _ _ h => h) (by rfl) hHeld ?hy707 (some 72) (by rfl) ?rest707
          case hy707 => (intro W hSw; (try dsimp only at hSw); go_simp; (try with_reducible rfl))
          try simp only [Act.put]
          try simp only [List.setIfInBounds_toArray]
          try simp only [List.set_cons_succ, List.set_cons_zero]
          refine anyK_take (i := 1) (v := ?v708) rfl (by kernel_rfl) (by kernel_rfl) (by kernel_rfl) (by kernel_rfl) (fun _ _ _ h => h) (by rfl) hHeld ?hy708 (some 73) (by rfl) ?rest708
          case hy708 => (intro W hSw; (try dsimp only at hSw); go_simp; (try with_reducible rfl))
          try simp only [Act.put]
          try simp only [List.setIfInBounds_toArray]
          try simp only [List.set_cons_succ, List.set_cons_zero]
          refine anyK_take (i := 3) (v := ?v709) rfl (by kernel_rfl) (by kernel_rfl) (by kernel_rfl) (by kernel_rfl) (fun _ _ _ h => h) (by rfl) hHeld ?hy709 (some 75) (by rfl) ?rest709
          case hy709 => (intro W hSw; (try dsimp only at hSw); go_simp; (try with_reducible rfl))
          try simp only [Act.put]
          try simp only [List.setIfInBounds_toArray]
          try simp only [List.set_cons_succ, List.set_cons_zero]
          refine anyK_take (i := 4) (v := ?v710) rfl (by kernel_rfl) (by kernel_rfl) (by kernel_rfl) (by kernel_rfl) (fun _ _ _ h => h) (by rfl) hHeld ?hy710 (some 76) (by rfl) ?rest710
          case hy710 => (intro W hSw; (try dsimp only at hSw); go_simp; (try with_reducible rfl))
          try simp only [Act.put]
          try simp only [List.setIfInBounds_toArray]
          try simp only [List.set_cons_succ, List.set_cons_zero]
          refine anyK_take (i := 5) (v := ?v711) rfl (by kernel_rfl) (by kernel_rfl) (by kernel_rfl) (by kernel_rfl) (fun _ _ _ h => h) (by rfl) hHeld ?hy711 (some 77) (by rfl) ?rest711
          case hy711 => (intro W hSw; (try dsimp only at hSw); go_simp; (try with_reducible rfl))
          try simp only [Act.put]
          try simp only [List.setIfInBounds_toArray]
          try simp only [List.set_cons_succ, List.set_cons_zero]
          refine anyK_take (i := 6) (v := ?v712) rfl (by kernel_rfl) (by kernel_rfl) (by kernel_rfl) (by kernel_rfl) (fun _ _ _ h => h) (by rfl) hHeld ?hy712 (some 78) (by rfl) ?rest712
          case hy712 => (intro W hSw; (try dsimp only at hSw); go_simp; (try with_reducible rfl))
          try simp only [Act.put]
          try simp only [List.setIfInBounds_toArray]
          try simp only [List.set_cons_succ, List.set_cons_zero]
          refine anyK_take (i := 7) (v := ?v713) rfl (by kernel_rfl) (by kernel_rfl) (by kernel_rfl) (by kernel_rfl) (fun _ _ _ h => h) (by rfl) hHeld ?hy713 (some 79) (by rfl) ?rest713
          case hy713 => (intro W hSw; (try dsimp only at hSw); go_simp; (try with_reducible rfl))
          try simp only [Act.put]
          try simp only [List.setIfInBounds_toArray]
          try simp only [List.set_cons_succ, List.set_cons_zero]
          refine anyK_take (i := 8) (v := ?v714) rfl (by kernel_rfl) (by kernel_rfl) (by kernel_rfl) (by kernel_rfl) (fun _ _ _ h => h) (by rfl) hHeld ?hy714 (some 80) (by rfl) ?rest714
          case hy714 => (intro W hSw; (try dsimp only at hSw); go_simp; (try with_reducible rfl))
          try simp only [Act.put]
          try simp only [List.setIfInBounds_toArray]
          try simp only [List.set_cons_succ, List.set_cons_zero]
          refine anyK_step (i := 2) (by kernel_rfl) rfl (fun K hK => ?_)
          go_simp
          refine hK.out _ _ ?_ (fun hH2 => ?_)
          · exact HK'.out _ ((bel_al (Below.refl _ wr) _).drew)
          clear hK K hHeld
          have hHeld := hH2
          clear hH2
          try simp only [Act.put]
          try simp only [List.setIfInBounds_toArray]
          try simp only [List.set_cons_succ, List.set_cons_zero]
          refine anyK_step (i := 9) (by kernel_rfl) rfl (fun K hK => ?_)
          refine step_append_row (by rfl) _ _ _ (by rfl) wr.heap.size 5 k0' (.int .u8 0) 1 1 Try.underlying22 ki kz0 kz1 kz2 rfl (by omega) (.slice (some ⟨wr.heap.size, 0, none⟩) 0 0) 0 [] (by rfl) (by simpa using H0.out.drew) (some ⟨gb, p, none⟩) (p + k - p) (c5 - p) (bys zk) (by rfl) (by rw [bys_length, HZK.out] <;> omega) ((RZ.out.below (bel_al (Below.refl _ wr) _).drew (Nat.le_refl _)).news' (fun e => by cases e)) (fun e => by cases e) (bys_one _) (by unfold maxLen; omega) (by omega) (by simp) ?_
          intro av cv u hob hgb
          simp only [Nat.zero_add, List.nil_append, Nat.add_sub_cancel_left] at hob
          have bu := ((bel_al (Below.refl wr.heap.size wr) (.cells #[] 5)).drew).grown hgb (by simp) (fun q hq => by cases hq; exact Nat.le_refl _)
          have HO1 := hid hob
          have HBU := hid bu
          clear hob hgb bu
          simp only [Nat.zero_add, Nat.add_sub_cancel_left]
          refine hK.out _ _ ?_ (fun hH2 => ?_)
          · exact HK'.out _ HBU.out
          clear hK K hHeld
          have hHeld := hH2
          clear hH2
          try simp only [Act.put]
          try simp only [List.setIfInBounds_toArray]
          try simp only [List.set_cons_succ, List.set_cons_zero]
          refine anyK_step (i := 10) (by kernel_rfl) rfl (fun K hK => ?_)
          go_simp
          refine hK.out _ _ ?_ (fun hH2 => ?_)
          · exact HK'.out _ (bel_al HBU.out _)
          clear hK K hHeld
          have hHeld := hH2
          clear hH2
          try simp only [Act.put]
          try simp only [List.setIfInBounds_toArray]
          try simp only [List.set_cons_succ, List.set_cons_zero]
          refine anyK_step (i := 11) (by kernel_rfl) rfl (fun K hK => ?_)
          refine step_append_row (by rfl) _ _ _ (by rfl) V.heap.size 22 i0 (.slice none 0 0) 1 24 Try.underlying24 hi hz0 hz1 hz2 rfl (by omega) (.slice a' j c') j xs (by rfl) (owns_below (bel_al HBU.out _) (Nat.le_refl _) HL.out.own) (some ⟨u.heap.size, 0, none⟩) 1 1 [.slice av (k) cv] (by rfl) rfl (.inr ⟨_, rfl, World.news_of_block (heap_alloc_new u _)⟩) (fun e => by cases e) (by simp [Value.oneCell']) (by unfold maxLen; omega) (by omega) (by have := HZV.out; have := HBU.out.size; simp; omega) ?_
          intro g' cap w1 hown1 hgrow
          obtain ⟨s1, s2⟩ := HK'.out _ (bel_al HBU.out (.cells #[.slice av (k) cv] 22))
          have k0 := hgrow.cell s1 HNE.out
          have k1 := (hgrow.frozen_far ⟨(w.heap.size + 1), 1, none⟩ (Nat.lt_of_lt_of_le HLT.out (bel_al HBU.out (.cells #[.slice av (k) cv] 22)).size) HNE.out).trans s2
          clear s1 s2
          refine hK.out _ _ ?_ (fun hH2 => ?_)
          · exact ⟨k0, k1⟩
          clear hK K hHeld
          have hHeld := hH2
          clear hH2
          try simp only [Act.put]
          try simp only [List.setIfInBounds_toArray]
          try simp only [List.set_cons_succ, List.set_cons_zero]
          refine anyK_take (i := 12) (v := ?v719) rfl (by kernel_rfl) (by kernel_rfl) (by kernel_rfl) (by kernel_rfl) (fun _ _ _ h => h) (by rfl) hHeld ?hy719 (some 84) (by rfl) ?rest719
          case hy719 => (intro W hSw; (try dsimp only at hSw); go_simp; (try with_reducible rfl))
          try simp only [Act.put]
          try simp only [List.setIfInBounds_toArray]
          try simp only [List.set_cons_succ, List.set_cons_zero]
          refine anyK_last (by kernel_rfl) rfl (fun K hK => ?_)
          go_simp
          refine hK.out _ _ ?_
          clear hK K hHeld
          refine anyK_done (by kernel_rfl) ?_ _
          clear lw
          have bX := bel_al HBU.out (.cells #[.slice av (k) cv] 22)
          have L2 := HL.out.grow (v := .slice av (k) cv) (z := zk) bX (by have := HZV.out; omega) (by rw [HZK.out]; exact (own_len HO1.out (show k = k by omega)).alloc _) HZB.out hown1 hgrow
          have HL2 := hid L2
          have R2 := hid (HL.out.grow_at (a2 := g') (c2 := cap) bX hgrow R0.out HNR.out (by omega))
          have B2 := hid (((HB.out.trans (bX.mono HB.out.size)).grown hgrow (Nat.le_trans HB.out.size bX.size) (fun q hq => by have := (HL.out.own.lt q hq).1; have := LO.out; omega)).setCell (p := ⟨(w.heap.size + 1), 1, none⟩) (by simp) (.slice g' (j + 1) cap))
          have RB2 := hid (((RB.out.below bX (Nat.le_refl _)).other hgrow (fun a e => by cases e; exact HNB.out)).other (grown_set7 w1 (w.heap.size + 1) 1 (.slice g' (j + 1) cap)) (fun a e => by cases e; exact (show some gb ≠ some (w.heap.size + 1) from fun e => by have e2 := Option.some.inj e; have := HGB.out; omega)))
          have Z2 := hid (show V.heap.size ≤ (w1.setCell ⟨(w.heap.size + 1), 1, none⟩ (.slice g' (j + 1) cap)).heap.size by have := HZV.out; have := bX.size; have := hgrow.size; simp only [set_size]; omega)
          clear bX L2 hown1 hgrow k0 k1 HL R0 HB RB HZV HK' HBU HO1 H0 HNE HNR HNB
          go_wp2_with fail
          go_roundw
          case rel => exact ⟨j + 1, p + k, acc ++ [zk], g', cap, xs ++ [.slice av (k) cv], by omega, by omega, by go_num, by go_num, HC2, hid (.inl ⟨by omega, by rcases HNJ.out with h | h <;> omega⟩), HL2, R2, B2, RB2, Z2⟩
          case measure => simp [intOf]; omega

        · have hlt' : ¬ (j : Int) < (n : Int) := by omega
          obtain rfl : n = j := by omega
          have hn239 : n ≤ 239 := by rcases HNJ.out with h | h <;> omega
          have HS := hid (show slotsZ (bodyZ zs 4) = some acc by rw [HBB.out]; exact slotsZ_yes (by rw [HN0.out, HLB.out]; omega) (by rw [HN0.out]; exact HC.out))
          have HLK := hid HL.out.len
          have HBY := hid (show bdZ (bytesP L acc) from bytesP_bd HL.out.reads.bd)
          have HSE := hid (str_eq7 HBY.out HBD.out)
          obtain ⟨x0, x1⟩ := HL.out.box
          have HLT := hid HL.out.lt
          have HK' := hid (show ∀ X, Below wr.heap.size wr X → X.cell? ⟨w.heap.size + 1, 0, none⟩ = some (.int .i64 L) ∧ X.cell? ⟨w.heap.size + 1, 1, none⟩ = some (.slice a' n c') ∧ (convert 22 9 (.slice (some ⟨b, off, none⟩) 256 c)).run Try.prog X = .ok (.string (str zs)) X from fun X bb => ⟨(bb.cell (p := ⟨w.heap.size + 1, 0, none⟩) HLT.out).trans x0, (bb.cell (p := ⟨w.heap.size + 1, 1, none⟩) HLT.out).trans x1, (HRW.out.below (HB.out.trans (bb.mono HB.out.size)) (Nat.le_refl _)).str c 22 Try.underlying22 Try.underlying5 Try.underlying9⟩)
          clear x0 x1
          by_cases he : bytesP L acc ≠ zs
          · have hse : ((str (bytesP L acc)).toList == (str zs).toList) = false := by rw [HSE.out]; exact decide_eq_false he
            have HE := hid he
            clear he
            go_wp2_with fail
            refine region_K 99 (fun X => X.cell? ⟨(w.heap.size + 1), 0, none⟩ = some (.int .i64 L) ∧ X.cell? ⟨(w.heap.size + 1), 1, none⟩ = some (.slice a' n c') ∧ (convert 22 9 (.slice (some ⟨b, off, none⟩) 256 c)).run Try.prog X = .ok (.string (str zs)) X) (by kernel_rfl) ?_ (fun hHeld => ?_)
            · exact HK'.out _ ((Below.refl _ wr).drew)
            refine anyK_take2 (i := 3) (v := ?v742) rfl (by kernel_rfl) (by kernel_rfl) (by kernel_rfl) (by kernel_rfl) (fun _ _ _ h => h) (by rfl) hHeld ?hy742 (some 91) (by rfl) ?rest742
            case hy742 => (intro W hSw; (try dsimp only at hSw); go_simp; (try with_reducible rfl))
            try simp only [Act.put]
            try simp only [List.setIfInBounds_toArray]
            try simp only [List.set_cons_succ, List.set_cons_zero]
            refine anyK_take2 (i := 4) (v := ?v743) rfl (by kernel_rfl) (by kernel_rfl) (by kernel_rfl) (by kernel_rfl) (fun _ _ _ h => h) (by rfl) hHeld ?hy743 (some 92) (by rfl) ?rest743
            case hy743 => (intro W hSw; (try dsimp only at hSw); go_simp; (try with_reducible rfl))
            try simp only [Act.put]
            try simp only [List.setIfInBounds_toArray]
            try simp only [List.set_cons_succ, List.set_cons_zero]
            refine anyK_take2 (i := 0) (v := ?v744) rfl (by kernel_rfl) (by kernel_rfl) (by kernel_rfl) (by kernel_rfl) (fun _ _ _ h => h) (by rfl) hHeld ?hy744 (some 88) (by rfl) ?rest744
            case hy744 => (intro W hSw; (try dsimp only at hSw); go_simp; (try with_reducible rfl))
            try simp only [Act.put]
            try simp only [List.setIfInBounds_toArray]
            try simp only [List.set_cons_succ, List.set_cons_zero]
            refine anyK_step (i := 1) (by kernel_rfl) rfl (fun K0 hK => ?_)
            go_simp
            refine (spec_PageBytes L c' (HL.out.reads.below ((Below.refl _ wr).drew) (Nat.le_refl _)) HLK.out).mono ?_
            rintro e y1 ⟨s1, rfl, o1, b1⟩
            obtain ⟨p1, d1, rfl, rp1, -⟩ := Reads.own o1 HBY.out
            have RP1 := hid rp1
            have Y1 := hid (((Below.refl wr.heap.size wr).drew).trans (b1.mono (Nat.le_refl _)))
            clear rp1 o1 b1
            go_wp2_with fail
            refine hK.out _ _ ?_ (fun hH2 => ?_)
            · exact HK'.out _ Y1.out
            clear hK K0 hHeld
            have hHeld := hH2
            clear hH2
            try simp only [Act.put]
            try simp only [List.setIfInBounds_toArray]
            try simp only [List.set_cons_succ, List.set_cons_zero]
            refine anyK_more (fun X => (X.cell? ⟨(w.heap.size + 1), 0, none⟩ = some (.int .i64 L) ∧ X.cell? ⟨(w.heap.size + 1), 1, none⟩ = some (.slice a' n c') ∧ (convert 22 9 (.slice (some ⟨b, off, none⟩) 256 c)).run Try.prog X = .ok (.string (str zs)) X) ∧ (convert 22 9 (.slice p1 (bytesP L acc).length d1)).run Try.prog X = .ok (.string (str (bytesP L acc))) X) (fun _ h => h.1) ⟨HK'.out _ Y1.out, RP1.out.str d1 22 Try.underlying22 Try.underlying5 Try.underlying9⟩ (fun hH3 => ?_)
            clear hHeld
            have hHeld := hH3
            clear hH3
            refine anyK_take2 (i := 2) (v := ?v746) rfl (by kernel_rfl) (by kernel_rfl) (by kernel_rfl) (by kernel_rfl) (fun _ _ _ h => h) (by rfl) hHeld ?hy746 (some 90) (by rfl) ?rest746
            case hy746 => (intro W hSw; (try dsimp only at hSw); go_simp; (try with_reducible rfl))
            try simp only [Act.put]
            try simp only [List.setIfInBounds_toArray]
            try simp only [List.set_cons_succ, List.set_cons_zero]
            refine anyK_take2 (i := 5) (v := ?v747) rfl (by kernel_rfl) (by kernel_rfl) (by kernel_rfl) (by kernel_rfl) (fun _ _ _ h => h) (by rfl) hHeld ?hy747 (some 93) (by rfl) ?rest747
            case hy747 => (intro W hSw; (try dsimp only at hSw); go_simp; (try with_reducible rfl))
            try simp only [Act.put]
            try simp only [List.setIfInBounds_toArray]
            try simp only [List.set_cons_succ, List.set_cons_zero]
            refine anyK_done (by kernel_rfl) ?_ _
            clear hHeld
            have R0' := hid ((Y1.out.block _ (by have := LO.out; have := HZV.out; omega)).trans R0.out)
            have HB' := hid (HB.out.trans (Y1.out.mono HB.out.size))
            have HN := hid (show readP zs = none from read_ne HS.out HLN.out HE.out)
            have T1 := heap_setCell_same y1 w.heap.size 0 _ 26 (.int .i64 0) R0'.out
            have T2 := hid (heap_setCell_same _ w.heap.size 1 _ 26 (.slice none 0 0) T1)
            have B6 := hid ((HB'.out.setCell (p := ⟨w.heap.size, 0, none⟩) (by simp) (.int .i64 0)).setCell (p := ⟨w.heap.size, 1, none⟩) (by simp) (.slice none 0 0))
            have r0 : y1.cell? ⟨w.heap.size, 0, none⟩ = some (.int .i64 0) := cell_of_row _ _ 0 _ _ _ R0'.out
            have r1 : y1.cell? ⟨w.heap.size, 1, none⟩ = some (.slice none 0 0) := cell_of_row _ _ 1 _ _ _ R0'.out
            have rf0 : y1.frozen? ⟨w.heap.size, 0, none⟩ = false := frozen_of_row _ _ _ _ _ R0'.out
            have rf1 : y1.frozen? ⟨w.heap.size, 1, none⟩ = false := frozen_of_row _ _ _ _ _ R0'.out
            clear T1
            go_wp2_with fail
            obtain ⟨rfl, rfl⟩ : 0 = RL ∧ [] = RS := Prod.mk.inj ((show (readP zs).getD (0, []) = (0, []) by rw [HN.out]; rfl).symm.trans HR.out)
            obtain rfl : false = ok := (show (readP zs).isSome = false by rw [HN.out]; rfl).symm.trans HK.out
            obtain rfl : 0 = m := HM.out
            exact bodyPost_ret (results_cell_tmp7 Try.results38 _ _ w.heap.size 26 _ (0, 0) _ rfl T2.out Try.underlying26 rfl size_pg) rfl ⟨none, 0, rfl, OwnP.nil _ _ _, B6.out⟩

          · replace he := Decidable.not_not.1 he
            have hse : ((str (bytesP L acc)).toList == (str zs).toList) = true := by rw [HSE.out]; exact decide_eq_true he
            have HY := hid (read_iff HZL.out he)
            clear he
            go_wp2_with fail
            refine region_K 99 (fun X => X.cell? ⟨(w.heap.size + 1), 0, none⟩ = some (.int .i64 L) ∧ X.cell? ⟨(w.heap.size + 1), 1, none⟩ = some (.slice a' n c') ∧ (convert 22 9 (.slice (some ⟨b, off, none⟩) 256 c)).run Try.prog X = .ok (.string (str zs)) X) (by kernel_rfl) ?_ (fun hHeld => ?_)
            · exact HK'.out _ ((Below.refl _ wr).drew)
            refine anyK_take2 (i := 3) (v := ?v735) rfl (by kernel_rfl) (by kernel_rfl) (by kernel_rfl) (by kernel_rfl) (fun _ _ _ h => h) (by rfl) hHeld ?hy735 (some 91) (by rfl) ?rest735
            case hy735 => (intro W hSw; (try dsimp only at hSw); go_simp; (try with_reducible rfl))
            try simp only [Act.put]
            try simp only [List.setIfInBounds_toArray]
            try simp only [List.set_cons_succ, List.set_cons_zero]
            refine anyK_take2 (i := 4) (v := ?v736) rfl (by kernel_rfl) (by kernel_rfl) (by kernel_rfl) (by kernel_rfl) (fun _ _ _ h => h) (by rfl) hHeld ?hy736 (some 92) (by rfl) ?rest736
            case hy736 => (intro W hSw; (try dsimp only at hSw); go_simp; (try with_reducible rfl))
            try simp only [Act.put]
            try simp only [List.setIfInBounds_toArray]
            try simp only [List.set_cons_succ, List.set_cons_zero]
            refine anyK_take2 (i := 0) (v := ?v737) rfl (by kernel_rfl) (by kernel_rfl) (by kernel_rfl) (by kernel_rfl) (fun _ _ _ h => h) (by rfl) hHeld ?hy737 (some 88) (by rfl) ?rest737
            case hy737 => (intro W hSw; (try dsimp only at hSw); go_simp; (try with_reducible rfl))
            try simp only [Act.put]
            try simp only [List.setIfInBounds_toArray]
            try simp only [List.set_cons_succ, List.set_cons_zero]
            refine anyK_step (i := 1) (by kernel_rfl) rfl (fun K0 hK => ?_)
            go_simp
            refine (spec_PageBytes L c' (HL.out.reads.below ((Below.refl _ wr).drew) (Nat.le_refl _)) HLK.out).mono ?_
            rintro e y1 ⟨s1, rfl, o1, b1⟩
            obtain ⟨p1, d1, rfl, rp1, -⟩ := Reads.own o1 HBY.out
            have RP1 := hid rp1
            have Y1 := hid (((Below.refl wr.heap.size wr).drew).trans (b1.mono (Nat.le_refl _)))
            clear rp1 o1 b1
            go_wp2_with fail
            refine hK.out _ _ ?_ (fun hH2 => ?_)
            · exact HK'.out _ Y1.out
            clear hK K0 hHeld
            have hHeld := hH2
            clear hH2
            try simp only [Act.put]
            try simp only [List.setIfInBounds_toArray]
            try simp only [List.set_cons_succ, List.set_cons_zero]
            refine anyK_more (fun X => (X.cell? ⟨(w.heap.size + 1), 0, none⟩ = some (.int .i64 L) ∧ X.cell? ⟨(w.heap.size + 1), 1, none⟩ = some (.slice a' n c') ∧ (convert 22 9 (.slice (some ⟨b, off, none⟩) 256 c)).run Try.prog X = .ok (.string (str zs)) X) ∧ (convert 22 9 (.slice p1 (bytesP L acc).length d1)).run Try.prog X = .ok (.string (str (bytesP L acc))) X) (fun _ h => h.1) ⟨HK'.out _ Y1.out, RP1.out.str d1 22 Try.underlying22 Try.underlying5 Try.underlying9⟩ (fun hH3 => ?_)
            clear hHeld
            have hHeld := hH3
            clear hH3
            refine anyK_take2 (i := 2) (v := ?v739) rfl (by kernel_rfl) (by kernel_rfl) (by kernel_rfl) (by kernel_rfl) (fun _ _ _ h => h) (by rfl) hHeld ?hy739 (some 90) (by rfl) ?rest739
            case hy739 => (intro W hSw; (try dsimp only at hSw); go_simp; (try with_reducible rfl))
            try simp only [Act.put]
            try simp only [List.setIfInBounds_toArray]
            try simp only [List.set_cons_succ, List.set_cons_zero]
            refine anyK_take2 (i := 5) (v := ?v740) rfl (by kernel_rfl) (by kernel_rfl) (by kernel_rfl) (by kernel_rfl) (fun _ _ _ h => h) (by rfl) hHeld ?hy740 (some 93) (by rfl) ?rest740
            case hy740 => (intro W hSw; (try dsimp only at hSw); go_simp; (try with_reducible rfl))
            try simp only [Act.put]
            try simp only [List.setIfInBounds_toArray]
            try simp only [List.set_cons_succ, List.set_cons_zero]
            refine anyK_done (by kernel_rfl) ?_ _
            clear hHeld
            have R0' := hid ((Y1.out.block _ (by have := LO.out; have := HZV.out; omega)).trans R0.out)
            have HB' := hid (HB.out.trans (Y1.out.mono HB.out.size))
            obtain ⟨x0, x1, _⟩ := HK'.out _ Y1.out
            obtain ⟨rfl, rfl⟩ : L = RL ∧ acc = RS := Prod.mk.inj ((show (readP zs).getD (0, []) = (L, acc) by rw [HY.out]; rfl).symm.trans HR.out)
            obtain rfl : true = ok := (show (readP zs).isSome = true by rw [HY.out]; rfl).symm.trans HK.out
            obtain rfl : n = m := HLK.out.symm.trans HM.out
            have HL9 := hid (HL.out.below Y1.out (Nat.le_refl _))
            have O6 := hid ((HL9.out.beside R0'.out (by decide) (by decide) (grown_set7 y1 w.heap.size 0 (.int .i64 L)) (by omega)).beside (heap_setCell_same y1 w.heap.size 0 _ 26 (.int .i64 L) R0'.out) (by decide) (by decide) (grown_set7 _ w.heap.size 1 (.slice a' n c')) (by omega))
            have T1 := heap_setCell_same y1 w.heap.size 0 _ 26 (.int .i64 L) R0'.out
            have T2 := hid (heap_setCell_same _ w.heap.size 1 _ 26 (.slice a' n c') T1)
            have B6 := hid ((HB'.out.setCell (p := ⟨w.heap.size, 0, none⟩) (by simp) (.int .i64 L)).setCell (p := ⟨w.heap.size, 1, none⟩) (by simp) (.slice a' n c'))
            have r0 : y1.cell? ⟨w.heap.size, 0, none⟩ = some (.int .i64 0) := cell_of_row _ _ 0 _ _ _ R0'.out
            have r1 : y1.cell? ⟨w.heap.size, 1, none⟩ = some (.slice none 0 0) := cell_of_row _ _ 1 _ _ _ R0'.out
            have rf0 : y1.frozen? ⟨w.heap.size, 0, none⟩ = false := frozen_of_row _ _ _ _ _ R0'.out
            have rf1 : y1.frozen? ⟨w.heap.size, 1, none⟩ = false := frozen_of_row _ _ _ _ _ R0'.out
            clear T1
            go_wp2_with fail
            exact bodyPost_ret (results_cell_tmp7 Try.results38 _ _ w.heap.size 26 _ (0, 0) _ rfl T2.out Try.underlying26 rfl size_pg) rfl ⟨_, _, rfl, O6.out.ownP.mono (by have := LO.out; omega) (Nat.le_refl _), B6.out⟩
end Go.Proofs.Ytdfieopdbpklnaa
/- The contracts of the draws' cursor: whatever the code, a byte is in 0 .. 255, a number below n is so. For codes of at most 2^21 bytes. -/




namespace Go.Proofs.Ytdfieopdbpklnaa
open Go.RowKit

theorem and255 (n : Int) : bits .and .i64 n 255 = n % 256 := by
  have h255 : (BitVec.ofInt 64 255).toNat = 2 ^ 8 - 1 := by decide
  have key : (BitVec.ofInt 64 n &&& BitVec.ofInt 64 255).toNat = (n % ((2 ^ 64 : Nat) : Int)).toNat % 2 ^ 8 := by
    rw [BitVec.toNat_and, BitVec.toNat_ofInt, h255, Nat.and_two_pow_sub_one_eq_mod]
  show IntKind.i64.wrap ((BitVec.ofInt 64 n &&& BitVec.ofInt 64 255).toNat : Nat) = n % 256
  rw [key, IntKind.wrap_i64]
  omega
theorem and30 (n : Int) : bits .and .i64 n 1073741823 = n % 1073741824 := by
  have h255 : (BitVec.ofInt 64 1073741823).toNat = 2 ^ 30 - 1 := by decide
  have key : (BitVec.ofInt 64 n &&& BitVec.ofInt 64 1073741823).toNat = (n % ((2 ^ 64 : Nat) : Int)).toNat % 2 ^ 30 := by
    rw [BitVec.toNat_and, BitVec.toNat_ofInt, h255, Nat.and_two_pow_sub_one_eq_mod]
  show IntKind.i64.wrap ((BitVec.ofInt 64 n &&& BitVec.ofInt 64 1073741823).toNat : Nat) = n % 1073741824
  rw [key, IntKind.wrap_i64]
  omega
theorem grown_setCell (w : World) (g j : Nat) (v : Value) : w.grownBy (w.setCell ⟨g, j, none⟩ v) (some g) :=
  ⟨rfl, rfl, rfl, by simp [World.setCell], fun k _ hk => heap_setCell_other w ⟨g, j, none⟩ k v (fun e => hk (by simp [e]))⟩
theorem grown_still {a b c : World} {row : Option Nat} (h : a.grownBy b row) (k : Still b c) : a.grownBy c row :=
  ⟨k.os.trans h.os, k.tape.trans h.tape, k.output.trans h.output, by rw [k.heap]; exact h.size, fun i hi hr => by rw [k.heap]; exact h.block i hi hr⟩

/-- The cursor's struct in block g, over the code that reads as zs. -/
structure Cur (w : World) (g : Nat) (ad : Option Addr) (n cap : Nat) (zs : List Int) : Prop where
  row : ∃ (i : Nat) (h : Int), i ≤ n ∧ w.heap[g]? = some (.cells #[.slice ad n cap, .int .i64 i, .int .i64 h] 85 (0, 0))
  reads : Reads w ad n zs
  low : ∀ a, ad = some a → 0 < n → a.block < g

theorem Cur.set {w w' : World} {g : Nat} {ad : Option Addr} {n cap : Nat} {zs : List Int} (c : Cur w g ad n cap zs) (hg : w.grownBy w' (some g)) (i : Nat) (h : Int) (hi : i ≤ n)
    (hr : w'.heap[g]? = some (.cells #[.slice ad n cap, .int .i64 i, .int .i64 h] 85 (0, 0))) : Cur w' g ad n cap zs := by
  refine ⟨⟨i, h, hi, hr⟩, ?_, c.low⟩
  by_cases h0 : n = 0
  · exact ⟨c.reads.len, .inl h0, c.reads.bd⟩
  · refine c.reads.other hg (fun a ha => ?_)
    have := c.low a ha (by omega)
    simp; omega

theorem Cur.still {w w' : World} {g : Nat} {ad : Option Addr} {n cap : Nat} {zs : List Int} (c : Cur w g ad n cap zs) (hs : Still w w') : Cur w' g ad n cap zs := by
  obtain ⟨i, h, hi, hr⟩ := c.row
  exact ⟨⟨i, h, hi, by rw [hs.heap]; exact hr⟩, hs.reads c.reads, c.low⟩
theorem Cur.below {w w' : World} {g : Nat} {ad : Option Addr} {n cap : Nat} {zs : List Int} (c : Cur w g ad n cap zs) {B : Nat} (hb : Below B w w') (hB : w.heap.size ≤ B) : Cur w' g ad n cap zs := by
  obtain ⟨i, h, hi, hr⟩ := c.row
  have := (Array.getElem?_eq_some_iff.1 hr).1
  exact ⟨⟨i, h, hi, by rw [hb.block g (by omega)]; exact hr⟩, c.reads.below hb hB, c.low⟩
theorem Cur.other {w w' : World} {g : Nat} {ad : Option Addr} {n cap : Nat} {zs : List Int} (c : Cur w g ad n cap zs) {row : Option Nat} (hg : w.grownBy w' row) (hr : ∀ k, row = some k → g < k) : Cur w' g ad n cap zs := by
  obtain ⟨i, h, hi, hrow⟩ := c.row
  have hlt := (Array.getElem?_eq_some_iff.1 hrow).1
  refine ⟨⟨i, h, hi, by rw [hg.block g hlt (fun e => by have := hr g e.symm; omega)]; exact hrow⟩, ?_, c.low⟩
  by_cases h0 : n = 0
  · exact ⟨c.reads.len, .inl h0, c.reads.bd⟩
  · refine c.reads.other hg (fun a ha e => ?_)
    have h1 := c.low a ha (by omega)
    have h2 := hr a.block e.symm
    omega

set_option maxRecDepth 100000 in
set_option maxHeartbeats 1600000 in
theorem l1Byte {w : World} {g : Nat} {ad : Option Addr} {n cap : Nat} {zs : List Int} (c : Cur w g ad n cap zs) (hn : n ≤ 2097152) :
    Calls Try.prog 77 #[.pointer (some ⟨g, 0, none⟩)] w fun e w' => ∃ x : Int, e = .returned (.int .i64 x) ∧ 0 ≤ x ∧ x ≤ 255 ∧ Cur w' g ad n cap zs ∧ w.grownBy w' (some g) := by
  obtain ⟨i, h, hi, hrow⟩ := c.row
  have c1 : w.cell? ⟨g, 2, none⟩ = some (.int .i64 h) := by rw [cell_of_row w _ _ _ _ _ hrow]; rfl
  have f1 : w.frozen? ⟨g, 2, none⟩ = false := frozen_of_row w _ _ _ _ hrow
  have HW := hid (fun v => heap_setCell_same w g 2 _ 85 v hrow)
  have ha := and255
  clear hrow
  go_enter Try.func77, Try.ntmps77
  go_wp2
  generalize wrap64 (wrap64 (h * 6364136223846793005) + 1442695040888963407) = H
  have R1 : (w.setCell ⟨g, 2, none⟩ (.int .i64 H)).heap[g]? = some (.cells #[.slice ad n cap, .int .i64 i, .int .i64 H] 85 (0, 0)) := HW.out (.int .i64 H)
  have G1 := grown_setCell w g 2 (.int .i64 H)
  have C1 := c.set G1 i H hi R1
  generalize w.setCell ⟨g, 2, none⟩ (.int .i64 H) = w1 at *
  clear HW c1 f1
  have d0 : w1.cell? ⟨g, 0, none⟩ = some (.slice ad n cap) := by rw [cell_of_row w1 _ _ _ _ _ R1]; rfl
  have d1 : w1.cell? ⟨g, 1, none⟩ = some (.int .i64 i) := by rw [cell_of_row w1 _ _ _ _ _ R1]; rfl
  have d2 : w1.cell? ⟨g, 2, none⟩ = some (.int .i64 H) := by rw [cell_of_row w1 _ _ _ _ _ R1]; rfl
  have f1 : w1.frozen? ⟨g, 1, none⟩ = false := frozen_of_row w1 _ _ _ _ R1
  have RR := hid R1
  have hrd := hid C1.reads
  clear R1
  go_quiet (fail)
  have hX0 : 0 ≤ bits BinOp.xor IntKind.i64 (H / 8589934592) (H / 35184372088832) % 256 := by omega
  have hX1 : bits BinOp.xor IntKind.i64 (H / 8589934592) (H / 35184372088832) % 256 ≤ 255 := by omega
  generalize bits BinOp.xor IntKind.i64 (H / 8589934592) (H / 35184372088832) % 256 = X at *
  go_wp2
  go_quiet (fail)
  by_cases hlt : i < n
  · rcases hrd.out.cells with h0 | ⟨b, off, rfl, hc⟩
    · omega
    have d3 := hc i hlt
    have hb := hrd.out.bd i
    generalize zs.getD i 0 = y at d3 hb
    clear hc
    have hlt' : (i : Int) < (n : Int) := by omega
    have hi0 : (0 : Int) ≤ (i : Int) := by omega
    go_wp2
    go_quiet (fail)
    go_wp2
    go_ret
    refine ⟨_, rfl, by omega, by omega, ?_⟩
    generalize hq : w1.drewN _ = w2
    have hs : Still w1 w2 := by rw [← hq]; exact Still.drewN _ _
    have hg := grown_setCell w2 g 1 (.int .i64 ((i : Int) + 1))
    refine ⟨(C1.still hs).set hg (i + 1) H (by omega) ?_, grown_trans (grown_still G1 hs) hg⟩
    have h2 : w2.heap[g]? = some (.cells #[.slice (some ⟨b, off, none⟩) n cap, .int .i64 i, .int .i64 H] 85 (0, 0)) := by rw [hs.heap]; exact RR.out
    exact heap_setCell_same w2 g 1 _ 85 (.int .i64 ((i : Int) + 1)) h2
  · go_wp2
    go_ret
    exact ⟨_, rfl, hX0, hX1, C1.still ((Still.drewN _ _).trans (Still.drewN _ _)), grown_still G1 ((Still.drewN _ _).trans (Still.drewN _ _))⟩

set_option maxRecDepth 100000 in
set_option maxHeartbeats 1600000 in
theorem l1Below {w : World} {g : Nat} {ad : Option Addr} {n cap : Nat} {zs : List Int} (c : Cur w g ad n cap zs) (hn : n ≤ 2097152) (m : Int) (hm : 0 < m) (hm' : m ≤ 1000000) :
    Calls Try.prog 45 #[.pointer (some ⟨g, 0, none⟩), .int .i64 m] w fun e w' => ∃ x : Int, e = .returned (.int .i64 x) ∧ 0 ≤ x ∧ x < m ∧ Cur w' g ad n cap zs ∧ w.grownBy w' (some g) := by
  by_cases h256 : m ≤ 256
  · go_enter Try.func45, Try.ntmps45
    go_wp2_with fail
    refine (l1Byte c hn).mono ?_
    rintro e w1 ⟨x, rfl, hx0, hx1, c1, g1⟩
    have p0 := Int.emod_nonneg x (show m ≠ 0 by omega)
    have p1 := Int.emod_lt_of_pos x hm
    go_wp2_with fail
    go_ret
    exact ⟨_, rfl, p0, p1, c1, g1⟩
  · go_enter Try.func45, Try.ntmps45
    go_wp2_with fail
    refine (l1Byte c hn).mono ?_
    rintro e w1 ⟨x, rfl, hx0, hx1, c1, g1⟩
    go_wp2_with fail
    refine (l1Byte c1 hn).mono ?_
    rintro e w2 ⟨y, rfl, hy0, hy1, c2, g2⟩
    go_wp2_with fail
    refine (l1Byte c2 hn).mono ?_
    rintro e w3 ⟨z, rfl, hz0, hz1, c3, g3⟩
    go_wp2_with fail
    refine (l1Byte c3 hn).mono ?_
    rintro e w4 ⟨u, rfl, hu0, hu1, c4, g4⟩
    have p0 := Int.emod_nonneg (x * 16777216 + y * 65536 + z * 256 + u) (show m ≠ 0 by omega)
    have p1 := Int.emod_lt_of_pos (x * 16777216 + y * 65536 + z * 256 + u) hm
    go_wp2_with fail
    go_ret
    exact ⟨_, rfl, p0, p1, c4, grown_trans (grown_trans (grown_trans g1 g2) g3) g4⟩

theorem new_cur {w : World} {ad : Option Addr} {n : Nat} (cap : Nat) {zs : List Int} (h : Reads w ad n zs) (y : Int) (hl : ∀ a, ad = some a → 0 < n → a.block < w.heap.size) :
    Cur (w.alloc (.cells #[.slice ad n cap, .int .i64 0, .int .i64 y] 85)) w.heap.size ad n cap zs :=
  ⟨⟨0, y, Nat.zero_le _, heap_alloc_new w _⟩, h.below ((Below.refl _ _).alloc (Nat.le_refl _) _) (Nat.le_refl _), hl⟩

set_option maxRecDepth 100000 in
set_option maxHeartbeats 1600000 in
theorem l1New_pos {w : World} {b off n : Nat} (cap : Nat) {zs : List Int} (h : Reads w (some ⟨b, off, none⟩) n zs) (hn : n ≤ 2097152) (hn0 : 0 < n) :
    Calls Try.prog 39 #[.slice (some ⟨b, off, none⟩) n cap] w fun e w' => ∃ g, e = .returned (.pointer (some ⟨g, 0, none⟩)) ∧ w.heap.size ≤ g ∧ Cur w' g (some ⟨b, off, none⟩) n cap zs ∧ Below w.heap.size w w' := by
  obtain ⟨_, _, e, hc⟩ : ∃ b' off', (some ⟨b, off, none⟩ : Option Addr) = some ⟨b', off', none⟩ ∧ ∀ i, i < n → w.cell? ⟨b', off' + i, none⟩ = some (.int .u8 (zs.getD i 0)) := by
    rcases h.cells with h0 | h0
    · omega
    · exact h0
  cases e
  have ha := and30
  have HC := hid hc
  have hbw := World.block_lt_of_cell? w _ (hc 0 hn0)
  clear hc
  go_enter Try.func39, Try.ntmps39
  go_wp2
  go_loop [3, 4] (fun s i => ∃ (k : Nat) (y : Int), k ≤ n ∧ i = .int .i64 k ∧ s = .int .i64 y ∧ 0 ≤ y ∧ y ≤ 10000000000) (fun _ i => n - (intOf i).toNat)
  case atStart => exact ⟨0, _, by omega, rfl, rfl, by omega, by omega⟩
  case round =>
    obtain ⟨k, y, hk, rfl, rfl, hy0, hy1⟩ := hrel
    by_cases hlt : k < n ∧ k < 4000
    · obtain ⟨h1, h2⟩ := hlt
      have hcell := HC.out k h1
      have hb := h.bd k
      generalize zs.getD k 0 = c at hcell hb
      go_wp2
      go_round
      case rel => exact ⟨k + 1, _, by omega, by go_num, rfl, by omega, by omega⟩
      case measure => simp [intOf]; omega
    · by_cases h1 : k < n
      · have h2 : ¬ k < 4000 := by omega
        go_wp2
        go_ret
        exact ⟨w.heap.size, rfl, Nat.le_refl _, new_cur cap h y (fun a ha _ => by cases ha; exact hbw), (Below.refl _ _).alloc (Nat.le_refl _) _⟩
      · go_wp2
        go_ret
        exact ⟨w.heap.size, rfl, Nat.le_refl _, new_cur cap h y (fun a ha _ => by cases ha; exact hbw), (Below.refl _ _).alloc (Nat.le_refl _) _⟩

set_option maxRecDepth 100000 in
set_option maxHeartbeats 1600000 in
theorem l1New_zero {w : World} {ad : Option Addr} (cap : Nat) {zs : List Int} (h : Reads w ad 0 zs) :
    Calls Try.prog 39 #[.slice ad 0 cap] w fun e w' => ∃ g, e = .returned (.pointer (some ⟨g, 0, none⟩)) ∧ w.heap.size ≤ g ∧ Cur w' g ad 0 cap zs ∧ Below w.heap.size w w' := by
  go_enter Try.func39, Try.ntmps39
  go_wp2
  go_loop [3, 4] (fun s i => i = .int .i64 (0 : Nat) ∧ s = .int .i64 25252) (fun _ _ => 0)
  case atStart => exact ⟨rfl, rfl⟩
  case round =>
    obtain ⟨rfl, rfl⟩ := hrel
    go_wp2
    go_ret
    exact ⟨w.heap.size, rfl, Nat.le_refl _, new_cur cap h 25252 (fun a _ hp => absurd hp (Nat.lt_irrefl _)), (Below.refl _ _).alloc (Nat.le_refl _) _⟩

theorem l1New {w : World} {ad : Option Addr} {n : Nat} (cap : Nat) {zs : List Int} (h : Reads w ad n zs) (hn : n ≤ 2097152) :
    Calls Try.prog 39 #[.slice ad n cap] w fun e w' => ∃ g, e = .returned (.pointer (some ⟨g, 0, none⟩)) ∧ w.heap.size ≤ g ∧ Cur w' g ad n cap zs ∧ Below w.heap.size w w' := by
  by_cases h0 : n = 0
  · subst h0; exact l1New_zero cap h
  · obtain ⟨b, off, rfl⟩ := h.pos (by omega)
    exact l1New_pos cap h hn (by omega)

end Go.Proofs.Ytdfieopdbpklnaa
/- The contract of the draw of a yes or no. For codes of at most 2^21 bytes. -/

namespace Go.Proofs.Ytdfieopdbpklnaa
open Go.RowKit

theorem grown_new {a b c : World} {g : Nat} {row : Option Nat} (h : a.grownBy b (some g)) (k : b.grownBy c row) (hr : ∀ r, row = some r → a.heap.size ≤ r) : a.grownBy c (some g) :=
  ⟨k.os.trans h.os, k.tape.trans h.tape, k.output.trans h.output, Nat.le_trans h.size k.size, fun i hi hne => (k.block i (Nat.lt_of_lt_of_le hi h.size) (fun e => by have := hr i e.symm; omega)).trans (h.block i hi hne)⟩
theorem bd_snoc {L : List Int} {y : Int} (hb : ∀ i, 0 ≤ L.getD i 0 ∧ L.getD i 0 ≤ 255) (h0 : 0 ≤ y) (h1 : y ≤ 255) : ∀ i, 0 ≤ (L ++ [y]).getD i 0 ∧ (L ++ [y]).getD i 0 ≤ 255 := by
  intro i
  by_cases h : i < L.length
  · have := hb i
    rwa [List.getD_eq_getElem?_getD, List.getElem?_append_left h, ← List.getD_eq_getElem?_getD]
  · rw [List.getD_eq_getElem?_getD, List.getElem?_append_right (by omega)]
    by_cases e : i - L.length = 0
    · rw [e]; simpa using ⟨h0, h1⟩
    · rw [List.getElem?_eq_none (by simp; omega)]; simp
/-- A slice's length, for a measure. -/
def lenOf : Value → Nat | .slice _ n _ => n | _ => 0
theorem own_base {w : World} {base base' : Nat} {e : TypeId} {s : Nat} {v : Value} {n : Nat} {xs : List Value} (h : w.ownsRow base e s v n xs) (hb : base' ≤ base) : w.ownsRow base' e s v n xs := by
  refine ⟨h.1, ?_⟩
  rcases h.2 with h2 | ⟨g, cap, cur, hv, hg, r⟩
  · exact .inl h2
  · exact .inr ⟨g, cap, cur, hv, Nat.le_trans hb hg, r⟩
theorem Cur.lt {w : World} {g : Nat} {ad : Option Addr} {n cap : Nat} {zs : List Int} (c : Cur w g ad n cap zs) : g < w.heap.size := by
  obtain ⟨i, h, _, hr⟩ := c.row
  exact (Array.getElem?_eq_some_iff.1 hr).1
theorem Cur.alloc {w : World} {g : Nat} {ad : Option Addr} {n cap : Nat} {zs : List Int} (c : Cur w g ad n cap zs) (o : Obj) : Cur (w.alloc o) g ad n cap zs :=
  c.below ((Below.refl w.heap.size w).alloc (Nat.le_refl _) o) (Nat.le_refl _)

set_option maxRecDepth 100000 in
set_option maxHeartbeats 1600000 in
theorem l1Once {w : World} {g : Nat} {ad : Option Addr} {n cap : Nat} {zs : List Int} (c : Cur w g ad n cap zs) (hn : n ≤ 2097152) (m : Int) (hm : 0 < m) (hm' : m ≤ 1000000) :
    Calls Try.prog 41 #[.pointer (some ⟨g, 0, none⟩), .int .i64 m] w fun e w' => ∃ b : Bool, e = .returned (.bool b) ∧ Cur w' g ad n cap zs ∧ w.grownBy w' (some g) := by
  go_enter Try.func41, Try.ntmps41
  go_wp2_with fail
  refine (l1Below c hn m hm hm').mono ?_
  rintro e w1 ⟨x, rfl, hx0, hx1, c1, g1⟩
  generalize hb : (x == 0) = b
  go_wp2_with fail
  go_ret
  exact ⟨_, rfl, c1, g1⟩

end Go.Proofs.Ytdfieopdbpklnaa
/- The contract of the draw of some bytes. For codes of at most 2^21 bytes. -/

namespace Go.Proofs.Ytdfieopdbpklnaa
open Go.RowKit

set_option maxRecDepth 100000 in
set_option maxHeartbeats 3200000 in
theorem l1some {w : World} {g : Nat} {ad : Option Addr} {n cap : Nat} {zs : List Int} (c : Cur w g ad n cap zs) (hn : n ≤ 2097152) (most : Int) (h0 : 0 ≤ most) (hm : most ≤ 1000) :
    Calls Try.prog 71 #[.pointer (some ⟨g, 0, none⟩), .int .i64 most] w fun e w' => ∃ (v : Value) (L : List Int), e = .returned v ∧ w'.ownsRow w.heap.size 5 1 v L.length (bys L) ∧ (∀ i, 0 ≤ L.getD i 0 ∧ L.getD i 0 ≤ 255) ∧ L.length ≤ 1000 ∧ Cur w' g ad n cap zs ∧ w.grownBy w' (some g) := by
  obtain ⟨i0, hi, hz0, hz1, hz2⟩ := info_parts Try.info5
  have hgl := c.lt
  go_enter Try.func71, Try.ntmps71
  go_wp2_with fail
  refine (l1Below c hn (most + 1) (by omega) (by omega)).mono ?_
  rintro e w1 ⟨x, rfl, hx0, hx1, c1, g1⟩
  obtain ⟨x, rfl⟩ := Int.eq_ofNat_of_zero_le hx0
  clear c
  go_wp2_with fail
  go_loopw [5, 7] (fun v i wr => ∃ (k : Nat) (L : List Int), k ≤ x ∧ i = .int .i64 k ∧ L.length = k ∧ wr.ownsRow w.heap.size 5 1 v k (bys L) ∧ (∀ i, 0 ≤ L.getD i 0 ∧ L.getD i 0 ≤ 255) ∧ Cur wr g ad n cap zs ∧ w.grownBy wr (some g)) (fun _ i _ => x - (intOf i).toNat)
  case atStart => exact ⟨0, [], by omega, rfl, rfl, World.ownsRow_nil _ _ _ _, by simp, c1, g1⟩
  case round =>
    obtain ⟨k, L, hk, rfl, hL, hown, hbd, cr, gr⟩ := hrel
    by_cases hlt : k < x
    · clear c1 g1
      go_wp2_with fail
      refine (l1Byte cr hn).mono ?_
      rintro e w2 ⟨y, rfl, hy0, hy1, c2, g2⟩
      have o2 := hown.kept g2 (by
        cases hv : u5.ownBlock with
        | none => exact .inl rfl
        | some r => exact .inr (by have := hown.lt r hv; simp; omega))
      have z2 : w.heap.size ≤ w2.heap.size := Nat.le_trans gr.size g2.size
      have G2 := grown_trans gr g2
      clear hown cr gr g2
      go_wp2_with (at_builtin; refine wpList_append_own _ rfl _ _ 22 rfl w.heap.size 5 i0 (.int .u8 0) 1 1 Try.underlying22 hi hz0 hz1 hz2 rfl (by decide) _ _ _ rfl (o2.alloc _) ⟨w2.heap.size, 0, none⟩ 1 1 [.int .u8 y] rfl rfl (cell_one_new _ _ _) ?c2 ?c3 ?c4 ?c5 ?_)
      case c2 => intro u hu; simp at hu; subst hu; rfl
      case c3 => unfold maxLen; omega
      case c4 => omega
      case c5 => simp; omega
      intro v' w3 o3 g3 _
      have G3 : w.grownBy w3 (some g) := grown_new (grown_new G2 (World.grownBy_alloc w2 _ none) (fun r hr => by cases hr)) g3 (fun r hr => (o2.lt r hr).1)
      have c3 := (c2.alloc (.cells #[.int .u8 y] 5)).other g3 (fun r hr => by have := (o2.lt r hr).1; omega)
      have O3 := hid o3
      clear g3 o3 o2 c2 G2
      go_wp2_with fail
      go_roundw
      case rel => exact ⟨k + 1, L ++ [y], by omega, by go_num, by rw [List.length_append, hL]; rfl, by rw [bys_append]; exact O3.out, bd_snoc hbd hy0 hy1, c3, G3⟩
      case measure => simp [intOf]; omega
    · go_wp2_with fail
      go_ret
      exact ⟨_, L, rfl, by rw [hL]; exact hown, hbd, by omega, cr, gr⟩

end Go.Proofs.Ytdfieopdbpklnaa
/- Floats of 64 bits, by what they are worth: the number of least floats in each (its 'wval'), and what sums, differences, products and halves give where the result is exact. No statement of its own; no conditions. -/

namespace Go.Proofs.Ytdfieopdbpklnaa
open Ieee

/-- How many of the least float a float is worth. -/
def wval (r : Nat) : Nat := if r < 2 ^ 52 then r else (2 ^ 52 + r % 2 ^ 52) * 2 ^ (r / 2 ^ 52 - 1)
/-- The float that is worth so many. -/
def rg (v : Nat) : Nat := (v.log2 - 52) * 2 ^ 52 + v / 2 ^ (v.log2 - 52)

theorem log2_mul_pow (m k : Nat) (h : 0 < m) : (m * 2 ^ k).log2 = m.log2 + k := by
  have hm : m ≠ 0 := by omega
  have h1 := Nat.log2_self_le hm
  have h2 := Nat.lt_log2_self (n := m)
  have hp : 0 < 2 ^ k := Nat.two_pow_pos k
  refine (Nat.log2_eq_iff (Nat.mul_ne_zero hm (by omega))).2 ⟨?_, ?_⟩
  · rw [Nat.pow_add]; exact Nat.mul_le_mul_right _ h1
  · rw [show m.log2 + k + 1 = (m.log2 + 1) + k by omega, Nat.pow_add]; exact Nat.mul_lt_mul_of_pos_right h2 hp

theorem cut_even (s : Bool) (q d : Nat) : Toward.even.cut s (q * 2 ^ d) d = q := by
  have hp : 0 < 2 ^ d := Nat.two_pow_pos d
  by_cases hq : q = 0
  · subst hq
    have : 0 < 1 <<< min d 2 := by rw [Nat.one_shiftLeft]; exact Nat.two_pow_pos _
    simp only [Toward.cut, Nat.zero_mul, Nat.log2_zero, Nat.zero_add, Nat.zero_div, Nat.zero_mod, Nat.mul_zero]
    have h1 : ¬ (1 <<< min d 2 < 0) := by omega
    have h2 : ((1 <<< min d 2) == 0) = false := beq_eq_false_iff_ne.2 (by omega)
    simp [h2]
  · have hl := log2_mul_pow q d (by omega)
    have hm : min d ((q * 2 ^ d).log2 + 2) = d := by omega
    simp only [Toward.cut, hm, Nat.one_shiftLeft]
    rw [Nat.mul_div_cancel _ hp, Nat.mul_mod_left]
    have h2 : ((2 ^ d) == 2 * 0) = false := beq_eq_false_iff_ne.2 (by omega)
    simp [h2]

theorem cut_zero (s : Bool) (n d : Nat) : Toward.zero.cut s n d = n / 2 ^ d := by
  simp only [Toward.cut, Nat.one_shiftLeft, Bool.toNat_false, Nat.add_zero]
  by_cases h : d ≤ n.log2 + 2
  · rw [Nat.min_eq_left h]
  · have h1 : n < 2 ^ (n.log2 + 1) := Nat.lt_log2_self
    have h2 : 2 ^ (n.log2 + 1) ≤ 2 ^ (n.log2 + 2) := Nat.pow_le_pow_right (by omega) (by omega)
    have h3 : 2 ^ (n.log2 + 2) ≤ 2 ^ d := Nat.pow_le_pow_right (by omega) (by omega)
    rw [Nat.min_eq_right (by omega), Nat.div_eq_of_lt (by omega), Nat.div_eq_of_lt (by omega)]

theorem lp : double.leastPlace = -1074 := by decide
theorem fb : double.fractionBits = 52 := rfl
theorem bin : double.binade = 2 ^ 52 := rfl
theorem infR : double.infRung = 2047 * 2 ^ 52 := by decide
theorem sw : double.signWeight = 2 ^ 63 := rfl

theorem rg_zero : rg 0 = 0 := by decide

/-- A number that is worth v whole least floats, v of at most 53 digits and noughts, is just that float. -/
theorem nearest_rg (s : Bool) (m : Nat) (p : Int) (v : Nat) (h : m * 2 ^ (p + 1074).toNat = v * 2 ^ (-1074 - p).toNat) (hd : 2 ^ (v.log2 - 52) ∣ v) :
    double.nearest s m p = double.word s (min (rg v) (2047 * 2 ^ 52)) := by
  by_cases hm : m = 0
  · subst hm
    have hp : 0 < 2 ^ (-1074 - p).toNat := Nat.two_pow_pos _
    have hv : v = 0 := by
      rw [Nat.zero_mul] at h
      rcases Nat.mul_eq_zero.1 h.symm with h | h
      · exact h
      · omega
    subst hv
    rw [rg_zero]
    simp [Format.nearest]
  · have hv : 0 < v := by
      rcases Nat.eq_zero_or_pos v with rfl | h0
      · rw [Nat.zero_mul] at h
        rcases Nat.mul_eq_zero.1 h with h | h
        · exact absurd h hm
        · have := Nat.two_pow_pos (p + 1074).toNat; omega
      · exact h0
    have hl : m.log2 + (p + 1074).toNat = v.log2 + (-1074 - p).toNat := by
      rw [← log2_mul_pow m _ (by omega), ← log2_mul_pow v _ hv, h]
    obtain ⟨q, hq⟩ := hd
    have hrg : rg v = (v.log2 - 52) * 2 ^ 52 + q := by
      unfold rg
      have hp : 0 < 2 ^ (v.log2 - 52) := Nat.two_pow_pos _
      have : v / 2 ^ (v.log2 - 52) = q := by
        rw [Nat.div_eq_iff_eq_mul_left hp ⟨q, hq⟩, Nat.mul_comm]
        exact hq
      rw [this]
    have hK : max (p + (m.log2 : Int) - (52 : Nat)) (-1074) = ((v.log2 - 52 : Nat) : Int) - 1074 := by omega
    rw [hrg]
    have hkept : Toward.even.cut s (m <<< (p - (((v.log2 - 52 : Nat) : Int) - 1074)).toNat) ((((v.log2 - 52 : Nat) : Int) - 1074) - p).toNat = q := by
      clear hK hrg hl
      generalize v.log2 - 52 = K at hq
      rw [hq] at h
      by_cases ht : (K : Int) ≤ p + 1074
      · obtain ⟨t, ht'⟩ : ∃ t : Nat, p + 1074 = K + t := ⟨(p + 1074 - K).toNat, by omega⟩
        have e1 : (p - ((K : Int) - 1074)).toNat = t := by omega
        have e2 : (((K : Int) - 1074) - p).toNat = 0 := by omega
        have e3 : (p + 1074).toNat = K + t := by omega
        have e4 : (-1074 - p).toNat = 0 := by omega
        rw [e3, e4, Nat.pow_zero, Nat.mul_one, Nat.pow_add] at h
        rw [e1, e2, Nat.shiftLeft_eq]
        have hp : 0 < 2 ^ K := Nat.two_pow_pos _
        have : m * 2 ^ t = q := by
          apply Nat.eq_of_mul_eq_mul_left hp
          rw [← h, ← Nat.mul_assoc, Nat.mul_comm (2 ^ K) m, Nat.mul_assoc]
        rw [this]
        have := cut_even s q 0
        rwa [Nat.pow_zero, Nat.mul_one] at this
      · obtain ⟨t, ht'⟩ : ∃ t : Nat, (K : Int) = p + 1074 + t := ⟨(K - (p + 1074)).toNat, by omega⟩
        have e1 : (p - ((K : Int) - 1074)).toNat = 0 := by omega
        have e2 : (((K : Int) - 1074) - p).toNat = t := by omega
        rw [e1, e2, Nat.shiftLeft_eq, Nat.pow_zero, Nat.mul_one]
        have : m = q * 2 ^ t := by
          by_cases hA : 0 ≤ p + 1074
          · obtain ⟨A, hA'⟩ : ∃ A : Nat, p + 1074 = A := ⟨(p + 1074).toNat, by omega⟩
            have e3 : (p + 1074).toNat = A := by omega
            have e4 : (-1074 - p).toNat = 0 := by omega
            have e5 : K = A + t := by omega
            rw [e3, e4, Nat.pow_zero, Nat.mul_one, e5, Nat.pow_add] at h
            have hp : 0 < 2 ^ A := Nat.two_pow_pos _
            apply Nat.eq_of_mul_eq_mul_right hp
            rw [h, Nat.mul_comm q, Nat.mul_assoc, Nat.mul_assoc, Nat.mul_comm, Nat.mul_assoc]
          · obtain ⟨A, hA'⟩ : ∃ A : Nat, p + 1074 = -A := ⟨(-(p + 1074)).toNat, by omega⟩
            have e3 : (p + 1074).toNat = 0 := by omega
            have e4 : (-1074 - p).toNat = A := by omega
            have e5 : t = K + A := by omega
            rw [e3, e4, Nat.pow_zero, Nat.mul_one] at h
            rw [h, e5, Nat.pow_add, Nat.mul_comm (2 ^ K) q, Nat.mul_assoc]
        rw [this, cut_even]
    simp only [Format.nearest, hm, if_false, lp, fb, bin, infR]
    rw [hK, hkept]
    have e : ((((v.log2 - 52 : Nat) : Int) - 1074) - -1074).toNat = v.log2 - 52 := by omega
    rw [e]

/-- v is worth a float: it has at most 53 digits and noughts behind them, and isn't too great. -/
def Rep (v : Nat) : Prop := rg v < 2047 * 2 ^ 52 ∧ wval (rg v) = v ∧ 2 ^ (v.log2 - 52) ∣ v

theorem rep_of (c j : Nat) (hc : c < 2 ^ 53) (hv : j ≤ 2045) : Rep (c * 2 ^ j) := by
  by_cases h0 : c = 0
  · subst h0
    rw [Nat.zero_mul]
    refine ⟨by rw [rg_zero]; decide, by rw [rg_zero]; decide, ⟨0, by simp⟩⟩
  · have hl := log2_mul_pow c j (by omega)
    have hcl : c.log2 < 53 := (Nat.log2_lt h0).2 hc
    have hdvd : 2 ^ ((c * 2 ^ j).log2 - 52) ∣ c * 2 ^ j := Nat.dvd_trans (Nat.pow_dvd_pow 2 (by omega)) ⟨c, Nat.mul_comm _ _⟩
    have hpos : c * 2 ^ j ≠ 0 := Nat.mul_ne_zero h0 (by have := Nat.two_pow_pos j; omega)
    generalize c * 2 ^ j = v at *
    have hL := Nat.log2_self_le hpos
    have hU := Nat.lt_log2_self (n := v)
    have hLv : v.log2 < 2098 := by omega
    unfold Rep rg
    by_cases hs : v.log2 ≤ 52
    · have e : v.log2 - 52 = 0 := by omega
      rw [e] at hdvd ⊢
      rw [Nat.pow_zero, Nat.zero_mul, Nat.zero_add, Nat.div_one]
      have h53 : v < 2 ^ 53 := Nat.lt_of_lt_of_le hU (Nat.pow_le_pow_right (by omega) (by omega))
      refine ⟨by omega, ?_, ⟨v, by omega⟩⟩
      unfold wval
      split
      · rfl
      · have : v / 2 ^ 52 = 1 := by omega
        rw [this]
        omega
    · obtain ⟨K, hK⟩ : ∃ K, v.log2 = 52 + K := ⟨v.log2 - 52, by omega⟩
      have e : v.log2 - 52 = K := by omega
      rw [e] at hdvd ⊢
      rw [hK] at hL hU
      obtain ⟨q, rfl⟩ := hdvd
      have hp : 0 < 2 ^ K := Nat.two_pow_pos _
      rw [Nat.mul_div_cancel_left _ hp]
      have hq1 : 2 ^ 52 ≤ q := by
        rw [Nat.pow_add, Nat.mul_comm] at hL
        exact Nat.le_of_mul_le_mul_left hL hp
      have hq2 : q < 2 ^ 53 := by
        rw [show 52 + K + 1 = K + 53 by omega, Nat.pow_add] at hU
        exact Nat.lt_of_mul_lt_mul_left hU
      have hKl : K ≤ 2045 := by omega
      refine ⟨by omega, ?_, ⟨q, rfl⟩⟩
      unfold wval
      have h1 : ¬ (K * 2 ^ 52 + q < 2 ^ 52) := by omega
      have h2 : (K * 2 ^ 52 + q) / 2 ^ 52 = K + 1 := by omega
      have h3 : (K * 2 ^ 52 + q) % 2 ^ 52 = q - 2 ^ 52 := by omega
      have h4 : 2 ^ 52 + (q - 2 ^ 52) = q := by omega
      rw [if_neg h1, h2, h3, h4, Nat.add_sub_cancel, Nat.mul_comm]

theorem wval_lt (a b : Nat) (h : a < b) : wval a < wval b := by
  unfold wval
  by_cases hb : b < 2 ^ 52
  · rw [if_pos hb, if_pos (by omega)]
    exact h
  · rw [if_neg hb]
    have hm : a % 2 ^ 52 < 2 ^ 52 := Nat.mod_lt _ (by omega)
    by_cases ha : a < 2 ^ 52
    · rw [if_pos ha]
      have hp : 0 < 2 ^ (b / 2 ^ 52 - 1) := Nat.two_pow_pos _
      have : (2 ^ 52 + b % 2 ^ 52) * 1 ≤ (2 ^ 52 + b % 2 ^ 52) * 2 ^ (b / 2 ^ 52 - 1) := Nat.mul_le_mul_left _ hp
      omega
    · rw [if_neg ha]
      have hab : a / 2 ^ 52 ≤ b / 2 ^ 52 := Nat.div_le_div_right (by omega)
      by_cases he : a / 2 ^ 52 = b / 2 ^ 52
      · rw [he]
        exact Nat.mul_lt_mul_of_pos_right (by omega) (Nat.two_pow_pos _)
      · obtain ⟨t, ht⟩ : ∃ t, b / 2 ^ 52 - 1 = (a / 2 ^ 52 - 1) + 1 + t := ⟨b / 2 ^ 52 - 1 - (a / 2 ^ 52 - 1) - 1, by omega⟩
        rw [ht, Nat.pow_add, Nat.pow_succ (n := 2) (m := a / 2 ^ 52 - 1)]
        have hp : 0 < 2 ^ (a / 2 ^ 52 - 1) := Nat.two_pow_pos _
        have ht' : 0 < 2 ^ t := Nat.two_pow_pos _
        generalize 2 ^ (a / 2 ^ 52 - 1) = P at *
        calc (2 ^ 52 + a % 2 ^ 52) * P < (2 ^ 52 * 2) * P := Nat.mul_lt_mul_of_pos_right (by omega) hp
          _ = 2 ^ 52 * (P * 2) := by rw [Nat.mul_assoc, Nat.mul_comm 2 P]
          _ ≤ 2 ^ 52 * (P * 2 * 2 ^ t) := Nat.mul_le_mul_left _ (Nat.le_mul_of_pos_right _ ht')
          _ ≤ (2 ^ 52 + b % 2 ^ 52) * (P * 2 * 2 ^ t) := Nat.mul_le_mul_right _ (by omega)

theorem wval_inj (a b : Nat) (h : wval a = wval b) : a = b := by
  rcases Nat.lt_trichotomy a b with h' | h' | h'
  · have := wval_lt a b h'; omega
  · exact h'
  · have := wval_lt b a h'; omega

/-- A finite float as 53 digits and noughts. -/
theorem wval_form (r : Nat) (h : r < 2047 * 2 ^ 52) : ∃ c j, c < 2 ^ 53 ∧ wval r = c * 2 ^ j ∧ j ≤ 2045 := by
  unfold wval
  have hm : r % 2 ^ 52 < 2 ^ 52 := Nat.mod_lt _ (by omega)
  split
  · exact ⟨r, 0, by omega, by rw [Nat.pow_zero, Nat.mul_one], by omega⟩
  · exact ⟨_, _, by omega, rfl, by omega⟩

theorem rep_wval (r : Nat) (h : r < 2047 * 2 ^ 52) : Rep (wval r) := by
  obtain ⟨c, j, hc, he, hv⟩ := wval_form r h
  rw [he]
  exact rep_of c j hc hv

theorem rg_wval (r : Nat) (h : r < 2047 * 2 ^ 52) : rg (wval r) = r := wval_inj _ _ (rep_wval r h).2.1

/-- What a finite float is read as. -/
theorem read_word (s : Bool) (r : Nat) (h : r < 2047 * 2 ^ 52) : ∃ m : Nat, ∃ k : Nat, double.read (double.word s r) = .number s m ((k : Int) - 1074) ∧ m * 2 ^ k = wval r ∧ m < 2 ^ 53 := by
  have h63 : r < 2 ^ 63 := by omega
  have hs : (double.word s r / double.signWeight % 2 == 1) = s := by
    unfold Format.word
    rw [sw]
    cases s
    · rw [if_neg (by simp)]
      have : r / 2 ^ 63 = 0 := by omega
      rw [this]; rfl
    · rw [if_pos rfl]
      have : (2 ^ 63 + r) / 2 ^ 63 % 2 = 1 := by omega
      rw [this]; rfl
  have hr : double.word s r % double.signWeight = r := by
    unfold Format.word
    rw [sw]
    cases s
    · rw [if_neg (by simp)]; omega
    · rw [if_pos rfl]; omega
  simp only [Format.read, hs, hr, bin, infR, lp]
  have hm : r % 2 ^ 52 < 2 ^ 52 := Nat.mod_lt _ (by omega)
  by_cases h1 : r < 2 ^ 52
  · rw [if_pos h1]
    refine ⟨r, 0, rfl, ?_, by omega⟩
    rw [wval, if_pos h1, Nat.pow_zero, Nat.mul_one]
  · rw [if_neg h1, if_pos h]
    refine ⟨2 ^ 52 + r % 2 ^ 52, r / 2 ^ 52 - 1, ?_, ?_, ?_⟩
    · congr 1
    · rw [wval, if_neg h1]
    · omega

/-- A number that is just worth the float r is written as r. -/
theorem write_word (s : Bool) (m : Nat) (p : Int) (r : Nat) (hr : r < 2047 * 2 ^ 52) (h : m * 2 ^ (p + 1074).toNat = wval r * 2 ^ (-1074 - p).toNat) : double.write (.number s m p) = double.word s r := by
  have hR := rep_wval r hr
  have := nearest_rg s m p (wval r) h hR.2.2
  rw [rg_wval r hr, Nat.min_eq_left (by omega)] at this
  exact this

theorem shift (M V A B : Nat) (h : M * 2 ^ A = V * 2 ^ B) : M * 2 ^ ((A : Int) - B).toNat = V * 2 ^ ((B : Int) - A).toNat := by
  by_cases hAB : B ≤ A
  · obtain ⟨t, rfl⟩ : ∃ t, A = B + t := ⟨A - B, by omega⟩
    have e1 : (((B + t : Nat) : Int) - B).toNat = t := by omega
    have e2 : ((B : Int) - ((B + t : Nat) : Int)).toNat = 0 := by omega
    rw [e1, e2, Nat.pow_zero, Nat.mul_one]
    have hp : 0 < 2 ^ B := Nat.two_pow_pos _
    apply Nat.eq_of_mul_eq_mul_right hp
    rw [← h, Nat.pow_add, Nat.mul_assoc, Nat.mul_comm (2 ^ t)]
  · obtain ⟨t, rfl⟩ : ∃ t, B = A + t := ⟨B - A, by omega⟩
    have e1 : (((A + t : Nat) : Int) - A).toNat = t := by omega
    have e2 : ((A : Int) - ((A + t : Nat) : Int)).toNat = 0 := by omega
    rw [e1, e2, Nat.pow_zero, Nat.mul_one]
    have hp : 0 < 2 ^ A := Nat.two_pow_pos _
    apply Nat.eq_of_mul_eq_mul_right hp
    rw [h, Nat.pow_add, Nat.mul_assoc, Nat.mul_comm (2 ^ A)]

/-- The same, by two powers. -/
theorem write_by (s : Bool) (m : Nat) (p : Int) (r A B : Nat) (hr : r < 2047 * 2 ^ 52) (hp : p + 1074 = (A : Int) - B) (h : m * 2 ^ A = wval r * 2 ^ B) : double.write (.number s m p) = double.word s r := by
  refine write_word s m p r hr ?_
  rw [show (-1074 - p : Int) = (B : Int) - A by omega, hp]
  exact shift _ _ _ _ h

theorem mul_exact (s t : Bool) (a b c : Nat) (ha : a < 2047 * 2 ^ 52) (hb : b < 2047 * 2 ^ 52) (hc : c < 2047 * 2 ^ 52) (h : wval a * wval b = wval c * 2 ^ 1074) :
    double.mul (double.word s a) (double.word t b) = some (double.word (s ^^ t) c) := by
  obtain ⟨m, k, e1, v1, -⟩ := read_word s a ha
  obtain ⟨n, l, e2, v2, -⟩ := read_word t b hb
  rw [Format.mul, e1, e2]
  simp only [Datum.product, Option.map_some]
  rw [write_by (s ^^ t) _ _ c (k + l) 1074 hc (by omega)]
  rw [← h, ← v1, ← v2, Nat.pow_add, Nat.mul_assoc, Nat.mul_assoc, ← Nat.mul_assoc n, ← Nat.mul_assoc (2 ^ k), Nat.mul_comm (2 ^ k) n]

theorem shl_to (m k b : Nat) (h : b ≤ k) : m <<< (((k : Int) - 1074) - ((b : Int) - 1074)).toNat * 2 ^ b = m * 2 ^ k := by
  rw [show (((k : Int) - 1074) - ((b : Int) - 1074)).toNat = k - b by omega, Nat.shiftLeft_eq, Nat.mul_assoc, ← Nat.pow_add, Nat.sub_add_cancel h]

theorem min_place (k l : Nat) : min ((k : Int) - 1074) ((l : Int) - 1074) = ((min k l : Nat) : Int) - 1074 := by omega

theorem add_exact (a b c : Nat) (ha : a < 2047 * 2 ^ 52) (hb : b < 2047 * 2 ^ 52) (hc : c < 2047 * 2 ^ 52) (h : wval a + wval b = wval c) :
    double.add a b = some c := by
  obtain ⟨m, k, e1, v1, -⟩ := read_word false a ha
  obtain ⟨n, l, e2, v2, -⟩ := read_word false b hb
  have ea : double.word false a = a := rfl
  have eb : double.word false b = b := rfl
  have ec : double.word false c = c := rfl
  rw [ea] at e1
  rw [eb] at e2
  rw [Format.add, e1, e2]
  simp only [Datum.sum, Option.map_some, min_place, signed, Bool.false_eq_true, if_false, Bool.and_self]
  have h1 := shl_to m k (min k l) (Nat.min_le_left _ _)
  have h2 := shl_to n l (min k l) (Nat.min_le_right _ _)
  generalize m <<< (((k : Int) - 1074) - (((min k l : Nat) : Int) - 1074)).toNat = X at *
  generalize n <<< (((l : Int) - 1074) - (((min k l : Nat) : Int) - 1074)).toNat = Y at *
  have hs : (if (X : Int) + Y = 0 then false else decide ((X : Int) + Y < 0)) = false := by
    split
    · rfl
    · exact decide_eq_false (by omega)
  have hn : ((X : Int) + Y).natAbs = X + Y := by omega
  rw [hs, hn, write_by false _ _ c (min k l) 0 hc (by omega), ec]
  rw [Nat.pow_zero, Nat.mul_one, Nat.add_mul, h1, h2, ← h, v1, v2]

theorem sub_exact (a b c : Nat) (ha : a < 2047 * 2 ^ 52) (hb : b < 2047 * 2 ^ 52) (hc : c < 2047 * 2 ^ 52) (h : wval a = wval b + wval c) :
    double.sub a b = some c := by
  obtain ⟨m, k, e1, v1, -⟩ := read_word false a ha
  obtain ⟨n, l, e2, v2, -⟩ := read_word false b hb
  have ea : double.word false a = a := rfl
  have eb : double.word false b = b := rfl
  have ec : double.word false c = c := rfl
  rw [ea] at e1
  rw [eb] at e2
  rw [Format.sub, e1, e2]
  simp only [Datum.opposite, Datum.sum, Option.map_some, min_place, signed, Bool.false_eq_true, if_false, Bool.not_false, if_true, Bool.and_true]
  have h1 := shl_to m k (min k l) (Nat.min_le_left _ _)
  have h2 := shl_to n l (min k l) (Nat.min_le_right _ _)
  generalize m <<< (((k : Int) - 1074) - (((min k l : Nat) : Int) - 1074)).toNat = X at *
  generalize n <<< (((l : Int) - 1074) - (((min k l : Nat) : Int) - 1074)).toNat = Y at *
  have hp : 0 < 2 ^ min k l := Nat.two_pow_pos _
  have hXY : Y ≤ X := by
    apply Nat.le_of_mul_le_mul_right _ hp
    omega
  have hs : (if (X : Int) + -(Y : Int) = 0 then false else decide ((X : Int) + -(Y : Int) < 0)) = false := by
    split
    · rfl
    · exact decide_eq_false (by omega)
  have hn : ((X : Int) + -(Y : Int)).natAbs = X - Y := by omega
  rw [hs, hn, write_by false _ _ c (min k l) 0 hc (by omega), ec]
  rw [Nat.pow_zero, Nat.mul_one, Nat.sub_mul, h1, h2]
  omega

theorem half_exact (s : Bool) (d a c q : Nat) (hd : double.read d = .number false (2 ^ 52) ((q : Int) - 52)) (ha : a < 2047 * 2 ^ 52) (hc : c < 2047 * 2 ^ 52) (h : wval a = wval c * 2 ^ q) :
    double.div (double.word s a) d = some (double.word s c) := by
  obtain ⟨m, k, e1, v1, hm⟩ := read_word s a ha
  have hl : m.log2 ≤ 52 := by
    by_cases h0 : m = 0
    · subst h0; decide
    · have := (Nat.log2_lt h0).2 hm
      omega
  have h52 : (2 ^ 52 : Nat).log2 = 52 := by decide
  have hn0 : ¬ ((2 : Nat) ^ 52 = 0) := by decide
  rw [Format.div, e1, hd]
  simp only [Datum.quotient, fb, hn0, if_false, h52, Option.map_some, Bool.xor_false]
  obtain ⟨t, ht⟩ : ∃ t, 52 + 2 + 52 - m.log2 = 52 + t := ⟨52 + 2 - m.log2, by omega⟩
  rw [ht]
  have hdiv : m <<< (52 + t) = (m * 2 ^ t) * 2 ^ 52 := by rw [Nat.shiftLeft_eq, Nat.pow_add, Nat.mul_comm (2 ^ 52), Nat.mul_assoc]
  rw [hdiv, Nat.mul_div_cancel _ (by decide), Nat.mul_mod_left]
  simp only [bne_self_eq_false, Bool.toNat_false, Nat.add_zero]
  rw [write_by s _ _ c k (q + t + 1) hc (by omega)]
  have e : 2 * (m * 2 ^ t) * 2 ^ k = (m * 2 ^ k) * 2 ^ t * 2 := by ac_rfl
  rw [e, v1, h, Nat.pow_succ, Nat.pow_add]
  ac_rfl

/-- Cut towards zero. -/
theorem toInt_exact (a : Nat) (ha : a < 2047 * 2 ^ 52) (n : Nat) (h : wval a = n * 2 ^ 1074) : (double.read a).toInt .zero = some (n : Int) := by
  obtain ⟨m, k, e1, v1, hm⟩ := read_word false a ha
  have ea : double.word false a = a := rfl
  rw [ea] at e1
  rw [e1]
  simp only [Datum.toInt, Datum.integral, signed, Bool.false_eq_true, if_false, Nat.shiftLeft_zero, cut_zero]
  rw [← v1] at h
  have := shift _ _ _ _ h
  rw [Nat.shiftLeft_eq]
  have e1 : (k : Int) - ((1074 : Nat) : Int) = (k : Int) - 1074 := rfl
  have e2 : ((1074 : Nat) : Int) - (k : Int) = -((k : Int) - 1074) := by omega
  rw [e1, e2] at this
  rw [this, Nat.mul_div_cancel _ (Nat.two_pow_pos _)]

/-- A word by its sign and its place. -/
theorem word_of (x : Nat) (h : x < 2 ^ 64) : ∃ s r, r < 2 ^ 63 ∧ x = double.word s r := by
  by_cases hx : x < 2 ^ 63
  · exact ⟨false, x, hx, rfl⟩
  · exact ⟨true, x - 2 ^ 63, by omega, by unfold Format.word; rw [sw, if_pos rfl]; omega⟩

theorem sign_of (s : Bool) (r : Nat) (h : r < 2 ^ 63) : (double.word s r / double.signWeight % 2 == 1) = s := by
  unfold Format.word
  rw [sw]
  cases s
  · rw [if_neg (by simp)]
    have : r / 2 ^ 63 = 0 := by omega
    rw [this]; rfl
  · rw [if_pos rfl]
    have : (2 ^ 63 + r) / 2 ^ 63 % 2 = 1 := by omega
    rw [this]; rfl
theorem place_of (s : Bool) (r : Nat) (h : r < 2 ^ 63) : double.word s r % double.signWeight = r := by
  unfold Format.word
  rw [sw]
  cases s
  · rw [if_neg (by simp)]; omega
  · rw [if_pos rfl]; omega
theorem read_inf (s : Bool) : double.read (double.word s (2047 * 2 ^ 52)) = .infinity s := by cases s <;> decide
theorem read_nan (s : Bool) (r : Nat) (h : 2047 * 2 ^ 52 < r) (h' : r < 2 ^ 63) : double.read (double.word s r) = .nan s (r - 2047 * 2 ^ 52) := by
  simp only [Format.read, sign_of s r h', place_of s r h', bin, infR]
  rw [if_neg (by omega), if_neg (by omega), if_neg (by omega)]

/-- Where a float stands among all. -/
def key (s : Bool) (r : Nat) : Int := if s then -(r : Int) else r
def sv (s : Bool) (r : Nat) : Int := if s then -(wval r : Int) else wval r

theorem wval_pos (a : Nat) (h : 0 < a) : 0 < wval a := by
  have := wval_lt 0 a h
  omega
theorem wval_zero : wval 0 = 0 := by decide

theorem sv_lt (s t : Bool) (a b : Nat) : sv s a < sv t b ↔ key s a < key t b := by
  have hz := wval_zero
  have h1 : a < b ↔ wval a < wval b := ⟨wval_lt a b, fun h => by
    rcases Nat.lt_trichotomy a b with h' | h' | h'
    · exact h'
    · subst h'; omega
    · have := wval_lt b a h'; omega⟩
  have h2 : b < a ↔ wval b < wval a := ⟨wval_lt b a, fun h => by
    rcases Nat.lt_trichotomy a b with h' | h' | h'
    · have := wval_lt a b h'; omega
    · subst h'; omega
    · exact h'⟩
  have h3 : 0 < a ↔ 0 < wval a := ⟨wval_pos a, fun h => by
    rcases Nat.eq_zero_or_pos a with rfl | h'
    · omega
    · exact h'⟩
  have h4 : 0 < b ↔ 0 < wval b := ⟨wval_pos b, fun h => by
    rcases Nat.eq_zero_or_pos b with rfl | h'
    · omega
    · exact h'⟩
  cases s <;> cases t <;> simp only [sv, key, if_true, Bool.false_eq_true, if_false] <;> omega

theorem cmp_eq (x y x' y' : Int) (h1 : x < y ↔ x' < y') (h2 : y < x ↔ y' < x') : compare x y = compare x' y' := by
  simp only [compare, compareOfLessAndEq]
  by_cases h : x < y
  · rw [if_pos h, if_pos (h1.1 h)]
  · rw [if_neg h, if_neg (fun h' => h (h1.2 h'))]
    by_cases e : x = y
    · rw [if_pos e, if_pos (by omega)]
    · rw [if_neg e, if_neg (by omega)]

theorem signed_mul (s : Bool) (m k b : Nat) (h : b ≤ k) : signed s m (((k : Int) - 1074) - ((b : Int) - 1074)).toNat * (2 ^ b : Nat) = if s then -((m * 2 ^ k : Nat) : Int) else ((m * 2 ^ k : Nat) : Int) := by
  have := shl_to m k b h
  unfold signed
  cases s
  · simp only [Bool.false_eq_true, if_false]
    rw [← Int.natCast_mul, this]
  · simp only [if_true]
    rw [Int.neg_mul, ← Int.natCast_mul, this]

theorem order_key (s t : Bool) (a b : Nat) (ha : a ≤ 2047 * 2 ^ 52) (hb : b ≤ 2047 * 2 ^ 52) : double.order (double.word s a) (double.word t b) = some (compare (key s a) (key t b)) := by
  unfold Format.order
  by_cases ha' : a = 2047 * 2 ^ 52
  · subst ha'
    rw [read_inf]
    by_cases hb' : b = 2047 * 2 ^ 52
    · subst hb'
      rw [read_inf]
      cases s <;> cases t <;> rfl
    · obtain ⟨n, l, e2, v2, -⟩ := read_word t b (by omega)
      rw [e2]
      simp only [Datum.order]
      congr 1
      cases s <;> cases t <;> simp only [key, if_true, Bool.false_eq_true, if_false, compare, compareOfLessAndEq] <;> (first | (rw [if_pos (by omega)]; done) | (rw [if_neg (by omega), if_neg (by omega)]))
  · obtain ⟨m, k, e1, v1, -⟩ := read_word s a (by omega)
    rw [e1]
    by_cases hb' : b = 2047 * 2 ^ 52
    · subst hb'
      rw [read_inf]
      simp only [Datum.order]
      congr 1
      cases s <;> cases t <;> simp only [key, if_true, Bool.false_eq_true, if_false, compare, compareOfLessAndEq] <;> (first | (rw [if_pos (by omega)]; done) | (rw [if_neg (by omega), if_neg (by omega)]))
    · obtain ⟨n, l, e2, v2, -⟩ := read_word t b (by omega)
      rw [e2]
      simp only [Datum.order, min_place]
      congr 1
      have h1 := signed_mul s m k (min k l) (Nat.min_le_left _ _)
      have h2 := signed_mul t n l (min k l) (Nat.min_le_right _ _)
      rw [v1] at h1
      rw [v2] at h2
      generalize signed s m (((k : Int) - 1074) - (((min k l : Nat) : Int) - 1074)).toNat = X at *
      generalize signed t n (((l : Int) - 1074) - (((min k l : Nat) : Int) - 1074)).toNat = Y at *
      have hp : (0 : Int) < ((2 ^ min k l : Nat) : Int) := Int.natCast_pos.2 (Nat.two_pow_pos _)
      generalize ((2 ^ min k l : Nat) : Int) = P at *
      have h1' : X * P = sv s a := h1
      have h2' : Y * P = sv t b := h2
      refine cmp_eq _ _ _ _ ?_ ?_
      · rw [← sv_lt, ← h1', ← h2']
        exact ⟨fun h => Int.mul_lt_mul_of_pos_right h hp, fun h => Int.lt_of_mul_lt_mul_right h (by omega)⟩
      · rw [← sv_lt, ← h1', ← h2']
        exact ⟨fun h => Int.mul_lt_mul_of_pos_right h hp, fun h => Int.lt_of_mul_lt_mul_right h (by omega)⟩

theorem order_nan_l (s : Bool) (r y : Nat) (h : 2047 * 2 ^ 52 < r) (h' : r < 2 ^ 63) : double.order (double.word s r) y = none := by
  unfold Format.order
  rw [read_nan s r h h']
  rfl
theorem order_nan_r (s : Bool) (r y : Nat) (h : 2047 * 2 ^ 52 < r) (h' : r < 2 ^ 63) : double.order y (double.word s r) = none := by
  unfold Format.order
  rw [read_nan s r h h']
  cases double.read y <;> rfl
end Go.Proofs.Ytdfieopdbpklnaa
/- Floats of 64 bits, by their bits: which are NaN, how two stand to each other, their ranks. No statement of its own; no conditions. -/

namespace Go.Proofs.Ytdfieopdbpklnaa
open Ieee

/-- Whether bits are a NaN's. -/
def isN (x : Nat) : Bool := decide (9218868437227405312 < x % 9223372036854775808)
/-- Where a float that is no NaN stands among all. -/
def kx (x : Nat) : Int := if x < 9223372036854775808 then (x : Int) else 9223372036854775808 - x
/-- Its bits, all NaNs being one. -/
def fbits (x : Nat) : Nat := if isN x then 9221120237041090560 else x
/-- Its rank. -/
def frank (x : Nat) : Nat := if isN x then 18446744073709551615 else if x % 9223372036854775808 = 0 then 9223372036854775808 else if x < 9223372036854775808 then x + 9223372036854775808 else 18446744073709551615 - x

theorem isN_iff (x : Nat) : isN x = true ↔ 9218868437227405312 < x % 9223372036854775808 := by simp [isN]
theorem isN_not (x : Nat) : isN x = false ↔ x % 9223372036854775808 ≤ 9218868437227405312 := by simp [isN]

theorem word_pos (r : Nat) : double.word false r = r := rfl
theorem word_neg (r : Nat) : double.word true r = 9223372036854775808 + r := by unfold Format.word; rw [sw, if_pos rfl]

/-- A float by its sign and place. -/
theorem split_x (x : Nat) (h : x < 18446744073709551616) : ∃ s r, r < 9223372036854775808 ∧ x = double.word s r ∧ x % 9223372036854775808 = r ∧ kx x = key s r := by
  by_cases hx : x < 9223372036854775808
  · exact ⟨false, x, hx, rfl, by omega, by rw [kx, if_pos hx]; rfl⟩
  · refine ⟨true, x - 9223372036854775808, by omega, by rw [word_neg]; omega, by omega, ?_⟩
    rw [kx, if_neg hx, key, if_pos rfl]
    omega

theorem order_x (x y : Nat) (hx : x < 18446744073709551616) (hy : y < 18446744073709551616) (nx : isN x = false) (ny : isN y = false) : FloatKind.f64.format.order x y = some (compare (kx x) (kx y)) := by
  rw [isN_not] at nx ny
  obtain ⟨s, a, -, rfl, ea, ka⟩ := split_x x hx
  obtain ⟨t, b, -, rfl, eb, kb⟩ := split_x y hy
  rw [ka, kb]
  exact order_key s t a b (by omega) (by omega)
theorem order_l (x y : Nat) (hx : x < 18446744073709551616) (nx : isN x = true) : FloatKind.f64.format.order x y = none := by
  rw [isN_iff] at nx
  obtain ⟨s, a, h, rfl, ea, -⟩ := split_x x hx
  exact order_nan_l s a y (by omega) (by omega)
theorem order_r (x y : Nat) (hy : y < 18446744073709551616) (ny : isN y = true) : FloatKind.f64.format.order x y = none := by
  rw [isN_iff] at ny
  obtain ⟨s, a, h, rfl, ea, -⟩ := split_x y hy
  exact order_nan_r s a x (by omega) (by omega)

theorem order_lt (x y : Nat) (hx : x < 18446744073709551616) (hy : y < 18446744073709551616) (nx : isN x = false) (ny : isN y = false) (h : kx x < kx y) : FloatKind.f64.format.order x y = some .lt := by
  rw [order_x x y hx hy nx ny]
  congr 1
  simp only [compare, compareOfLessAndEq]
  rw [if_pos h]
theorem order_eq (x y : Nat) (hx : x < 18446744073709551616) (hy : y < 18446744073709551616) (nx : isN x = false) (ny : isN y = false) (h : kx x = kx y) : FloatKind.f64.format.order x y = some .eq := by
  rw [order_x x y hx hy nx ny]
  congr 1
  simp only [compare, compareOfLessAndEq]
  rw [if_neg (by omega), if_pos h]
theorem order_gt (x y : Nat) (hx : x < 18446744073709551616) (hy : y < 18446744073709551616) (nx : isN x = false) (ny : isN y = false) (h : kx y < kx x) : FloatKind.f64.format.order x y = some .gt := by
  rw [order_x x y hx hy nx ny]
  congr 1
  simp only [compare, compareOfLessAndEq]
  rw [if_neg (by omega), if_neg (by omega)]

theorem fbits_lt (x : Nat) (h : x < 18446744073709551616) : fbits x < 18446744073709551616 := by
  unfold fbits; split <;> omega
theorem frank_lt (x : Nat) (h : x < 18446744073709551616) : frank x < 18446744073709551616 := by
  unfold frank
  split
  · omega
  · split
    · omega
    · split <;> omega
end Go.Proofs.Ytdfieopdbpklnaa
/- What halves, doubles, sums and cuts of floats give, in the steps that the specification takes. No statement of its own; no conditions. -/

namespace Go.Proofs.Ytdfieopdbpklnaa
open Ieee

/-- The float c times 2^j least floats. -/
def F (c j : Nat) : Nat := rg (c * 2 ^ j)

theorem F_wval (c j : Nat) (hc : c < 2 ^ 53) (hj : j ≤ 2045) : wval (F c j) = c * 2 ^ j := (rep_of c j hc hj).2.1
theorem F_lt (c j : Nat) (hc : c < 2 ^ 53) (hj : j ≤ 2045) : F c j < 2047 * 2 ^ 52 := (rep_of c j hc hj).1
theorem F_of (r c j : Nat) (h : r < 2047 * 2 ^ 52) (e : wval r = c * 2 ^ j) : r = F c j := by rw [F, ← e, rg_wval r h]

theorem wval_norm (t f : Nat) (hf : f < 2 ^ 52) : wval ((t + 1) * 2 ^ 52 + f) = (2 ^ 52 + f) * 2 ^ t := by
  unfold wval
  have h1 : ¬ ((t + 1) * 2 ^ 52 + f < 2 ^ 52) := by omega
  have h2 : ((t + 1) * 2 ^ 52 + f) / 2 ^ 52 = t + 1 := by omega
  have h3 : ((t + 1) * 2 ^ 52 + f) % 2 ^ 52 = f := by omega
  rw [if_neg h1, h2, h3, Nat.add_sub_cancel]
theorem F_norm (t f : Nat) (hf : f < 2 ^ 52) (ht : t ≤ 2045) : F (2 ^ 52 + f) t = (t + 1) * 2 ^ 52 + f := (F_of _ _ _ (by omega) (wval_norm t f hf)).symm
theorem F_sub (f : Nat) (hf : f < 2 ^ 52) : F f 0 = f := (F_of f f 0 (by omega) (by rw [wval, if_pos hf, Nat.pow_zero, Nat.mul_one])).symm

theorem two_read : double.read 4611686018427387904 = .number false (2 ^ 52) (((1 : Nat) : Int) - 52) := by decide
theorem p52_read : double.read 4841369599423283200 = .number false (2 ^ 52) (((52 : Nat) : Int) - 52) := by decide
theorem two_F : 4611686018427387904 = F (2 ^ 52) 1023 := (F_norm 1023 0 (by omega) (by omega)).symm
theorem one_F : 4607182418800017408 = F (2 ^ 52) 1022 := (F_norm 1022 0 (by omega) (by omega)).symm
theorem p52_F : 4841369599423283200 = F (2 ^ 52) 1074 := (F_norm 1074 0 (by omega) (by omega)).symm

theorem half_F (c j : Nat) (hc : c < 2 ^ 53) (hj : j + 1 ≤ 2045) : double.div (F c (j + 1)) 4611686018427387904 = some (F c j) := by
  refine half_exact false 4611686018427387904 (F c (j + 1)) (F c j) 1 two_read (F_lt _ _ hc hj) (F_lt _ _ hc (by omega)) ?_
  rw [F_wval _ _ hc hj, F_wval _ _ hc (by omega), Nat.pow_succ, Nat.pow_one, Nat.mul_assoc]
theorem cut_F (c j : Nat) (hc : c < 2 ^ 53) (hj : j + 52 ≤ 2045) : double.div (F c (j + 52)) 4841369599423283200 = some (F c j) := by
  refine half_exact false 4841369599423283200 (F c (j + 52)) (F c j) 52 p52_read (F_lt _ _ hc hj) (F_lt _ _ hc (by omega)) ?_
  rw [F_wval _ _ hc hj, F_wval _ _ hc (by omega), Nat.pow_add, Nat.mul_assoc]
theorem pw (c j a b k d : Nat) (h : j + a + b = k + d) : c * 2 ^ j * (2 ^ a * 2 ^ b) = c * 2 ^ k * 2 ^ d := by
  rw [← Nat.pow_add, Nat.mul_assoc, Nat.mul_assoc, ← Nat.pow_add, ← Nat.pow_add, ← Nat.add_assoc, h]
theorem both (f a p : Nat) : f * p + a * p = (a + f) * p := by rw [Nat.add_mul, Nat.add_comm]
theorem decode_eq (b : Nat) : FloatKind.f64.decode b = double.read b := rfl
theorem double_F (c j : Nat) (hc : c < 2 ^ 53) (hj : j + 1 ≤ 2045) : double.mul (F c j) 4611686018427387904 = some (F c (j + 1)) := by
  have := mul_exact false false (F c j) (F (2 ^ 52) 1023) (F c (j + 1)) (F_lt _ _ hc (by omega)) (F_lt _ _ (by omega) (by omega)) (F_lt _ _ hc hj) (by
    rw [F_wval _ _ hc hj, F_wval _ _ hc (by omega), F_wval _ _ (by omega) (by omega)]
    exact pw c j 52 1023 (j + 1) 1074 (by omega))
  rw [← two_F] at this
  exact this
theorem lift_F (c j : Nat) (hc : c < 2 ^ 53) (hj : j + 52 ≤ 2045) : double.mul (F c j) 4841369599423283200 = some (F c (j + 52)) := by
  have := mul_exact false false (F c j) (F (2 ^ 52) 1074) (F c (j + 52)) (F_lt _ _ hc (by omega)) (F_lt _ _ (by omega) (by omega)) (F_lt _ _ hc hj) (by
    rw [F_wval _ _ hc hj, F_wval _ _ hc (by omega), F_wval _ _ (by omega) (by omega)]
    exact pw c j 52 1074 (j + 52) 1074 (by omega))
  rw [← p52_F] at this
  exact this
theorem less_F (f : Nat) (hf : f < 2 ^ 52) : double.sub (F (2 ^ 52 + f) 1022) 4607182418800017408 = some (F f 1022) := by
  rw [one_F]
  refine sub_exact _ _ _ (F_lt _ _ (by omega) (by omega)) (F_lt _ _ (by omega) (by omega)) (F_lt _ _ (by omega) (by omega)) ?_
  rw [F_wval _ _ (by omega) (by omega), F_wval _ _ (by omega) (by omega), F_wval _ _ (by omega) (by omega), Nat.add_mul]
theorem more_F (f : Nat) (hf : f < 2 ^ 52) : double.add (F f 1022) 4607182418800017408 = some (F (2 ^ 52 + f) 1022) := by
  rw [one_F]
  refine add_exact _ _ _ (F_lt _ _ (by omega) (by omega)) (F_lt _ _ (by omega) (by omega)) (F_lt _ _ (by omega) (by omega)) ?_
  rw [F_wval _ _ (by omega) (by omega), F_wval _ _ (by omega) (by omega), F_wval _ _ (by omega) (by omega)]
  generalize (2 : Nat) ^ 1022 = P
  exact both f _ P
theorem int_of (x n : Nat) (h : (double.read x).toInt .zero = some (n : Int)) (hn : n < 18446744073709551616) : floatToIntVal .f64 x .u64 = some (n : Int) := by
  rw [← decode_eq] at h
  unfold floatToIntVal
  rw [h]
  have e1 : IntKind.u64.min = 0 := by decide
  have e2 : IntKind.u64.max = 18446744073709551615 := by decide
  simp only [e1, e2]
  rw [if_pos (by omega)]
theorem int_F (f : Nat) (hf : f < 2 ^ 52) : floatToIntVal .f64 (F f 1074) .u64 = some (f : Int) :=
  int_of _ _ (toInt_exact (F f 1074) (F_lt _ _ (by omega) (by omega)) f (F_wval _ _ (by omega) (by omega))) (by omega)
theorem of_F (f : Nat) (hf : f < 2 ^ 53) : floatOfInt .f64 (f : Int) = F f 1074 := by
  unfold floatOfInt FloatKind.nearest FloatKind.encode
  have hn : decide ((f : Int) < 0) = false := decide_eq_false (by omega)
  rw [hn, Int.natAbs_natCast]
  exact write_by false f 0 (F f 1074) 1074 0 (F_lt _ _ hf (by omega)) (by omega) (by rw [F_wval _ _ hf (by omega), Nat.pow_zero, Nat.mul_one])
end Go.Proofs.Ytdfieopdbpklnaa
/- The contracts of the program's FloatBits, FloatOf, FloatRank, FloatUnrank and FloatCompare. For every argument. -/







namespace Go.Proofs.Ytdfieopdbpklnaa
open Go.RowKit

theorem not64 (x : Nat) (h : x < 18446744073709551616) : bits .xor .u64 IntKind.u64.max (x : Int) = ((18446744073709551615 - x : Nat) : Int) := by
  have e : IntKind.u64.max = ((18446744073709551615 : Nat) : Int) := by decide
  rw [e, u64_xor_nat _ _ (by omega) h]
  congr 1
  have h1 : (BitVec.allOnes 64 ^^^ BitVec.ofNat 64 x).toNat = 18446744073709551615 ^^^ x := by
    rw [BitVec.toNat_xor, BitVec.toNat_allOnes, BitVec.toNat_ofNat, Nat.mod_eq_of_lt h]
  rw [← h1, BitVec.allOnes_xor, BitVec.toNat_not, BitVec.toNat_ofNat, Nat.mod_eq_of_lt h]

theorem kx_zero : kx 0 = 0 := rfl
theorem isN_zero : isN 0 = false := by decide

/-- The bits that FloatUnrank turns to. -/
def back (k : Nat) : Nat := if 9223372036854775808 ≤ k then k - 9223372036854775808 else 18446744073709551615 - k
theorem back_lt (k : Nat) (h : k < 18446744073709551616) : back k < 18446744073709551616 := by unfold back; split <;> omega

def cmp3 (x y : Nat) : Int := if x < y then -1 else if y < x then 1 else 0

end Go.Proofs.Ytdfieopdbpklnaa
/- The contract of the specification's FloatBits: it answers 'fbits', and leaves memory as it was. For every argument. -/


namespace Go.Proofs.Ytdfieopdbpklnaa
open Go.RowKit Ieee

theorem kpos (a : Nat) (h : a ≤ 9218868437227405312) : a < 18446744073709551616 ∧ isN a = false ∧ kx a = a := by
  refine ⟨by omega, (isN_not a).2 (by omega), ?_⟩
  rw [kx, if_pos (by omega)]
theorem olt (a b : Nat) (ha : a ≤ 9218868437227405312) (hb : b ≤ 9218868437227405312) (h : a < b) : FloatKind.f64.format.order a b = some .lt :=
  order_lt a b (kpos a ha).1 (kpos b hb).1 (kpos a ha).2.1 (kpos b hb).2.1 (by rw [(kpos a ha).2.2, (kpos b hb).2.2]; omega)
theorem ogt (a b : Nat) (ha : a ≤ 9218868437227405312) (hb : b ≤ 9218868437227405312) (h : b < a) : FloatKind.f64.format.order a b = some .gt :=
  order_gt a b (kpos a ha).1 (kpos b hb).1 (kpos a ha).2.1 (kpos b hb).2.1 (by rw [(kpos a ha).2.2, (kpos b hb).2.2]; omega)
theorem oeq (a : Nat) (ha : a ≤ 9218868437227405312) : FloatKind.f64.format.order a a = some .eq :=
  order_eq a a (kpos a ha).1 (kpos a ha).1 (kpos a ha).2.1 (kpos a ha).2.1 rfl

theorem dval (r : Nat) (h : r < 9218868437227405312) (h1 : 4503599627370496 ≤ r) : ∃ t f, f < 2 ^ 52 ∧ t ≤ 2045 ∧ r = (t + 1) * 2 ^ 52 + f ∧ r = F (2 ^ 52 + f) t := by
  refine ⟨r / 4503599627370496 - 1, r % 4503599627370496, by omega, by omega, by omega, ?_⟩
  rw [F_norm _ _ (by omega) (by omega)]
  omega

theorem half_r (r : Nat) (h1 : 4611686018427387904 ≤ r) (h2 : r < 9218868437227405312) : floatBits .quo .f64 r 4611686018427387904 = some (r - 4503599627370496) := by
  obtain ⟨t, f, hf, ht, e1, e2⟩ := dval r h2 (by omega)
  obtain ⟨u, rfl⟩ : ∃ u, t = u + 1 := ⟨t - 1, by omega⟩
  have := half_F (2 ^ 52 + f) u (by omega) (by omega)
  rw [← e2, F_norm u f hf (by omega)] at this
  rw [show r - 4503599627370496 = (u + 1) * 2 ^ 52 + f by omega]
  exact this

theorem F_suc (c j : Nat) (hc : c < 2 ^ 53) (hj : j + 1 ≤ 2045) : wval (F c (j + 1)) = wval (F c j) * 2 := by
  rw [F_wval _ _ hc hj, F_wval _ _ hc (by omega), Nat.pow_succ, Nat.mul_assoc]
theorem two_F' : 4611686018427387904 = F (2 ^ 52) (1022 + 1) := (F_norm (1022 + 1) 0 (by omega) (by omega)).symm
theorem wval_le (a b : Nat) (h : wval a < wval b) : a < b := by
  rcases Nat.lt_or_ge a b with h' | h'
  · exact h'
  · rcases Nat.lt_or_eq_of_le h' with h'' | h''
    · have := wval_lt b a h''; omega
    · subst h''; omega

theorem dbl_r (r : Nat) (h : r < 4607182418800017408) : ∃ q, floatBits .mul .f64 r 4611686018427387904 = some q ∧ wval q = wval r * 2 ∧ q < 4611686018427387904 := by
  have main : ∃ c j, c < 2 ^ 53 ∧ j + 1 ≤ 2045 ∧ r = F c j := by
    by_cases h1 : 4503599627370496 ≤ r
    · obtain ⟨t, f, hf, ht, e1, e2⟩ := dval r (by omega) h1
      exact ⟨2 ^ 52 + f, t, by omega, by omega, e2⟩
    · exact ⟨r, 0, by omega, by omega, (F_sub r (by omega)).symm⟩
  obtain ⟨c, j, hc, hj, e⟩ := main
  have hm := double_F c j hc hj
  rw [← e] at hm
  have hv : wval (F c (j + 1)) = wval r * 2 := by
    rw [e, F_wval _ _ hc hj, F_wval _ _ hc (by omega), Nat.pow_succ, Nat.mul_assoc]
  refine ⟨_, hm, hv, ?_⟩
  apply wval_le
  rw [hv]
  have h1 : wval r < wval 4607182418800017408 := wval_lt _ _ h
  have h2 : wval 4611686018427387904 = wval 4607182418800017408 * 2 := by
    rw [two_F', one_F]
    exact F_suc _ _ (by omega) (by omega)
  omega

/-- The end of it, above 1. -/
theorem top_r (r k j q : Nat) (hq1 : 4607182418800017408 ≤ q) (hq2 : q < 4611686018427387904) (hj : j ≤ 1022)
    (h : (k = 0 ∧ wval q = wval r * 2 ^ j) ∨ (j = 0 ∧ r = q + k * 4503599627370496)) :
    ∃ f : Nat, f < 4503599627370496 ∧ r = (k + 1023 - j) * 4503599627370496 + f ∧ floatBits .sub .f64 q 4607182418800017408 = some (F f 1022) ∧ floatBits .mul .f64 (F f 1022) 4841369599423283200 = some (F f 1074) ∧ floatToIntVal .f64 (F f 1074) .u64 = some (f : Int) := by
  refine ⟨q - 4607182418800017408, by omega, ?_, ?_, lift_F _ 1022 (by omega) (by omega), int_F _ (by omega)⟩
  · rcases h with ⟨rfl, h⟩ | ⟨rfl, h⟩
    · obtain ⟨t, ht⟩ : ∃ t, 1023 - j = t + 1 := ⟨1022 - j, by omega⟩
      have e1 : wval q = (2 ^ 52 + (q - 4607182418800017408)) * 2 ^ 1022 := by
        have e0 := wval_norm 1022 (q - 4607182418800017408) (by omega)
        rwa [show (1022 + 1) * 2 ^ 52 + (q - 4607182418800017408) = q by omega] at e0
      have e2 := wval_norm t (q - 4607182418800017408) (by omega)
      have e3 : (2 : Nat) ^ 1022 = 2 ^ t * 2 ^ j := by rw [show (1022 : Nat) = t + j by omega, Nat.pow_add]
      rw [e1, e3, ← Nat.mul_assoc, ← e2] at h
      have := wval_inj _ _ (Nat.eq_of_mul_eq_mul_right (Nat.two_pow_pos j) h)
      rw [← this]
      omega
    · omega
  · have hs := less_F (q - 4607182418800017408) (by omega)
    rw [F_norm _ _ (by omega) (by omega)] at hs
    rw [show (1022 + 1) * 2 ^ 52 + (q - 4607182418800017408) = q by omega] at hs
    exact hs

/-- The end of it, below 1. -/
theorem low_r (r q : Nat) (hq : q < 4607182418800017408) (h : wval q = wval r * 2 ^ 1022) :
    r < 4503599627370496 ∧ floatBits .mul .f64 q 4841369599423283200 = some (F r 1074) ∧ floatToIntVal .f64 (F r 1074) .u64 = some (r : Int) := by
  have h1 : wval q < wval 4607182418800017408 := wval_lt _ _ hq
  have h2 : wval 4607182418800017408 = wval 4503599627370496 * 2 ^ 1022 := by
    rw [one_F, F_wval _ _ (by omega) (by omega), show wval 4503599627370496 = 2 ^ 52 by decide]
  have hlt : r < 4503599627370496 := by
    apply wval_le
    rw [h, h2] at h1
    exact Nat.lt_of_mul_lt_mul_right h1
  have hv : wval r = r := by rw [wval, if_pos hlt]
  rw [hv] at h
  have e : q = F r 1022 := F_of q r 1022 (by omega) h
  refine ⟨hlt, ?_, int_F r hlt⟩
  rw [e]
  exact lift_F r 1022 (by omega) (by omega)
end Go.Proofs.Ytdfieopdbpklnaa
/- The contract of the specification's FloatBits: it answers 'fbits', and leaves memory as it was. For every argument. -/

namespace Go.Proofs.Ytdfieopdbpklnaa
open Go.RowKit Ieee

/-- The bits in a float's cell. -/
def fl : Value → Nat
  | .float _ b => b
  | _ => 0

theorem or_pos (x : Nat) (h : x < 9223372036854775808) : bits .or .u64 0 (x : Int) = ((x : Nat) : Int) := by
  have := u64_or_nat 0 x (by omega) (by omega)
  rw [Nat.zero_or] at this
  exact this
theorem or_neg (x : Nat) (h : x < 9223372036854775808) : bits .or .u64 9223372036854775808 (x : Int) = ((9223372036854775808 + x : Nat) : Int) := by
  have := u64_or_nat 9223372036854775808 x (by omega) (by omega)
  rw [nat_join 63 _ _ (by decide) (by omega)] at this
  exact this
theorem or_low (s e f : Nat) (hs : s = 0 ∨ s = 9223372036854775808) (he : e < 2048) (hf : f < 4503599627370496) : bits .or .u64 ((s + e * 4503599627370496 : Nat) : Int) (f : Int) = ((s + (e * 4503599627370496 + f) : Nat) : Int) := by
  rw [u64_or_nat _ _ (by omega) (by omega), nat_join 52 _ _ (by omega) (by omega), Nat.add_assoc]

theorem top_pos (r k j f : Nat) (hj : j ≤ 1022) (hk : k ≤ 1023) (hf : f < 4503599627370496) (e : r = (k + 1023 - j) * 4503599627370496 + f) :
    bits .or .u64 (bits .or .u64 0 (((k : Int) - j + 1023) * 4503599627370496)) (f : Int) = (r : Int) := by
  rw [show ((k : Int) - j + 1023) * 4503599627370496 = (((k + 1023 - j) * 4503599627370496 : Nat) : Int) by omega, or_pos _ (by omega)]
  have := or_low 0 (k + 1023 - j) f (.inl rfl) (by omega) hf
  rw [Nat.zero_add, Nat.zero_add, ← e] at this
  exact this
theorem top_neg (r k j f : Nat) (hj : j ≤ 1022) (hk : k ≤ 1023) (hf : f < 4503599627370496) (e : r = (k + 1023 - j) * 4503599627370496 + f) :
    bits .or .u64 (bits .or .u64 9223372036854775808 (((k : Int) - j + 1023) * 4503599627370496)) (f : Int) = ((9223372036854775808 + r : Nat) : Int) := by
  rw [show ((k : Int) - j + 1023) * 4503599627370496 = (((k + 1023 - j) * 4503599627370496 : Nat) : Int) by omega, or_neg _ (by omega)]
  rw [or_low 9223372036854775808 (k + 1023 - j) f (.inr rfl) (by omega) hf, ← e]

theorem neg_bits (r : Nat) (h : r < 9223372036854775808) : Op.negFloat .f64 (9223372036854775808 + r) = r := by
  unfold Op.negFloat
  rw [show 2 ^ (FloatKind.f64.format.exponentBits + FloatKind.f64.format.fractionBits) = 2 ^ 63 from rfl]
  have e : 9223372036854775808 + r = 2 ^ 63 ||| r := (nat_join 63 _ _ (by decide) (by omega)).symm
  rw [e]
  apply Nat.eq_of_testBit_eq
  intro i
  rw [Nat.testBit_xor, Nat.testBit_or, Nat.testBit_two_pow]
  by_cases hi : 63 = i
  · subst hi
    rw [Nat.testBit_lt_two_pow h]
    rfl
  · simp [hi]

theorem neg_run (x y : Nat) (h : Op.negFloat .f64 x = y) (w : World) : (Op.unary .neg (.float .f64 x)).run Try.prog w = .ok (.float .f64 y) w := by
  subst h
  rfl

set_option maxRecDepth 100000 in
set_option maxHeartbeats 1600000 in
theorem spec_FloatBits_pos (r : Nat) (h0 : 0 < r) (h1 : r < 9218868437227405312) (w : World) :
    Calls Try.prog 88 #[.float .f64 (r)] w fun e w' => e = .returned (.int .u64 ((r : Nat) : Int)) ∧ w' = w := by
  have o1 := oeq r (by omega)
  have o3 := ogt r 0 (by omega) (by omega) h0
  have o4 : FloatKind.f64.format.order r 9218868437227405311 = some .lt ∨ FloatKind.f64.format.order r 9218868437227405311 = some .eq := by
    by_cases h : r = 9218868437227405311
    · exact .inr (by rw [h]; exact oeq _ (by omega))
    · exact .inl (olt _ _ (by omega) (by omega) (by omega))
  have H0 := hid h0
  have H1 := hid h1
  clear h0 h1
  rcases o4 with o4 | o4
  all_goals
    go_enter Try.func88, Try.ntmps88
    go_wp2
    clear o1 o3 o4
    go_loopw [4, 5] (fun a e wr => ∃ q k : Nat, a = .float .f64 q ∧ e = .int .i64 k ∧ Hid (r = q + k * 4503599627370496) ∧ Hid (k = 0 ∨ 4607182418800017408 ≤ q) ∧ Hid (k ≤ 1023) ∧ wr = w) (fun a _ _ => fl a)
    case atStart => exact ⟨r, 0, rfl, rfl, hid (by omega), hid (.inl rfl), hid (by omega), rfl⟩
    case round =>
      obtain ⟨q, k, rfl, rfl, P1, P2, P3, rfl⟩ := hrel
      have hq : q < 9218868437227405312 := by have := P1.out; have := H1.out; omega
      by_cases hge : 4611686018427387904 ≤ q
      · obtain ⟨p, hp, ep⟩ : ∃ p, floatBits .quo .f64 q 4611686018427387904 = some p ∧ Hid (q = p + 4503599627370496) := ⟨_, half_r q hge hq, hid (by omega)⟩
        have hd := fun t w => run_float_arith (P := Try.prog) w .quo t .f64 q 4611686018427387904 _ hp
        have oo : FloatKind.f64.format.order q 4611686018427387904 = some .gt ∨ FloatKind.f64.format.order q 4611686018427387904 = some .eq := by
          by_cases h : q = 4611686018427387904
          · exact .inr (by rw [h]; exact oeq _ (by omega))
          · exact .inl (ogt _ _ (by omega) (by omega) (by omega))
        have Q1 := hid hge
        have Q2 := hid hq
        have hk : (k : Int) ≤ 1023 := by have := P3.out; omega
        clear hge hq hp
        rcases oo with oo | oo
        all_goals
          go_wp2
          go_roundw
          case rel => exact ⟨p, k + 1, rfl, by go_num, hid (by have := P1.out; have := ep.out; omega), hid (.inr (by have := Q1.out; have := ep.out; omega)), hid (by have := P1.out; have := P3.out; have := Q1.out; have := H1.out; omega), by first | trivial | rfl⟩
          case measure => have := ep.out; simp only [fl]; omega
      · have oo := olt q 4611686018427387904 (by omega) (by omega) (by omega)
        have Q1 := hid hge
        have Q2 := hid hq
        have hk : (k : Int) ≤ 1023 := by have := P3.out; omega
        clear hge hq
        go_wp2
        clear oo
        go_loopw [4, 5] (fun a e wr' => ∃ p j : Nat, a = .float .f64 p ∧ e = .int .i64 ((k : Int) - j) ∧ Hid ((k = 0 ∧ wval p = wval q * 2 ^ j) ∨ (j = 0 ∧ p = q ∧ 4607182418800017408 ≤ q)) ∧ Hid (p < 4611686018427387904) ∧ Hid (j ≤ 1022) ∧ wr' = wr) (fun _ e _ => (intOf e + 1022).toNat)
        case atStart => exact ⟨q, 0, rfl, by go_num, hid (by
          rcases P2.out with h | h
          · exact .inl ⟨h, by rw [Nat.pow_zero, Nat.mul_one]⟩
          · exact .inr ⟨rfl, rfl, h⟩), hid (by have := Q1.out; omega), hid (by omega), rfl⟩
        case round =>
          obtain ⟨p, j, rfl, rfl, R1, R2, R3, rfl⟩ := hrel
          have hj : (j : Int) ≤ 1022 := by have := R3.out; omega
          by_cases hlt : p < 4607182418800017408
          · have R1' : Hid (k = 0 ∧ wval p = wval q * 2 ^ j) := by
              rcases R1.out with h | h
              · exact h
              · exact absurd h.2.2 (by have := h.2.1; omega)
            have ol := olt p 4607182418800017408 (by omega) (by omega) hlt
            have hk0 : (k : Int) = 0 := by have := R1'.out.1; omega
            by_cases h22 : j = 1022
            · obtain ⟨a1, a2, a3⟩ := low_r q p hlt (by have := R1'.out.2; rw [h22] at this; exact this)
              have hm := fun t w => run_float_arith (P := Try.prog) w .mul t .f64 p 4841369599423283200 _ a2
              have hc := fun w => run_convert_float_int (P := Try.prog) w 56 96 .f64 .u64 _ (q : Int) (by rw [Try.underlying56]; rfl) Try.underlying96 a3
              have hor := or_pos q (by omega)
              have ht : ¬ (-1022 : Int) < (k : Int) - j := by omega
              have A1 := hid (show r = q by have := P1.out; have := R1'.out.1; subst this; omega)
              generalize F q 1074 = y at *
              clear a1 a2 a3 hlt h22 hk0
              go_wp2
              go_ret
              exact ⟨by rw [A1.out]; rfl, rfl⟩
            · obtain ⟨p', b1, b2, b3⟩ := dbl_r p hlt
              have hm := fun t w => run_float_arith (P := Try.prog) w .mul t .f64 p 4611686018427387904 _ b1
              have ht : (-1022 : Int) < (k : Int) - j := by omega
              have B2 := hid b2
              have B3 := hid b3
              have H22 := hid h22
              clear b1 b2 b3 hlt h22 hk0
              go_wp2
              go_roundw
              case rel => exact ⟨p', j + 1, rfl, by go_num, hid (.inl ⟨R1'.out.1, by rw [B2.out, R1'.out.2, Nat.pow_succ, Nat.mul_assoc]⟩), B3, hid (by have := R3.out; have := H22.out; omega), by first | trivial | rfl⟩
              case measure => simp [intOf]; omega
          · obtain ⟨f, c1, c2, c3, c4, c5⟩ := top_r r k j p (by omega) R2.out R3.out (by
              rcases R1.out with h | h
              · refine .inl ⟨h.1, ?_⟩
                have := P1.out
                rw [h.1, Nat.zero_mul, Nat.add_zero] at this
                rw [this]
                exact h.2
              · exact .inr ⟨h.1, by rw [h.2.1]; exact P1.out⟩)
            have oo : FloatKind.f64.format.order p 4607182418800017408 = some .gt ∨ FloatKind.f64.format.order p 4607182418800017408 = some .eq := by
              have := R2.out
              by_cases h : p = 4607182418800017408
              · exact .inr (by rw [h]; exact oeq _ (by omega))
              · exact .inl (ogt _ _ (by omega) (by omega) (by omega))
            have hs := fun t w => run_float_arith (P := Try.prog) w .sub t .f64 p 4607182418800017408 _ c3
            have hm := fun t w => run_float_arith (P := Try.prog) w .mul t .f64 _ 4841369599423283200 _ c4
            have hc := fun w => run_convert_float_int (P := Try.prog) w 56 96 .f64 .u64 _ (f : Int) (by rw [Try.underlying56]; rfl) Try.underlying96 c5
            have hk0 : (0 : Int) ≤ (k : Int) := by omega
            have hj0 : (0 : Int) ≤ (j : Int) := by omega
            have C1 := hid c1
            have C2 := hid c2
            generalize F f 1022 = y at *
            generalize F f 1074 = y' at *
            clear c1 c2 c3 c4 c5 hlt
            rcases oo with oo | oo
            all_goals
              go_wp2
              go_ret
              exact ⟨by rw [← top_pos r k j f R3.out P3.out C1.out C2.out]; rfl, rfl⟩

set_option maxRecDepth 100000 in
set_option maxHeartbeats 1600000 in
theorem spec_FloatBits_neg (r : Nat) (h0 : 0 < r) (h1 : r < 9218868437227405312) (w : World) :
    Calls Try.prog 88 #[.float .f64 (9223372036854775808 + r)] w fun e w' => e = .returned (.int .u64 ((9223372036854775808 + r : Nat) : Int)) ∧ w' = w := by
  have o1 : FloatKind.f64.format.order (9223372036854775808 + r) (9223372036854775808 + r) = some .eq := order_eq _ _ (by omega) (by omega) ((isN_not _).2 (by omega)) ((isN_not _).2 (by omega)) rfl
  have o2 : FloatKind.f64.format.order (9223372036854775808 + r) 0 = some .lt := order_lt _ _ (by omega) (by omega) ((isN_not _).2 (by omega)) isN_zero (by rw [kx_zero, kx, if_neg (by omega)]; omega)
  have on := neg_run (9223372036854775808 + r) r (neg_bits r (by omega))
  have o3 := ogt r 0 (by omega) (by omega) h0
  have o4 : FloatKind.f64.format.order r 9218868437227405311 = some .lt ∨ FloatKind.f64.format.order r 9218868437227405311 = some .eq := by
    by_cases h : r = 9218868437227405311
    · exact .inr (by rw [h]; exact oeq _ (by omega))
    · exact .inl (olt _ _ (by omega) (by omega) (by omega))
  have H0 := hid h0
  have H1 := hid h1
  clear h0 h1
  rcases o4 with o4 | o4
  all_goals
    go_enter Try.func88, Try.ntmps88
    go_wp2
    clear o1 o2 o3 o4 on
    go_loopw [4, 5] (fun a e wr => ∃ q k : Nat, a = .float .f64 q ∧ e = .int .i64 k ∧ Hid (r = q + k * 4503599627370496) ∧ Hid (k = 0 ∨ 4607182418800017408 ≤ q) ∧ Hid (k ≤ 1023) ∧ wr = w) (fun a _ _ => fl a)
    case atStart => exact ⟨r, 0, rfl, rfl, hid (by omega), hid (.inl rfl), hid (by omega), rfl⟩
    case round =>
      obtain ⟨q, k, rfl, rfl, P1, P2, P3, rfl⟩ := hrel
      have hq : q < 9218868437227405312 := by have := P1.out; have := H1.out; omega
      by_cases hge : 4611686018427387904 ≤ q
      · obtain ⟨p, hp, ep⟩ : ∃ p, floatBits .quo .f64 q 4611686018427387904 = some p ∧ Hid (q = p + 4503599627370496) := ⟨_, half_r q hge hq, hid (by omega)⟩
        have hd := fun t w => run_float_arith (P := Try.prog) w .quo t .f64 q 4611686018427387904 _ hp
        have oo : FloatKind.f64.format.order q 4611686018427387904 = some .gt ∨ FloatKind.f64.format.order q 4611686018427387904 = some .eq := by
          by_cases h : q = 4611686018427387904
          · exact .inr (by rw [h]; exact oeq _ (by omega))
          · exact .inl (ogt _ _ (by omega) (by omega) (by omega))
        have Q1 := hid hge
        have Q2 := hid hq
        have hk : (k : Int) ≤ 1023 := by have := P3.out; omega
        clear hge hq hp
        rcases oo with oo | oo
        all_goals
          go_wp2
          go_roundw
          case rel => exact ⟨p, k + 1, rfl, by go_num, hid (by have := P1.out; have := ep.out; omega), hid (.inr (by have := Q1.out; have := ep.out; omega)), hid (by have := P1.out; have := P3.out; have := Q1.out; have := H1.out; omega), by first | trivial | rfl⟩
          case measure => have := ep.out; simp only [fl]; omega
      · have oo := olt q 4611686018427387904 (by omega) (by omega) (by omega)
        have Q1 := hid hge
        have Q2 := hid hq
        have hk : (k : Int) ≤ 1023 := by have := P3.out; omega
        clear hge hq
        go_wp2
        clear oo
        go_loopw [4, 5] (fun a e wr' => ∃ p j : Nat, a = .float .f64 p ∧ e = .int .i64 ((k : Int) - j) ∧ Hid ((k = 0 ∧ wval p = wval q * 2 ^ j) ∨ (j = 0 ∧ p = q ∧ 4607182418800017408 ≤ q)) ∧ Hid (p < 4611686018427387904) ∧ Hid (j ≤ 1022) ∧ wr' = wr) (fun _ e _ => (intOf e + 1022).toNat)
        case atStart => exact ⟨q, 0, rfl, by go_num, hid (by
          rcases P2.out with h | h
          · exact .inl ⟨h, by rw [Nat.pow_zero, Nat.mul_one]⟩
          · exact .inr ⟨rfl, rfl, h⟩), hid (by have := Q1.out; omega), hid (by omega), rfl⟩
        case round =>
          obtain ⟨p, j, rfl, rfl, R1, R2, R3, rfl⟩ := hrel
          have hj : (j : Int) ≤ 1022 := by have := R3.out; omega
          by_cases hlt : p < 4607182418800017408
          · have R1' : Hid (k = 0 ∧ wval p = wval q * 2 ^ j) := by
              rcases R1.out with h | h
              · exact h
              · exact absurd h.2.2 (by have := h.2.1; omega)
            have ol := olt p 4607182418800017408 (by omega) (by omega) hlt
            have hk0 : (k : Int) = 0 := by have := R1'.out.1; omega
            by_cases h22 : j = 1022
            · obtain ⟨a1, a2, a3⟩ := low_r q p hlt (by have := R1'.out.2; rw [h22] at this; exact this)
              have hm := fun t w => run_float_arith (P := Try.prog) w .mul t .f64 p 4841369599423283200 _ a2
              have hc := fun w => run_convert_float_int (P := Try.prog) w 56 96 .f64 .u64 _ (q : Int) (by rw [Try.underlying56]; rfl) Try.underlying96 a3
              have hor := or_neg q (by omega)
              have ht : ¬ (-1022 : Int) < (k : Int) - j := by omega
              have A1 := hid (show r = q by have := P1.out; have := R1'.out.1; subst this; omega)
              generalize F q 1074 = y at *
              clear a1 a2 a3 hlt h22 hk0
              go_wp2
              go_ret
              exact ⟨by rw [A1.out]; rfl, rfl⟩
            · obtain ⟨p', b1, b2, b3⟩ := dbl_r p hlt
              have hm := fun t w => run_float_arith (P := Try.prog) w .mul t .f64 p 4611686018427387904 _ b1
              have ht : (-1022 : Int) < (k : Int) - j := by omega
              have B2 := hid b2
              have B3 := hid b3
              have H22 := hid h22
              clear b1 b2 b3 hlt h22 hk0
              go_wp2
              go_roundw
              case rel => exact ⟨p', j + 1, rfl, by go_num, hid (.inl ⟨R1'.out.1, by rw [B2.out, R1'.out.2, Nat.pow_succ, Nat.mul_assoc]⟩), B3, hid (by have := R3.out; have := H22.out; omega), by first | trivial | rfl⟩
              case measure => simp [intOf]; omega
          · obtain ⟨f, c1, c2, c3, c4, c5⟩ := top_r r k j p (by omega) R2.out R3.out (by
              rcases R1.out with h | h
              · refine .inl ⟨h.1, ?_⟩
                have := P1.out
                rw [h.1, Nat.zero_mul, Nat.add_zero] at this
                rw [this]
                exact h.2
              · exact .inr ⟨h.1, by rw [h.2.1]; exact P1.out⟩)
            have oo : FloatKind.f64.format.order p 4607182418800017408 = some .gt ∨ FloatKind.f64.format.order p 4607182418800017408 = some .eq := by
              have := R2.out
              by_cases h : p = 4607182418800017408
              · exact .inr (by rw [h]; exact oeq _ (by omega))
              · exact .inl (ogt _ _ (by omega) (by omega) (by omega))
            have hs := fun t w => run_float_arith (P := Try.prog) w .sub t .f64 p 4607182418800017408 _ c3
            have hm := fun t w => run_float_arith (P := Try.prog) w .mul t .f64 _ 4841369599423283200 _ c4
            have hc := fun w => run_convert_float_int (P := Try.prog) w 56 96 .f64 .u64 _ (f : Int) (by rw [Try.underlying56]; rfl) Try.underlying96 c5
            have hk0 : (0 : Int) ≤ (k : Int) := by omega
            have hj0 : (0 : Int) ≤ (j : Int) := by omega
            have C1 := hid c1
            have C2 := hid c2
            generalize F f 1022 = y at *
            generalize F f 1074 = y' at *
            clear c1 c2 c3 c4 c5 hlt
            rcases oo with oo | oo
            all_goals
              go_wp2
              go_ret
              exact ⟨by rw [← top_neg r k j f R3.out P3.out C1.out C2.out]; rfl, rfl⟩

/-- Both noughts, both infinities, NaN. -/
theorem spec_FloatBits_rest (x : Nat) (w : World) (hx : x = 0 ∨ x = 9223372036854775808 ∨ x = 9218868437227405312 ∨ x = 18442240474082181120) :
    Calls Try.prog 88 #[.float .f64 x] w fun e w' => e = .returned (.int .u64 (x : Int)) ∧ w' = w := by
  have d1 := fun t w => run_float_arith (P := Try.prog) w .quo t .f64 4607182418800017408 0 9218868437227405312 (by decide)
  have d2 := fun t w => run_float_arith (P := Try.prog) w .quo t .f64 4607182418800017408 9223372036854775808 18442240474082181120 (by decide)
  have o1 : FloatKind.f64.format.order 0 0 = some .eq := by decide
  have o2 : FloatKind.f64.format.order 9223372036854775808 0 = some .eq := by decide
  have o3 : FloatKind.f64.format.order 9218868437227405312 0 = some .gt := by decide
  have o4 : FloatKind.f64.format.order 18442240474082181120 0 = some .lt := by decide
  have o5 : FloatKind.f64.format.order 9223372036854775808 9223372036854775808 = some .eq := by decide
  have o6 : FloatKind.f64.format.order 9218868437227405312 9218868437227405312 = some .eq := by decide
  have o7 : FloatKind.f64.format.order 18442240474082181120 18442240474082181120 = some .eq := by decide
  have o8 : FloatKind.f64.format.order 9218868437227405312 9218868437227405311 = some .gt := by decide
  have n1 := neg_run 9223372036854775808 0 (by decide)
  have n2 := neg_run 18442240474082181120 9218868437227405312 (by decide)
  have b1 : bits .or .u64 0 9218868437227405312 = 9218868437227405312 := or_pos 9218868437227405312 (by omega)
  have b2 : bits .or .u64 9223372036854775808 9218868437227405312 = 18442240474082181120 := or_neg 9218868437227405312 (by omega)
  rcases hx with rfl | rfl | rfl | rfl
  all_goals
    go_enter Try.func88, Try.ntmps88
    go_wp2
    go_ret
    exact ⟨rfl, rfl⟩

theorem spec_FloatBits_nan (x : Nat) (hx : x < 18446744073709551616) (hn : isN x = true) (w : World) :
    Calls Try.prog 88 #[.float .f64 x] w fun e w' => e = .returned (.int .u64 9221120237041090560) ∧ w' = w := by
  have o := order_l x x hx hn
  clear hx hn
  go_enter Try.func88, Try.ntmps88
  go_wp2
  go_ret
  exact ⟨rfl, rfl⟩

theorem spec_FloatBits (x : Nat) (hx : x < 18446744073709551616) (w : World) :
    Calls Try.prog 88 #[.float .f64 x] w fun e w' => e = .returned (.int .u64 (fbits x : Int)) ∧ w' = w := by
  by_cases hn : isN x = true
  · rw [fbits, if_pos hn]
    exact spec_FloatBits_nan x hx hn w
  · have hn' : isN x = false := by simpa using hn
    rw [isN_not] at hn'
    rw [fbits, if_neg hn]
    by_cases h4 : x = 0 ∨ x = 9223372036854775808 ∨ x = 9218868437227405312 ∨ x = 18442240474082181120
    · exact spec_FloatBits_rest x w h4
    · by_cases hp : x < 9223372036854775808
      · exact spec_FloatBits_pos x (by omega) (by omega) w
      · obtain ⟨r, rfl⟩ : ∃ r, x = 9223372036854775808 + r := ⟨x - 9223372036854775808, by omega⟩
        exact spec_FloatBits_neg r (by omega) (by omega) w
end Go.Proofs.Ytdfieopdbpklnaa
/- The contract of the specification's FloatOf: the float with the bits, or some NaN where they are a NaN's; memory stays as it was. For every argument. -/


namespace Go.Proofs.Ytdfieopdbpklnaa
open Go.RowKit Ieee

theorem neg_bits' (r : Nat) (h : r < 9223372036854775808) : Op.negFloat .f64 r = 9223372036854775808 + r := by
  unfold Op.negFloat
  rw [show 2 ^ (FloatKind.f64.format.exponentBits + FloatKind.f64.format.fractionBits) = 2 ^ 63 from rfl]
  have e : 9223372036854775808 + r = 2 ^ 63 ||| r := (nat_join 63 _ _ (by decide) (by omega)).symm
  rw [e]
  apply Nat.eq_of_testBit_eq
  intro i
  rw [Nat.testBit_xor, Nat.testBit_or, Nat.testBit_two_pow]
  by_cases hi : 63 = i
  · subst hi
    rw [Nat.testBit_lt_two_pow h]
    rfl
  · simp [hi]

/-- A NaN that an operation hands back. -/
theorem nan_run (op : BinOp) (t : TypeId) (x y : Nat) (ho : op = .add ∨ op = .sub ∨ op = .mul ∨ op = .quo) (h : floatBits op .f64 x y = none) (w : World) : ∃ n, (binOp op t (.float .f64 x) (.float .f64 y)).run Try.prog w = .ok (.float .f64 n) w.drew ∧ isN n = true ∧ n < 18446744073709551616 := by
  refine ⟨Question.cut (.nanBits .f64 x y) (w.tape w.drawn (.nanBits .f64 x y)), ?_, ?_, ?_⟩
  · unfold floatBits at h
    rcases ho with rfl | rfl | rfl | rfl <;> simp only at h <;> simp [binOp, Op.floatArith, h, choose, Sem.run, Question.forced]
  · rw [isN_iff]
    simp only [Question.cut]
    have hu := Nat.mod_lt (w.tape w.drawn (.nanBits .f64 x y) / 2) (show 0 < 2 ^ 52 - 1 by decide)
    generalize w.tape w.drawn (.nanBits .f64 x y) / 2 % (2 ^ 52 - 1) = u at *
    rcases Nat.mod_two_eq_zero_or_one (w.tape w.drawn (.nanBits .f64 x y)) with h | h <;> rw [h] <;> omega
  · simp only [Question.cut]
    have hu := Nat.mod_lt (w.tape w.drawn (.nanBits .f64 x y) / 2) (show 0 < 2 ^ 52 - 1 by decide)
    generalize w.tape w.drawn (.nanBits .f64 x y) / 2 % (2 ^ 52 - 1) = u at *
    rcases Nat.mod_two_eq_zero_or_one (w.tape w.drawn (.nanBits .f64 x y)) with h | h <;> rw [h] <;> omega
end Go.Proofs.Ytdfieopdbpklnaa
/- The contract of the specification's FloatOf: the float with the bits, or some NaN where they are a NaN's; memory stays as it was. For every argument. -/

namespace Go.Proofs.Ytdfieopdbpklnaa
open Go.RowKit Ieee

/-- The fields of 64 bits. -/
structure Fields (b e f : Nat) (s : Bool) : Prop where
  he : e < 2048
  hf : f < 4503599627370496
  hb : b = (if s then 9223372036854775808 else 0) + (e * 4503599627370496 + f)
  a1 : bits .and .u64 ((b : Int) / 4503599627370496) 2047 = (e : Int)
  a2 : bits .and .u64 (b : Int) 4503599627370495 = (f : Int)
  a3 : ((b : Int) / 9223372036854775808 == 1) = s

theorem fields (b : Nat) (h : b < 18446744073709551616) : ∃ e f s, Fields b e f s := by
  refine ⟨b / 4503599627370496 % 2048, b % 4503599627370496, decide (9223372036854775808 ≤ b), by omega, by omega, ?_, ?_, ?_, ?_⟩
  · by_cases hs : 9223372036854775808 ≤ b
    · rw [decide_eq_true hs, if_pos rfl]; omega
    · rw [decide_eq_false hs, if_neg (by simp)]; omega
  · have := u64_and_nat (b / 4503599627370496) 2047 (by omega) (by omega)
    rw [show (2047 : Nat) = 2 ^ 11 - 1 from rfl, Nat.and_two_pow_sub_one_eq_mod] at this
    exact this
  · have := u64_and_nat b 4503599627370495 (by omega) (by omega)
    rw [show (4503599627370495 : Nat) = 2 ^ 52 - 1 from rfl, Nat.and_two_pow_sub_one_eq_mod] at this
    exact this
  · by_cases hs : 9223372036854775808 ≤ b
    · rw [decide_eq_true hs]
      exact beq_iff_eq.2 (by omega)
    · rw [decide_eq_false hs]
      exact beq_eq_false_iff_ne.2 (by omega)

theorem ofint_run (f : Nat) (hf : f < 4503599627370496) (w : World) : (convert 96 56 (.int .u64 (f : Int))).run Try.prog w = .ok (.float .f64 (F f 1074)) w := by
  rw [run_convert_int_float w 96 56 .u64 .f64 (f : Int) (by rw [Try.underlying96]; rfl) Try.underlying56, of_F f (by omega)]

set_option maxHeartbeats 1600000 in
theorem spec_FloatOf_nan (b f : Nat) (s : Bool) (H : Fields b 2047 f s) (h0 : f ≠ 0) (w : World) :
    Calls Try.prog 96 #[.int .u64 b] w fun e w' => ∃ y : Nat, e = .returned (.float .f64 y) ∧ isN y = true ∧ y < 18446744073709551616 ∧ Still w w' := by
  have a1 := H.a1
  have a2 := H.a2
  have hof := ofint_run f H.hf
  have hd := fun t w => run_float_arith (P := Try.prog) w .quo t .f64 _ 4841369599423283200 _ (cut_F f 1022 (by have := H.hf; omega) (by omega))
  obtain ⟨n, hn, n1, n2⟩ := nan_run .quo 56 0 0 (by simp) (by decide) w
  have hne : ((f : Int) != 0) = true := by simp [h0]
  generalize F f 1074 = y1 at *
  generalize F f 1022 = y2 at *
  clear H h0
  go_enter Try.func96, Try.ntmps96
  go_wp2
  go_ret
  exact ⟨n, rfl, n1, n2, Still.drew w⟩

set_option maxHeartbeats 1600000 in
theorem spec_FloatOf_inf (b : Nat) (s : Bool) (H : Fields b 2047 0 s) (w : World) :
    Calls Try.prog 96 #[.int .u64 b] w fun e w' => e = .returned (.float .f64 b) ∧ w' = w := by
  have a1 : bits .and .u64 ((b : Int) / 4503599627370496) 2047 = 2047 := H.a1
  have a2 : bits .and .u64 (b : Int) 4503599627370495 = 0 := H.a2
  have a3 := H.a3
  have hb := hid H.hb
  have hof : ∀ w, (convert 96 56 (.int .u64 0)).run Try.prog w = .ok (.float .f64 (F 0 1074)) w := ofint_run 0 (by omega)
  have hd := fun t w => run_float_arith (P := Try.prog) w .quo t .f64 _ 4841369599423283200 _ (cut_F 0 1022 (by omega) (by omega))
  have d1 := fun t w => run_float_arith (P := Try.prog) w .quo t .f64 4607182418800017408 0 9218868437227405312 (by decide)
  have n2 := neg_run 9218868437227405312 18442240474082181120 (by decide)
  generalize F 0 1074 = y1 at *
  generalize F 0 1022 = y2 at *
  clear H
  cases s
  · have hb' := hid (show b = 9218868437227405312 by have := hb.out; rw [if_neg (by simp)] at this; omega)
    clear hb
    go_enter Try.func96, Try.ntmps96
    go_wp2
    go_ret
    exact ⟨by rw [hb'.out]; rfl, rfl⟩
  · have hb' := hid (show b = 18442240474082181120 by have := hb.out; rw [if_pos rfl] at this; omega)
    clear hb
    go_enter Try.func96, Try.ntmps96
    go_wp2
    go_ret
    exact ⟨by rw [hb'.out]; rfl, rfl⟩

set_option maxRecDepth 100000 in
set_option maxHeartbeats 1600000 in
theorem spec_FloatOf_norm (b e f : Nat) (s : Bool) (H : Fields b e f s) (h0 : 1 ≤ e) (h1 : e ≤ 2046) (w : World) :
    Calls Try.prog 96 #[.int .u64 b] w fun e w' => e = .returned (.float .f64 b) ∧ w' = w := by
  have a1 := H.a1
  have a2 := H.a2
  have a3 := H.a3
  have hbp : Hid (s = false → b = e * 4503599627370496 + f) := fun h => by have := H.hb; rw [h, if_neg (by simp), Nat.zero_add] at this; exact this
  have hbn : Hid (s = true → b = 9223372036854775808 + (e * 4503599627370496 + f)) := fun h => by have := H.hb; rw [h, if_pos rfl] at this; exact this
  have hf := H.hf
  have hof := ofint_run f hf
  have hd := fun t w => run_float_arith (P := Try.prog) w .quo t .f64 _ 4841369599423283200 _ (cut_F f 1022 (by omega) (by omega))
  have hm := fun t w => run_float_arith (P := Try.prog) w .add t .f64 _ 4607182418800017408 _ (more_F f hf)
  have hne : ((e : Int) == 2047) = false := beq_eq_false_iff_ne.2 (by omega)
  have hne0 : ((e : Int) == 0) = false := beq_eq_false_iff_ne.2 (by omega)
  have E0 : (1 : Int) ≤ e := by omega
  have E1 : (e : Int) ≤ 2046 := by omega
  have Hfin : Hid (F (2 ^ 52 + f) (e - 1) = e * 4503599627370496 + f) := by
    have := F_norm (e - 1) f hf (by omega)
    rw [show (e - 1 + 1) * 2 ^ 52 + f = e * 4503599627370496 + f by omega] at this
    exact this
  have Hc : Hid (2 ^ 52 + f < 2 ^ 53) := hid (by omega)
  have He := hid (show e - 1 + 1 = e by omega)
  have HF := hid hf
  have H1 := hid h1
  generalize F f 1074 = y1 at *
  generalize F f 1022 = y2 at *
  generalize 2 ^ 52 + f = c at *
  generalize e - 1 = T at *
  clear H h0 h1 hf
  go_enter Try.func96, Try.ntmps96
  go_wp2
  clear hof hd hm hne hne0
  go_loopw [6, 7] (fun a k wr => ∃ j : Nat, a = .float .f64 (F c j) ∧ k = .int .i64 ((T : Int) - j) ∧ Hid (1022 ≤ j) ∧ Hid (j ≤ 2045) ∧ wr = w) (fun _ k _ => (intOf k).toNat)
  case atStart => exact ⟨1022, rfl, by have := He.out; go_num, hid (by omega), hid (by omega), rfl⟩
  case round =>
    obtain ⟨j, rfl, rfl, P1, P2, rfl⟩ := hrel
    have hT : (T : Int) ≤ 2045 := by have := He.out; have := H1.out; omega
    have hT0 : (0 : Int) ≤ T := by omega
    have hj0 : (0 : Int) ≤ j := by omega
    have hj1 : (j : Int) ≤ 2045 := by have := P2.out; omega
    by_cases hlt : (0 : Int) < (T : Int) - j
    · have hx := fun t w => run_float_arith (P := Try.prog) w .mul t .f64 _ 4611686018427387904 _ (double_F c j Hc.out (by omega))
      go_wp2
      go_roundw
      case rel => exact ⟨j + 1, rfl, by go_num, hid (by have := P1.out; omega), hid (by omega), by first | trivial | rfl⟩
      case measure => simp [intOf]; omega
    · have Q0 := hid (show T ≤ j by omega)
      go_wp2
      go_loopw [6, 7] (fun a k wr' => ∃ i : Nat, a = .float .f64 (F c i) ∧ k = .int .i64 ((T : Int) - i) ∧ Hid (T ≤ i) ∧ Hid (i ≤ 2045) ∧ wr' = wr) (fun _ k _ => (-(intOf k)).toNat)
      case atStart => exact ⟨j, rfl, rfl, Q0, P2, rfl⟩
      case round =>
        obtain ⟨i, rfl, rfl, R1, R2, rfl⟩ := hrel
        have hi0 : (0 : Int) ≤ i := by omega
        have hi1 : (i : Int) ≤ 2045 := by have := R2.out; omega
        by_cases hlt2 : (T : Int) - i < 0
        · obtain ⟨i', hi'⟩ : ∃ i', i = i' + 1 := ⟨i - 1, by omega⟩
          have Hi := hid hi'
          have hx := fun t w => run_float_arith (P := Try.prog) w .quo t .f64 (F c i) 4611686018427387904 (F c i') (by rw [hi']; exact half_F c i' Hc.out (by omega))
          clear hi'
          go_wp2
          go_roundw
          case rel => exact ⟨i', rfl, by have := Hi.out; go_num, hid (by have := Hi.out; omega), hid (by have := Hi.out; omega), by first | trivial | rfl⟩
          case measure => have := Hi.out; simp [intOf]; omega
        · have ei := hid (show i = T by have := R1.out; omega)
          have hn := neg_run (F c i) (9223372036854775808 + F c i) (neg_bits' _ (by rw [ei.out, Hfin.out]; have := HF.out; have := He.out; have := H1.out; omega))
          cases s
          · go_wp2
            go_ret
            exact ⟨by rw [show b = F c i by rw [ei.out, Hfin.out, hbp.out (by first | trivial | rfl)]]; rfl, rfl⟩
          · go_wp2
            go_ret
            exact ⟨by rw [show b = 9223372036854775808 + F c i by rw [ei.out, Hfin.out, hbn.out (by first | trivial | rfl)]]; rfl, rfl⟩
set_option maxRecDepth 100000 in
set_option maxHeartbeats 1600000 in
theorem spec_FloatOf_low (b f : Nat) (s : Bool) (H : Fields b 0 f s) (w : World) :
    Calls Try.prog 96 #[.int .u64 b] w fun e w' => e = .returned (.float .f64 b) ∧ w' = w := by
  have a1 : bits .and .u64 ((b : Int) / 4503599627370496) 2047 = 0 := H.a1
  have a2 := H.a2
  have a3 := H.a3
  have hbp : Hid (s = false → b = f) := fun h => by have := H.hb; rw [h, if_neg (by simp)] at this; omega
  have hbn : Hid (s = true → b = 9223372036854775808 + f) := fun h => by have := H.hb; rw [h, if_pos rfl] at this; omega
  have hf := H.hf
  have hof := ofint_run f hf
  have hd := fun t w => run_float_arith (P := Try.prog) w .quo t .f64 _ 4841369599423283200 _ (cut_F f 1022 (by omega) (by omega))
  have Hfin : Hid (F f 0 = f) := F_sub f hf
  have Hc : Hid (f < 2 ^ 53) := hid (by omega)
  have HF := hid hf
  obtain ⟨T, HT⟩ : ∃ T : Nat, Hid (T = 0) := ⟨0, rfl⟩
  generalize F f 1074 = y1 at *
  clear H hf
  go_enter Try.func96, Try.ntmps96
  go_wp2
  clear hof hd
  go_loopw [6, 7] (fun a k wr => ∃ j : Nat, a = .float .f64 (F f j) ∧ k = .int .i64 ((T : Int) - j) ∧ Hid (1022 ≤ j) ∧ Hid (j ≤ 2045) ∧ wr = w) (fun _ k _ => (intOf k).toNat)
  case atStart => exact ⟨1022, rfl, by have := HT.out; go_num, hid (by omega), hid (by omega), rfl⟩
  case round =>
    obtain ⟨j, rfl, rfl, P1, P2, rfl⟩ := hrel
    have hT : (T : Int) ≤ 2045 := by have := HT.out; omega
    have hT0 : (0 : Int) ≤ T := by omega
    have hj0 : (0 : Int) ≤ j := by omega
    have hj1 : (j : Int) ≤ 2045 := by have := P2.out; omega
    by_cases hlt : (0 : Int) < (T : Int) - j
    · have hx := fun t w => run_float_arith (P := Try.prog) w .mul t .f64 _ 4611686018427387904 _ (double_F f j Hc.out (by omega))
      go_wp2
      go_roundw
      case rel => exact ⟨j + 1, rfl, by go_num, hid (by have := P1.out; omega), hid (by omega), by first | trivial | rfl⟩
      case measure => simp [intOf]; omega
    · have Q0 := hid (show T ≤ j by omega)
      go_wp2
      go_loopw [6, 7] (fun a k wr' => ∃ i : Nat, a = .float .f64 (F f i) ∧ k = .int .i64 ((T : Int) - i) ∧ Hid (T ≤ i) ∧ Hid (i ≤ 2045) ∧ wr' = wr) (fun _ k _ => (-(intOf k)).toNat)
      case atStart => exact ⟨j, rfl, rfl, Q0, P2, rfl⟩
      case round =>
        obtain ⟨i, rfl, rfl, R1, R2, rfl⟩ := hrel
        have hi0 : (0 : Int) ≤ i := by omega
        have hi1 : (i : Int) ≤ 2045 := by have := R2.out; omega
        by_cases hlt2 : (T : Int) - i < 0
        · obtain ⟨i', hi'⟩ : ∃ i', i = i' + 1 := ⟨i - 1, by omega⟩
          have Hi := hid hi'
          have hx := fun t w => run_float_arith (P := Try.prog) w .quo t .f64 (F f i) 4611686018427387904 (F f i') (by rw [hi']; exact half_F f i' Hc.out (by omega))
          clear hi'
          go_wp2
          go_roundw
          case rel => exact ⟨i', rfl, by have := Hi.out; go_num, hid (by have := Hi.out; omega), hid (by have := Hi.out; omega), by first | trivial | rfl⟩
          case measure => have := Hi.out; simp [intOf]; omega
        · have ei := hid (show i = T by have := R1.out; omega)
          have hn := neg_run (F f i) (9223372036854775808 + F f i) (neg_bits' _ (by rw [ei.out, HT.out, Hfin.out]; have := HF.out; omega))
          cases s
          · go_wp2
            go_ret
            exact ⟨by rw [show b = F f i by rw [ei.out, HT.out, Hfin.out, hbp.out (by first | trivial | rfl)]]; rfl, rfl⟩
          · go_wp2
            go_ret
            exact ⟨by rw [show b = 9223372036854775808 + F f i by rw [ei.out, HT.out, Hfin.out, hbn.out (by first | trivial | rfl)]]; rfl, rfl⟩

theorem spec_FloatOf (b : Nat) (hb : b < 18446744073709551616) (w : World) :
    Calls Try.prog 96 #[.int .u64 b] w fun e w' => ∃ y : Nat, e = .returned (.float .f64 y) ∧ y < 18446744073709551616 ∧ Hid (isN b = false → y = b) ∧ Hid (isN b = isN y) ∧ Still w w' := by
  obtain ⟨e, f, s, H⟩ := fields b hb
  have h1 := H.he
  have h2 := H.hf
  have h3 := H.hb
  have hm : b % 9223372036854775808 = e * 4503599627370496 + f := by
    cases s
    · rw [if_neg (by simp)] at h3; omega
    · rw [if_pos rfl] at h3; omega
  have keep : ∀ w', w' = w → Still w w' := fun w' h => by subst h; exact Still.refl _
  by_cases he : e = 2047
  · subst he
    by_cases hf : f = 0
    · subst hf
      refine (spec_FloatOf_inf b s H w).mono ?_
      rintro x w1 ⟨rfl, e1⟩
      exact ⟨b, rfl, hb, hid (fun _ => rfl), hid rfl, keep w1 e1⟩
    · refine (spec_FloatOf_nan b f s H hf w).mono ?_
      rintro x w1 ⟨y, rfl, n1, n2, st⟩
      have hN : isN b = true := (isN_iff b).2 (by omega)
      exact ⟨y, rfl, n2, hid (fun h => by rw [hN] at h; cases h), hid (by rw [hN, n1]), st⟩
  · by_cases h0 : e = 0
    · subst h0
      refine (spec_FloatOf_low b f s H w).mono ?_
      rintro x w1 ⟨rfl, e1⟩
      exact ⟨b, rfl, hb, hid (fun _ => rfl), hid rfl, keep w1 e1⟩
    · refine (spec_FloatOf_norm b e f s H (by omega) (by omega) w).mono ?_
      rintro x w1 ⟨rfl, e1⟩
      exact ⟨b, rfl, hb, hid (fun _ => rfl), hid rfl, keep w1 e1⟩
end Go.Proofs.Ytdfieopdbpklnaa
/- The contracts of the draws of floats: whatever the code, some float. For codes of at most 2^21 bytes. -/


namespace Go.Proofs.Ytdfieopdbpklnaa
open Go.RowKit

theorem u64_rng (n : Int) : 0 ≤ IntKind.u64.wrap n ∧ IntKind.u64.wrap n < 18446744073709551616 := by
  have e : IntKind.u64.wrap n = n % 18446744073709551616 := by simp [IntKind.wrap, IntKind.bits, IntKind.signed]
  rw [e]; omega
theorem bits_rng (op : BinOp) (a b : Int) (h : op = .or ∨ op = .and ∨ op = .xor) : 0 ≤ bits op .u64 a b ∧ bits op .u64 a b < 18446744073709551616 := by
  rcases h with rfl | rfl | rfl <;> exact u64_rng _

theorem ofInt_lt (z : Int) : floatOfInt .f64 z < 18446744073709551616 := by
  have := floatOfInt_wf .f64 z
  simpa [Lit.wf] using this

set_option maxRecDepth 100000 in
set_option maxHeartbeats 3200000 in
theorem l2bits {w : World} {g : Nat} {ad : Option Addr} {n cap : Nat} {zs : List Int} (c : Cur w g ad n cap zs) (hn : n ≤ 2097152) :
    Calls Try.prog 97 #[.pointer (some ⟨g, 0, none⟩)] w fun e w' => ∃ x : Int, e = .returned (.int .u64 x) ∧ 0 ≤ x ∧ x < 18446744073709551616 ∧ Cur w' g ad n cap zs ∧ w.grownBy w' (some g) := by
  go_enter Try.func97, Try.ntmps97
  go_wp2_with fail
  go_loopw [3, 4] (fun s i wr => ∃ (k : Nat) (y : Int), k ≤ 8 ∧ i = .int .i64 k ∧ s = .int .u64 y ∧ 0 ≤ y ∧ y < 18446744073709551616 ∧ Cur wr g ad n cap zs ∧ w.grownBy wr (some g)) (fun _ i _ => 8 - (intOf i).toNat)
  case atStart => exact ⟨0, 0, by omega, rfl, rfl, by omega, by omega, c, grown_refl _ _⟩
  case round =>
    obtain ⟨k, y, hk, rfl, rfl, hy0, hy1, cr, gr⟩ := hrel
    by_cases hlt : k < 8
    · go_wp2_with fail
      refine (l1Byte cr hn).mono ?_
      rintro e w2 ⟨b, rfl, hb0, hb1, c2, g2⟩
      go_wp2_with fail
      go_roundw
      case rel => exact ⟨k + 1, _, by omega, by go_num, rfl, (u64_rng _).1, (u64_rng _).2, c2, grown_trans gr g2⟩
      case measure => simp [intOf]; omega
    · go_wp2_with fail
      refine (l1Below cr hn 9 (by omega) (by omega)).mono ?_
      rintro e w2 ⟨t, rfl, ht0, ht1, c2, g2⟩
      have G2 := grown_trans gr g2
      clear cr gr g2 c hlt
      by_cases t0 : t = 0
      · subst t0
        go_wp2_with fail
        refine (l1Below c2 hn 2 (by omega) (by omega)).mono ?_
        rintro e w3 ⟨p, rfl, hp0, hp1, c3, g3⟩
        go_wp2_with fail
        refine (l1Below c3 hn 3 (by omega) (by omega)).mono ?_
        rintro e w4 ⟨q, rfl, hq0, hq1, c4, g4⟩
        go_wp2_with fail
        go_ret
        exact ⟨_, rfl, (bits_rng .or _ _ (by simp)).1, (bits_rng .or _ _ (by simp)).2, c4, grown_trans (grown_trans G2 g3) g4⟩
      by_cases t1 : t = 1
      · subst t1
        go_wp2_with fail
        refine (l1Below c2 hn 2 (by omega) (by omega)).mono ?_
        rintro e w3 ⟨p, rfl, hp0, hp1, c3, g3⟩
        go_wp2_with fail
        refine (l1Below c3 hn 3 (by omega) (by omega)).mono ?_
        rintro e w4 ⟨q, rfl, hq0, hq1, c4, g4⟩
        go_wp2_with fail
        go_ret
        exact ⟨_, rfl, (bits_rng .or _ _ (by simp)).1, (bits_rng .or _ _ (by simp)).2, c4, grown_trans (grown_trans G2 g3) g4⟩
      by_cases t2 : t = 2
      · subst t2
        go_wp2_with fail
        refine (l1Below c2 hn 2 (by omega) (by omega)).mono ?_
        rintro e w3 ⟨p, rfl, hp0, hp1, c3, g3⟩
        go_wp2_with fail
        go_ret
        exact ⟨_, rfl, (bits_rng .or _ _ (by simp)).1, (bits_rng .or _ _ (by simp)).2, c3, grown_trans G2 g3⟩
      by_cases t3 : t = 3
      · subst t3
        go_wp2_with fail
        refine (l1Below c2 hn 2 (by omega) (by omega)).mono ?_
        rintro e w3 ⟨p, rfl, hp0, hp1, c3, g3⟩
        go_wp2_with fail
        refine (l1Below c3 hn 3 (by omega) (by omega)).mono ?_
        rintro e w4 ⟨q, rfl, hq0, hq1, c4, g4⟩
        go_wp2_with fail
        go_ret
        exact ⟨_, rfl, (bits_rng .or _ _ (by simp)).1, (bits_rng .or _ _ (by simp)).2, c4, grown_trans (grown_trans G2 g3) g4⟩
      by_cases t4 : t = 4
      · subst t4
        go_wp2_with fail
        refine (l1Below c2 hn 12 (by omega) (by omega)).mono ?_
        rintro e w3 ⟨p, rfl, hp0, hp1, c3, g3⟩
        go_wp2_with fail
        refine (l1Below c3 hn 16 (by omega) (by omega)).mono ?_
        rintro e w4 ⟨q, rfl, hq0, hq1, c4, g4⟩
        go_wp2_with fail
        go_ret
        exact ⟨_, rfl, (bits_rng .or _ _ (by simp)).1, (bits_rng .or _ _ (by simp)).2, c4, grown_trans (grown_trans G2 g3) g4⟩
      by_cases t5 : t = 5
      · subst t5
        go_wp2_with fail
        refine (l1Below c2 hn 21 (by omega) (by omega)).mono ?_
        rintro e w3 ⟨p, rfl, hp0, hp1, c3, g3⟩
        have hwf := ofInt_lt (p - 10)
        go_wp2_with fail
        refine (spec_FloatBits _ hwf _).mono ?_
        rintro e w4 ⟨rfl, rfl⟩
        have hb := fbits_lt _ hwf
        go_wp2_with fail
        go_ret
        exact ⟨_, rfl, by omega, by omega, c3, grown_trans G2 g3⟩
      have n0 : (t == 0) = false := beq_eq_false_iff_ne.2 t0
      have n1 : (t == 1) = false := beq_eq_false_iff_ne.2 t1
      have n2 : (t == 2) = false := beq_eq_false_iff_ne.2 t2
      have n3 : (t == 3) = false := beq_eq_false_iff_ne.2 t3
      have n4 : (t == 4) = false := beq_eq_false_iff_ne.2 t4
      have n5 : (t == 5) = false := beq_eq_false_iff_ne.2 t5
      clear t0 t1 t2 t3 t4 t5
      go_wp2_with fail
      go_ret
      exact ⟨_, rfl, hy0, hy1, c2, G2⟩

theorem l2float {w : World} {g : Nat} {ad : Option Addr} {n cap : Nat} {zs : List Int} (c : Cur w g ad n cap zs) (hn : n ≤ 2097152) :
    Calls Try.prog 90 #[.pointer (some ⟨g, 0, none⟩)] w fun e w' => ∃ y : Nat, e = .returned (.float .f64 y) ∧ y < 18446744073709551616 ∧ Cur w' g ad n cap zs ∧ w.grownBy w' (some g) := by
  go_enter Try.func90, Try.ntmps90
  go_wp2_with fail
  refine (l2bits c hn).mono ?_
  rintro e w1 ⟨x, rfl, hx0, hx1, c1, g1⟩
  obtain ⟨b, rfl⟩ := Int.eq_ofNat_of_zero_le hx0
  have hb : b < 18446744073709551616 := by omega
  clear hx0 hx1
  go_wp2_with fail
  refine (spec_FloatOf b hb _).mono ?_
  rintro e w2 ⟨y, rfl, hy, _, _, st⟩
  go_wp2_with fail
  go_ret
  exact ⟨y, rfl, hy, c1.still st, grown_still g1 st⟩

theorem fbits_top0 (x : Nat) (h : x < 18446744073709551616) : fbits x ≤ 18442240474082181120 := by
  unfold fbits
  split
  · omega
  · rename_i hn
    have := (isN_not x).1 (by simpa using hn)
    omega

end Go.Proofs.Ytdfieopdbpklnaa
