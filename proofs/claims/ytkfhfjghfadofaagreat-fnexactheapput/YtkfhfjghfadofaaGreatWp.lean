/- The contracts of the program's PagePut and PageClear. Conditions: lists of at most 2^47. -/
import Derived.Test.YtkfhfjghfadofaaGreatMgc
import Derived.Test.YtkfhfjghfadofaaGreatPk
namespace Go.Proofs.YtkfhfjghfadofaaGreat
open Go.RowKit
set_option maxRecDepth 100000
set_option maxHeartbeats 6400000 in
theorem impl_PagePut (L : Int) {a : Option Addr} {n : Nat} (c : Nat) {ss : List (List Int)} (slot : Int) {ad : Option Addr} {nd : Nat} (cd : Nat) {zs : List Int} (lsn : Int) {w : World} (h : ReadsS w a ss) (hl : ss.length = n) (hn : n ≤ 140737488355328) (hd : Reads w ad nd zs) (hnil : ad = none → cd = 0)
 {RL : Int} {RS : List (List Int)} {ok : Bool} {m : Nat} (hR : putP L ss slot zs lsn = (RL, RS)) (hk : putOk L ss slot zs lsn = ok) (hm : RS.length = m) :
 Calls Tryz.prog 106 #[.agg #[.int .i64 L, .slice a n c], .int .i64 slot, .slice ad nd cd, .int .i64 lsn] w fun e w' => ∃ a' c', e = .returned (.tuple #[.agg #[.int .i64 RL, .slice a' m c'], .bool ok]) ∧ OwnP w' w.heap.size w'.heap.size (.slice a' m c') RS ∧ Below w.heap.size w w' := by
 have HR := hid hR
 have HK := hid hk
 have HM := hid hm
 have HNI := hid hnil
 have HDL := hid hd.len
 clear hR hk hm hnil
 have HB := hid (two w (.cells #[.int .i64 L, .slice a n c] 87) (.cells #[.int .i64 0, .slice none 0 0] 87))
 have HX := hid (show ArgP _ _ _ _ _ _ _ from (ArgP.new L n c h 87 w.heap.size rfl).alloc (.cells #[.int .i64 0, .slice none 0 0] 87))
 have R1 := hid (heap_new2 w (.cells #[.int .i64 L, .slice a n c] 87) (.cells #[.int .i64 0, .slice none 0 0] 87))
 have HSZ := hid (show w.heap.size + 2 ≤ ((w.alloc (.cells #[.int .i64 L, .slice a n c] 87)).alloc (.cells #[.int .i64 0, .slice none 0 0] 87)).heap.size by simp)
 have HD0 := hid hd
 clear h hd
 go_enter Tryz.func106, Tryz.ntmps106
 go_wp2_with fail
 generalize (w.alloc (.cells #[.int .i64 L, .slice a n c] 87)).alloc (.cells #[.int .i64 0, .slice none 0 0] 87) = W at *
 refine (impl_isPage L c HX.out.reads hl hn).mono ?_
 rintro e w1 ⟨rfl, b⟩
 replace HX := hid (HX.out.below b (Nat.le_refl _))
 replace R1 := hid ((b.block _ (by have := HSZ.out; omega)).trans R1.out)
 replace HB := hid (HB.out.trans (b.mono HB.out.size))
 replace HSZ := hid (Nat.le_trans HSZ.out b.size)
 clear b
 by_cases h1 : okP L ss = false
 · rw [h1]
   have HE := hid h1
   clear h1
   have HO := hid (show putOk L ss slot zs lsn = false from putOk_1 HE.out)
   have T1 := heap_setCell_same w1 (w.heap.size + 1) 0 _ 87 (.int .i64 0) R1.out
   have T2 := hid (heap_setCell_same _ (w.heap.size + 1) 1 _ 87 (.slice none 0 0) T1)
   have B6 := hid ((HB.out.setCell (p := ⟨w.heap.size + 1, 0, none⟩) (by simp) (.int .i64 0)).setCell (p := ⟨w.heap.size + 1, 1, none⟩) (by simp) (.slice none 0 0))
   have r0 : w1.cell? ⟨w.heap.size + 1, 0, none⟩ = some (.int .i64 0) := cell_of_row _ _ 0 _ _ _ R1.out
   have r1 : w1.cell? ⟨w.heap.size + 1, 1, none⟩ = some (.slice none 0 0) := cell_of_row _ _ 1 _ _ _ R1.out
   have rf0 : w1.frozen? ⟨w.heap.size + 1, 0, none⟩ = false := frozen_of_row _ _ _ _ _ R1.out
   have rf1 : w1.frozen? ⟨w.heap.size + 1, 1, none⟩ = false := frozen_of_row _ _ _ _ _ R1.out
   clear T1
   go_wp2_with fail
   obtain ⟨rfl, rfl⟩ : 0 = RL ∧ [] = RS := Prod.mk.inj ((putP_no HO.out).symm.trans HR.out)
   obtain rfl : false = ok := HO.out.symm.trans HK.out
   obtain rfl : 0 = m := HM.out
   exact bodyPost_ret (results_cell_tmp7 Tryz.results106 _ _ (w.heap.size + 1) 87 _ (0, 0) _ rfl T2.out Tryz.underlying87 rfl size_pg) rfl ⟨none, 0, rfl, OwnP.nil _ _ _, B6.out⟩
 rw [Bool.not_eq_false] at h1
 rw [h1]
 have HE := hid h1
 clear h1
 go_wp2_with fail
 refine (impl_inP slot 0 15 _).mono ?_
 rintro e w2 ⟨rfl, e1⟩
 subst w2
 by_cases hs : ¬ (0 ≤ slot ∧ slot ≤ 15)
 · rw [decide_eq_false hs]
   have HO := hid (show putOk L ss slot zs lsn = false from putOk_2 hs)
   have T1 := heap_setCell_same w1 (w.heap.size + 1) 0 _ 87 (.int .i64 0) R1.out
   have T2 := hid (heap_setCell_same _ (w.heap.size + 1) 1 _ 87 (.slice none 0 0) T1)
   have B6 := hid ((HB.out.setCell (p := ⟨w.heap.size + 1, 0, none⟩) (by simp) (.int .i64 0)).setCell (p := ⟨w.heap.size + 1, 1, none⟩) (by simp) (.slice none 0 0))
   have r0 : w1.cell? ⟨w.heap.size + 1, 0, none⟩ = some (.int .i64 0) := cell_of_row _ _ 0 _ _ _ R1.out
   have r1 : w1.cell? ⟨w.heap.size + 1, 1, none⟩ = some (.slice none 0 0) := cell_of_row _ _ 1 _ _ _ R1.out
   have rf0 : w1.frozen? ⟨w.heap.size + 1, 0, none⟩ = false := frozen_of_row _ _ _ _ _ R1.out
   have rf1 : w1.frozen? ⟨w.heap.size + 1, 1, none⟩ = false := frozen_of_row _ _ _ _ _ R1.out
   clear T1
   go_wp2_with fail
   obtain ⟨rfl, rfl⟩ : 0 = RL ∧ [] = RS := Prod.mk.inj ((putP_no HO.out).symm.trans HR.out)
   obtain rfl : false = ok := HO.out.symm.trans HK.out
   obtain rfl : 0 = m := HM.out
   exact bodyPost_ret (results_cell_tmp7 Tryz.results106 _ _ (w.heap.size + 1) 87 _ (0, 0) _ rfl T2.out Tryz.underlying87 rfl size_pg) rfl ⟨none, 0, rfl, OwnP.nil _ _ _, B6.out⟩
 replace hs := Decidable.not_not.1 hs
 rw [decide_eq_true hs]
 obtain ⟨hs0, hs1⟩ := hs
 go_wp2_with fail
 refine (impl_isFree ad nd cd _).mono ?_
 rintro e w2 ⟨rfl, e1⟩
 subst w2
 by_cases hd0 : nd = 0
 · rw [decide_eq_true hd0]
   subst hd0
   have HO := hid (show putOk L ss slot zs lsn = false from putOk_3 (by rw [HDL.out]; omega))
   have T1 := heap_setCell_same w1 (w.heap.size + 1) 0 _ 87 (.int .i64 0) R1.out
   have T2 := hid (heap_setCell_same _ (w.heap.size + 1) 1 _ 87 (.slice none 0 0) T1)
   have B6 := hid ((HB.out.setCell (p := ⟨w.heap.size + 1, 0, none⟩) (by simp) (.int .i64 0)).setCell (p := ⟨w.heap.size + 1, 1, none⟩) (by simp) (.slice none 0 0))
   have r0 : w1.cell? ⟨w.heap.size + 1, 0, none⟩ = some (.int .i64 0) := cell_of_row _ _ 0 _ _ _ R1.out
   have r1 : w1.cell? ⟨w.heap.size + 1, 1, none⟩ = some (.slice none 0 0) := cell_of_row _ _ 1 _ _ _ R1.out
   have rf0 : w1.frozen? ⟨w.heap.size + 1, 0, none⟩ = false := frozen_of_row _ _ _ _ _ R1.out
   have rf1 : w1.frozen? ⟨w.heap.size + 1, 1, none⟩ = false := frozen_of_row _ _ _ _ _ R1.out
   clear T1
   go_wp2_with fail
   obtain ⟨rfl, rfl⟩ : 0 = RL ∧ [] = RS := Prod.mk.inj ((putP_no HO.out).symm.trans HR.out)
   obtain rfl : false = ok := HO.out.symm.trans HK.out
   obtain rfl : 0 = m := HM.out
   exact bodyPost_ret (results_cell_tmp7 Tryz.results106 _ _ (w.heap.size + 1) 87 _ (0, 0) _ rfl T2.out Tryz.underlying87 rfl size_pg) rfl ⟨none, 0, rfl, OwnP.nil _ _ _, B6.out⟩
 rw [decide_eq_false hd0]
 go_wp2_with fail
 refine (impl_isTooLong ad nd cd _).mono ?_
 rintro e w2 ⟨rfl, e1⟩
 subst w2
 by_cases hd1 : 92 < nd
 · rw [decide_eq_true hd1]
   have HO := hid (show putOk L ss slot zs lsn = false from putOk_3 (by rw [HDL.out]; omega))
   have T1 := heap_setCell_same w1 (w.heap.size + 1) 0 _ 87 (.int .i64 0) R1.out
   have T2 := hid (heap_setCell_same _ (w.heap.size + 1) 1 _ 87 (.slice none 0 0) T1)
   have B6 := hid ((HB.out.setCell (p := ⟨w.heap.size + 1, 0, none⟩) (by simp) (.int .i64 0)).setCell (p := ⟨w.heap.size + 1, 1, none⟩) (by simp) (.slice none 0 0))
   have r0 : w1.cell? ⟨w.heap.size + 1, 0, none⟩ = some (.int .i64 0) := cell_of_row _ _ 0 _ _ _ R1.out
   have r1 : w1.cell? ⟨w.heap.size + 1, 1, none⟩ = some (.slice none 0 0) := cell_of_row _ _ 1 _ _ _ R1.out
   have rf0 : w1.frozen? ⟨w.heap.size + 1, 0, none⟩ = false := frozen_of_row _ _ _ _ _ R1.out
   have rf1 : w1.frozen? ⟨w.heap.size + 1, 1, none⟩ = false := frozen_of_row _ _ _ _ _ R1.out
   clear T1
   go_wp2_with fail
   obtain ⟨rfl, rfl⟩ : 0 = RL ∧ [] = RS := Prod.mk.inj ((putP_no HO.out).symm.trans HR.out)
   obtain rfl : false = ok := HO.out.symm.trans HK.out
   obtain rfl : 0 = m := HM.out
   exact bodyPost_ret (results_cell_tmp7 Tryz.results106 _ _ (w.heap.size + 1) 87 _ (0, 0) _ rfl T2.out Tryz.underlying87 rfl size_pg) rfl ⟨none, 0, rfl, OwnP.nil _ _ _, B6.out⟩
 rw [decide_eq_false hd1]
 go_wp2_with fail
 refine (impl_inP lsn 1 1000000 _).mono ?_
 rintro e w2 ⟨rfl, e1⟩
 subst w2
 by_cases hs : ¬ (1 ≤ lsn ∧ lsn ≤ 1000000)
 · rw [decide_eq_false hs]
   have HO := hid (show putOk L ss slot zs lsn = false from putOk_4 hs)
   have T1 := heap_setCell_same w1 (w.heap.size + 1) 0 _ 87 (.int .i64 0) R1.out
   have T2 := hid (heap_setCell_same _ (w.heap.size + 1) 1 _ 87 (.slice none 0 0) T1)
   have B6 := hid ((HB.out.setCell (p := ⟨w.heap.size + 1, 0, none⟩) (by simp) (.int .i64 0)).setCell (p := ⟨w.heap.size + 1, 1, none⟩) (by simp) (.slice none 0 0))
   have r0 : w1.cell? ⟨w.heap.size + 1, 0, none⟩ = some (.int .i64 0) := cell_of_row _ _ 0 _ _ _ R1.out
   have r1 : w1.cell? ⟨w.heap.size + 1, 1, none⟩ = some (.slice none 0 0) := cell_of_row _ _ 1 _ _ _ R1.out
   have rf0 : w1.frozen? ⟨w.heap.size + 1, 0, none⟩ = false := frozen_of_row _ _ _ _ _ R1.out
   have rf1 : w1.frozen? ⟨w.heap.size + 1, 1, none⟩ = false := frozen_of_row _ _ _ _ _ R1.out
   clear T1
   go_wp2_with fail
   obtain ⟨rfl, rfl⟩ : 0 = RL ∧ [] = RS := Prod.mk.inj ((putP_no HO.out).symm.trans HR.out)
   obtain rfl : false = ok := HO.out.symm.trans HK.out
   obtain rfl : 0 = m := HM.out
   exact bodyPost_ret (results_cell_tmp7 Tryz.results106 _ _ (w.heap.size + 1) 87 _ (0, 0) _ rfl T2.out Tryz.underlying87 rfl size_pg) rfl ⟨none, 0, rfl, OwnP.nil _ _ _, B6.out⟩
 replace hs := Decidable.not_not.1 hs
 rw [decide_eq_true hs]
 obtain ⟨hs2, hs3⟩ := hs
 obtain ⟨q, rfl⟩ := Int.eq_ofNat_of_zero_le hs0
 have HPK := hid (show putOk L ss (q : Int) zs lsn = okP lsn (layP ss q zs) from putOk_eq HE.out ⟨hs0, hs1⟩ (by rw [HDL.out]; omega) ⟨hs2, hs3⟩)
 have HTR := hid (lay_trim (slot := q) HE.out (show 0 < zs.length by rw [HDL.out]; omega))
 have hn16 : n ≤ 16 := by have := (okP_of HE.out).n; omega
 have HZ92 := hid (fun i => Nat.le_trans ((okP_of HE.out).z i) (show 92 ≤ 1048576 by omega))
 obtain ⟨c0, c1⟩ := HX.out.box
 go_wp2_with fail
 refine (impl_with L c q cd lsn HX.out.reads hl (by omega) HZ92.out (by omega) (HD0.out.below HB.out (Nat.le_refl _)) HNI.out (by omega)).mono ?_
 rintro e w2 ⟨a1, c1', rfl, o, b⟩
 rw [HTR.out] at o
 obtain ⟨k, hk⟩ : ∃ k, (layP ss q zs).length = k := ⟨_, rfl⟩
 have HLK := hid hk
 have hk16 : k ≤ 16 := by rw [layP_length, hl] at hk; omega
 rw [hk] at o
 rw [HTR.out, hk]
 replace R1 := hid ((b.block _ (by have := HSZ.out; omega)).trans R1.out)
 replace HB := hid (HB.out.trans (b.mono HB.out.size))
 have LO := hid (show w.heap.size + 2 ≤ w1.heap.size from HSZ.out)
 replace HSZ := hid (Nat.le_trans HSZ.out b.size)
 have HO := hid o
 clear b o c0 c1 HX hk
 go_wp2_with fail
 have HX := hid (ArgP.new lsn k c1' HO.out.rd 87 w2.heap.size rfl)
 have bA := Below.alloc1 w2 (.cells #[.int .i64 lsn, .slice a1 k c1'] 87)
 replace HO := hid (HO.out.below bA (Nat.le_refl _))
 replace R1 := hid ((bA.block _ (by have := HSZ.out; omega)).trans R1.out)
 replace HB := hid (HB.out.trans (bA.mono HB.out.size))
 have HXL := hid HX.out.lt
 generalize w2.alloc (.cells #[.int .i64 lsn, .slice a1 k c1'] 87) = V0 at *
 clear bA
 refine (impl_isPage lsn c1' HX.out.reads HLK.out (by omega)).mono ?_
 rintro e w3 ⟨rfl, b⟩
 replace HX := hid (HX.out.below b (Nat.le_refl _))
 replace HO := hid (HO.out.below b (Nat.le_of_lt HXL.out))
 replace R1 := hid ((b.block _ (by have := HXL.out; have := HSZ.out; omega)).trans R1.out)
 replace HB := hid (HB.out.trans (b.mono HB.out.size))
 have S3 := hid b.size
 clear b
 by_cases h1 : okP lsn (layP ss q zs) = false
 · rw [h1]
   have HEE := hid h1
   clear h1
   clear HO
   have HO := hid (show putOk L ss (q : Int) zs lsn = false from HPK.out.trans HEE.out)
   have T1 := heap_setCell_same w3 (w.heap.size + 1) 0 _ 87 (.int .i64 0) R1.out
   have T2 := hid (heap_setCell_same _ (w.heap.size + 1) 1 _ 87 (.slice none 0 0) T1)
   have B6 := hid ((HB.out.setCell (p := ⟨w.heap.size + 1, 0, none⟩) (by simp) (.int .i64 0)).setCell (p := ⟨w.heap.size + 1, 1, none⟩) (by simp) (.slice none 0 0))
   have r0 : w3.cell? ⟨w.heap.size + 1, 0, none⟩ = some (.int .i64 0) := cell_of_row _ _ 0 _ _ _ R1.out
   have r1 : w3.cell? ⟨w.heap.size + 1, 1, none⟩ = some (.slice none 0 0) := cell_of_row _ _ 1 _ _ _ R1.out
   have rf0 : w3.frozen? ⟨w.heap.size + 1, 0, none⟩ = false := frozen_of_row _ _ _ _ _ R1.out
   have rf1 : w3.frozen? ⟨w.heap.size + 1, 1, none⟩ = false := frozen_of_row _ _ _ _ _ R1.out
   clear T1
   go_wp2_with fail
   obtain ⟨rfl, rfl⟩ : 0 = RL ∧ [] = RS := Prod.mk.inj ((putP_no HO.out).symm.trans HR.out)
   obtain rfl : false = ok := HO.out.symm.trans HK.out
   obtain rfl : 0 = m := HM.out
   exact bodyPost_ret (results_cell_tmp7 Tryz.results106 _ _ (w.heap.size + 1) 87 _ (0, 0) _ rfl T2.out Tryz.underlying87 rfl size_pg) rfl ⟨none, 0, rfl, OwnP.nil _ _ _, B6.out⟩
 rw [Bool.not_eq_false] at h1
 rw [h1]
 have HEE := hid h1
 clear h1
 have HOK := hid (show putOk L ss (q : Int) zs lsn = true from HPK.out.trans HEE.out)
 obtain ⟨rfl, rfl⟩ : lsn = RL ∧ layP ss q zs = RS := Prod.mk.inj ((putP_yes HOK.out).symm.trans HR.out)
 obtain rfl : true = ok := HOK.out.symm.trans HK.out
 obtain rfl : k = m := HLK.out.symm.trans HM.out
 obtain ⟨d0, d1⟩ := HX.out.box
 have T1 := heap_setCell_same w3 (w.heap.size + 1) 0 _ 87 (.int .i64 lsn) R1.out
 have T2 := hid (heap_setCell_same _ (w.heap.size + 1) 1 _ 87 (.slice a1 k c1') T1)
 have B6 := hid ((HB.out.setCell (p := ⟨w.heap.size + 1, 0, none⟩) (by simp) (.int .i64 lsn)).setCell (p := ⟨w.heap.size + 1, 1, none⟩) (by simp) (.slice a1 k c1'))
 have r0 : w3.cell? ⟨w.heap.size + 1, 0, none⟩ = some (.int .i64 0) := cell_of_row _ _ 0 _ _ _ R1.out
 have r1 : w3.cell? ⟨w.heap.size + 1, 1, none⟩ = some (.slice none 0 0) := cell_of_row _ _ 1 _ _ _ R1.out
 have rf0 : w3.frozen? ⟨w.heap.size + 1, 0, none⟩ = false := frozen_of_row _ _ _ _ _ R1.out
 have rf1 : w3.frozen? ⟨w.heap.size + 1, 1, none⟩ = false := frozen_of_row _ _ _ _ _ R1.out
 clear T1
 have O6 := hid (HO.out.agree (w' := (w3.setCell ⟨w.heap.size + 1, 0, none⟩ (.int .i64 lsn)).setCell ⟨w.heap.size + 1, 1, none⟩ (.slice a1 k c1')) (fun k h1 _ => (heap_set_ne _ _ _ _ _ (by have := LO.out; omega)).trans (heap_set_ne _ _ _ _ _ (by have := LO.out; omega))))
 go_wp2_with fail
 exact bodyPost_ret (results_cell_tmp7 Tryz.results106 _ _ (w.heap.size + 1) 87 _ (0, 0) _ rfl T2.out Tryz.underlying87 rfl size_pg) rfl ⟨_, _, rfl, O6.out.mono (by have := LO.out; omega) (by simp only [set_size]; have := HXL.out; have := S3.out; omega), B6.out⟩
end Go.Proofs.YtkfhfjghfadofaaGreat
