/- The contract of the specification's PageClear. Conditions: lists of at most 2^47. -/
import Derived.Test.YtebhipicfgnajaaGreatPg
namespace Go.Proofs.YtebhipicfgnajaaGreat
open Go.RowKit
set_option maxRecDepth 100000

section
variable {L : Int} {ss : List (List Int)} {slot : Int} {lsn : Int}
theorem clearP_no (h : clearOk L ss slot lsn = false) : clearP L ss slot lsn = (0, []) := by unfold clearP; rw [if_neg (by simp [h])]; rfl
theorem clearP_yes (h : clearOk L ss slot lsn = true) : clearP L ss slot lsn = (lsn, trimP (layP ss slot.toNat [])) := by unfold clearP; rw [if_pos h]
theorem clearOk_yes (h1 : okP L ss = true) (h2 : 0 ≤ slot ∧ slot ≤ (ss.length : Int) - 1) (h4 : 1 ≤ lsn ∧ lsn ≤ 1000000) : clearOk L ss slot lsn = true := by
  unfold clearOk; rw [h1, decide_eq_true h2, decide_eq_true h4]; rfl
theorem clearOk_1 (h1 : okP L ss = false) : clearOk L ss slot lsn = false := by unfold clearOk; rw [h1]; rfl
theorem clearOk_2 (h : ¬ (0 ≤ slot ∧ slot ≤ (ss.length : Int) - 1)) : clearOk L ss slot lsn = false := by unfold clearOk; rw [decide_eq_false h]; simp
theorem clearOk_3 (h : ¬ (1 ≤ lsn ∧ lsn ≤ 1000000)) : clearOk L ss slot lsn = false := by unfold clearOk; rw [decide_eq_false h]; simp
end
theorem layP_set (ss : List (List Int)) (q : Nat) (z : List Int) (h : q < ss.length) : layP ss q z = ss.set q z := by unfold layP; rw [show q + 1 - ss.length = 0 by omega]; simp

set_option maxHeartbeats 6400000 in
theorem spec_PageClear (L : Int) {a : Option Addr} {n : Nat} (c : Nat) {ss : List (List Int)} (slot : Int) (lsn : Int) {w : World} (h : ReadsS w a ss) (hl : ss.length = n)
    {RL : Int} {RS : List (List Int)} {ok : Bool} {m : Nat} (hR : clearP L ss slot lsn = (RL, RS)) (hk : clearOk L ss slot lsn = ok) (hm : RS.length = m) :
    Calls Tryz.prog 112 #[.agg #[.int .i64 L, .slice a n c], .int .i64 slot, .int .i64 lsn] w fun e w' => ∃ a' c', e = .returned (.tuple #[.agg #[.int .i64 RL, .slice a' m c'], .bool ok]) ∧ OwnP w' w.heap.size w'.heap.size (.slice a' m c') RS ∧ Below w.heap.size w w' := by
  have HR := hid hR
  have HK := hid hk
  have HM := hid hm
  clear hR hk hm
  have HB := hid (two w (.cells #[.int .i64 L, .slice a n c] 97) (.cells #[.int .i64 0, .slice none 0 0] 97))
  have HX := hid (show ArgP _ _ _ _ _ _ _ from (ArgP.new L n c h 97 w.heap.size rfl).alloc (.cells #[.int .i64 0, .slice none 0 0] 97))
  have R1 := hid (heap_new2 w (.cells #[.int .i64 L, .slice a n c] 97) (.cells #[.int .i64 0, .slice none 0 0] 97))
  have HSZ := hid (show w.heap.size + 2 ≤ ((w.alloc (.cells #[.int .i64 L, .slice a n c] 97)).alloc (.cells #[.int .i64 0, .slice none 0 0] 97)).heap.size by simp)
  have HU := hid (usedP_bd (L := L) (ss := ss))
  clear h
  go_enter Tryz.func112, Tryz.ntmps112
  go_wp2_with fail
  generalize (w.alloc (.cells #[.int .i64 L, .slice a n c] 97)).alloc (.cells #[.int .i64 0, .slice none 0 0] 97) = W at *
  refine (spec_PageUsed L c HX.out.reads hl).mono ?_
  rintro e w1 ⟨rfl, b⟩
  replace HX := hid (HX.out.below b (Nat.le_refl _))
  replace R1 := hid ((b.block _ (by have := HSZ.out; omega)).trans R1.out)
  replace HB := hid (HB.out.trans (b.mono HB.out.size))
  replace HSZ := hid (Nat.le_trans HSZ.out b.size)
  clear b
  rcases HU.out with ⟨e1, e2⟩ | ⟨e1, e2, e3⟩
  · rw [e2]
    have HE := hid e1
    clear e1 e2
    have HO := hid (show clearOk L ss slot lsn = false from clearOk_1 HE.out)
    go_wp2_with (refine wpList_store_row rfl 97 (.tmp 6) (.tmp 26) rfl (w.heap.size + 1) #[.int .i64 0, .slice none 0 0] rfl rfl 97 _ R1.out ?s1 ?s2 ?s3 ?_)
    case s1 => exact size_pg
    case s2 => rfl
    case s3 => simp [Value.oneCell']
    obtain ⟨rfl, rfl⟩ : 0 = RL ∧ [] = RS := Prod.mk.inj ((clearP_no HO.out).symm.trans HR.out)
    obtain rfl : false = ok := HO.out.symm.trans HK.out
    obtain rfl : 0 = m := HM.out
    exact bodyPost_ret (results_cell_tmp7 Tryz.results112 _ _ (w.heap.size + 1) 97 _ (0, 0) _ rfl (setRow_heap _ _ _ _ _ _ R1.out) Tryz.underlying97 rfl size_pg) rfl ⟨none, 0, rfl, OwnP.nil _ _ _, below_setRow HB.out (by omega) _⟩

  have HE := hid e1
  obtain ⟨u, hu⟩ : ∃ u, usedP L ss = u := ⟨_, rfl⟩
  rw [hu] at e2 e3 ⊢
  have qu : ¬ u < 0 := by omega
  clear e1 hu HU
  have hn16 : n ≤ 16 := by have := (okP_of HE.out).n; omega
  obtain ⟨c0, c1⟩ := HX.out.box
  go_wp2_with fail
  refine (spec_inP slot 0 ((n : Int) - 1) _).mono ?_
  rintro e w2 ⟨rfl, e1⟩
  subst w2
  by_cases hs : ¬ (0 ≤ slot ∧ slot ≤ (n : Int) - 1)
  · rw [decide_eq_false hs]
    have HO := hid (show clearOk L ss slot lsn = false from clearOk_2 (by rw [hl]; exact hs))
    go_wp2_with (refine wpList_store_row rfl 97 (.tmp 6) (.tmp 26) rfl (w.heap.size + 1) #[.int .i64 0, .slice none 0 0] rfl rfl 97 _ R1.out ?s1 ?s2 ?s3 ?_)
    case s1 => exact size_pg
    case s2 => rfl
    case s3 => simp [Value.oneCell']
    obtain ⟨rfl, rfl⟩ : 0 = RL ∧ [] = RS := Prod.mk.inj ((clearP_no HO.out).symm.trans HR.out)
    obtain rfl : false = ok := HO.out.symm.trans HK.out
    obtain rfl : 0 = m := HM.out
    exact bodyPost_ret (results_cell_tmp7 Tryz.results112 _ _ (w.heap.size + 1) 97 _ (0, 0) _ rfl (setRow_heap _ _ _ _ _ _ R1.out) Tryz.underlying97 rfl size_pg) rfl ⟨none, 0, rfl, OwnP.nil _ _ _, below_setRow HB.out (by omega) _⟩

  replace hs := Decidable.not_not.1 hs
  rw [decide_eq_true hs]
  obtain ⟨hs0, hs1⟩ := hs
  go_wp2_with fail
  refine (spec_inP lsn 1 1000000 _).mono ?_
  rintro e w2 ⟨rfl, e1⟩
  subst w2
  by_cases hs : ¬ (1 ≤ lsn ∧ lsn ≤ 1000000)
  · rw [decide_eq_false hs]
    have HO := hid (show clearOk L ss slot lsn = false from clearOk_3 hs)
    go_wp2_with (refine wpList_store_row rfl 97 (.tmp 6) (.tmp 26) rfl (w.heap.size + 1) #[.int .i64 0, .slice none 0 0] rfl rfl 97 _ R1.out ?s1 ?s2 ?s3 ?_)
    case s1 => exact size_pg
    case s2 => rfl
    case s3 => simp [Value.oneCell']
    obtain ⟨rfl, rfl⟩ : 0 = RL ∧ [] = RS := Prod.mk.inj ((clearP_no HO.out).symm.trans HR.out)
    obtain rfl : false = ok := HO.out.symm.trans HK.out
    obtain rfl : 0 = m := HM.out
    exact bodyPost_ret (results_cell_tmp7 Tryz.results112 _ _ (w.heap.size + 1) 97 _ (0, 0) _ rfl (setRow_heap _ _ _ _ _ _ R1.out) Tryz.underlying97 rfl size_pg) rfl ⟨none, 0, rfl, OwnP.nil _ _ _, below_setRow HB.out (by omega) _⟩

  replace hs := Decidable.not_not.1 hs
  rw [decide_eq_true hs]
  obtain ⟨hs2, hs3⟩ := hs
  obtain ⟨q, rfl⟩ := Int.eq_ofNat_of_zero_le hs0
  have hqn : (q : Int) < (n : Int) := by omega
  have HOK := hid (show clearOk L ss (q : Int) lsn = true from clearOk_yes HE.out ⟨hs0, by rw [hl]; exact hs1⟩ ⟨hs2, hs3⟩)
  have HZ92 := hid (fun i => Nat.le_trans ((okP_of HE.out).z i) (show 92 ≤ 2097152 by omega))
  go_wp2_with fail
  refine (spec_l7copy L c HX.out.reads hl (by omega) HZ92.out).mono ?_
  rintro e w2 ⟨a1, c1', rfl, o, b⟩
  replace R1 := hid ((b.block _ (by have := HSZ.out; omega)).trans R1.out)
  replace HB := hid (HB.out.trans (b.mono HB.out.size))
  have LO := hid (show w.heap.size + 2 ≤ w1.heap.size from HSZ.out)
  have LB := hid (show w1.heap.size ≤ w2.heap.size from b.size)
  replace HSZ := hid (Nat.le_trans HSZ.out b.size)
  have RG := hid (heap_alloc_new w2 (.cells #[.int .i64 L, .slice a1 n c1'] 97))
  have bA := Below.alloc1 w2 (.cells #[.int .i64 L, .slice a1 n c1'] 97)
  have zA := hid (alloc_size w2 (.cells #[.int .i64 L, .slice a1 n c1'] 97))
  have HO := hid (o.below bA (Nat.le_refl _))
  replace R1 := hid ((bA.block _ (by have := HSZ.out; omega)).trans R1.out)
  replace HB := hid (HB.out.trans (bA.mono HB.out.size))
  obtain ⟨xs0, ho0, hb0⟩ := HO.out.own
  rw [hl] at ho0
  have HL := hid (show Liv (w2.alloc (.cells #[.int .i64 L, .slice a1 n c1'] 97)) w1.heap.size w2.heap.size L a1 n c1' xs0 ss from ⟨RG.out, ho0, hb0.mono (Nat.le_refl _) (by have := zA.out; omega), hl⟩)
  obtain ⟨gl, cl, e0, hgl, hgl2⟩ := HL.out.own.form (by omega)
  obtain ⟨rfl, _, rfl⟩ := Value.slice.inj e0
  have HN1 := hid (show w.heap.size + 1 ≠ gl from fun e => own_nk HL.out.own R1.out (by decide) (by rw [e]; rfl))
  obtain ⟨vq, hvq⟩ : ∃ vq, (w2.alloc (.cells #[.int .i64 L, .slice (some ⟨gl, 0, none⟩) n c1'] 97)).cell? ⟨gl, q, none⟩ = some vq := ⟨_, (HL.out.own.cellAt q (by omega)).trans (List.getElem?_eq_getElem (by have := HL.out.own.1; omega))⟩
  have hfq := HL.out.own.frozenAt q
  have hnG : ¬ gl = w2.heap.size := fun e => own_nk HL.out.own HL.out.row (by decide) (by rw [e]; rfl)
  have hnG' : ¬ w2.heap.size = gl := fun e => hnG e.symm
  have HLT := hid HL.out.lt
  have L3 := HL.out.put (i := q) (z := []) (v := .slice none 0 0) (Below.refl _ _) (by have := HLT.out; have := LB.out; omega) (World.ownsRow_nil _ _ 5 1) (by simp) (by omega)
  rw [← layP_set ss q [] (by omega)] at L3
  have HL3 := hid L3
  have R3 := hid (Liv.put_at (v := .slice none 0 0) (i := q) (Below.refl _ _) R1.out HN1.out)
  have B3 := hid (HB.out.setCell (p := ⟨gl, q, none⟩) (by have := LO.out; show w.heap.size ≤ gl; omega) (.slice none 0 0))
  have HL4 := hid (HL3.out.lsn lsn)
  have R4 := hid ((heap_set_ne _ w2.heap.size 0 (w.heap.size + 1) (.int .i64 lsn) (by have := LO.out; have := LB.out; omega)).trans R3.out)
  have B4 := hid (B3.out.setCell (p := ⟨w2.heap.size, 0, none⟩) (by have := LO.out; have := LB.out; show w.heap.size ≤ w2.heap.size; omega) (.int .i64 lsn))
  have e3 := HL3.out.box.c0
  have e4 := HL3.out.box.c1
  have e5 := HL3.out.fz 0
  clear b o c0 c1 HX bA HO ho0 hb0 e0 hgl hgl2 L3 RG
  go_wp2_with fail
  clear e3 e4 e5 hvq hfq R1 R3 HB B3 HL HL3 HLT zA
  generalize ((w2.alloc (.cells #[.int .i64 L, .slice (some ⟨gl, 0, none⟩) n c1'] 97)).setCell ⟨gl, q, none⟩ (.slice none 0 0)).setCell ⟨w2.heap.size, 0, none⟩ (.int .i64 lsn) = W4 at *
  have HLN := hid (show (layP ss q []).length = n by rw [layP_set ss q [] (by omega), List.length_set, hl])
  go_loopg [] n (fun r wr => ∃ (k : Nat) (xs : List Value), r = k ∧ k ≤ n ∧ Hid (Liv wr w1.heap.size w2.heap.size lsn (some ⟨gl, 0, none⟩) k c1' xs ((layP ss q []).take k)) ∧ Hid (trimP (layP ss q []) = trimP ((layP ss q []).take k)) ∧ Hid (wr.heap[w.heap.size + 1]? = some (.cells #[.int .i64 0, .slice none 0 0] 97)) ∧ Hid (Below w.heap.size w wr))
  case atStart => exact ⟨n, xs0.set q (.slice none 0 0), rfl, Nat.le_refl _, hid (by rw [List.take_of_length_le (by have := HLN.out; omega)]; exact HL4.out), hid (by rw [List.take_of_length_le (by have := HLN.out; omega)]), R4, B4⟩
  case round =>
    clear HL4 R4 B4
    obtain ⟨k, xs, hrk, hkn, HL, HTR, R1, HB⟩ := hrel
    obtain ⟨d0, d1⟩ := HL.out.box
    have f1 := HL.out.fz 1
    have HLT := hid HL.out.lt
    by_cases hk0 : k = 0
    · subst hk0
      have e6 : trimP (layP ss q []) = (layP ss q []).take 0 := HTR.out.trans (trimP_ok (by simp))
      obtain ⟨rfl, rfl⟩ : lsn = RL ∧ trimP (layP ss q []) = RS := Prod.mk.inj ((clearP_yes HOK.out).symm.trans HR.out)
      obtain rfl : true = ok := HOK.out.symm.trans HK.out
      obtain rfl : 0 = m := by have := HM.out; rw [e6] at this; simpa using this
      have HE6 := hid e6
      clear e6
      have T1 := heap_setCell_same wr (w.heap.size + 1) 0 _ 97 (.int .i64 lsn) R1.out
      have T2 := hid (heap_setCell_same _ (w.heap.size + 1) 1 _ 97 (.slice (some ⟨gl, 0, none⟩) 0 c1') T1)
      have L5 := HL.out.beside R1.out (by decide) (by decide) (grown_set7 wr (w.heap.size + 1) 0 (.int .i64 lsn)) (by have := LO.out; have := LB.out; omega)
      have L6 := hid (L5.beside T1 (by decide) (by decide) (grown_set7 _ (w.heap.size + 1) 1 (.slice (some ⟨gl, 0, none⟩) 0 c1')) (by have := LO.out; have := LB.out; omega))
      have B6 := hid ((HB.out.setCell (p := ⟨w.heap.size + 1, 0, none⟩) (by simp) (.int .i64 lsn)).setCell (p := ⟨w.heap.size + 1, 1, none⟩) (by simp) (.slice (some ⟨gl, 0, none⟩) 0 c1'))
      have r0 := cell_of_row _ _ 0 _ _ _ R1.out
      have r1 := cell_of_row _ _ 1 _ _ _ R1.out
      have rf0 : wr.frozen? ⟨w.heap.size + 1, 0, none⟩ = false := frozen_of_row _ _ _ _ _ R1.out
      have rf1 : wr.frozen? ⟨w.heap.size + 1, 1, none⟩ = false := frozen_of_row _ _ _ _ _ R1.out
      replace r0 : wr.cell? ⟨w.heap.size + 1, 0, none⟩ = some (.int .i64 0) := r0
      replace r1 : wr.cell? ⟨w.heap.size + 1, 1, none⟩ = some (.slice none 0 0) := r1
      clear T1 L5
      go_wp2_with fail
      exact bodyPost_ret (results_cell_tmp7 Tryz.results112 _ _ (w.heap.size + 1) 97 _ (0, 0) _ rfl T2.out Tryz.underlying97 rfl size_pg) rfl ⟨_, _, rfl, by rw [HE6.out]; exact L6.out.ownP.mono (by have := LO.out; omega) (Nat.le_refl _), B6.out⟩
    have hk1 : (0 : Int) < (k : Int) := by omega
    obtain ⟨p, hp⟩ : ∃ p, k - 1 = p := ⟨_, rfl⟩
    have hp1 : (k : Int) - 1 = (p : Int) := by omega
    have hp2 : (0 : Int) ≤ (p : Int) := by omega
    have hp3 : (p : Int) < (k : Int) := by omega
    have hp4 : (p : Int) ≤ (k : Int) := by omega
    have hkc := hid (show k ≤ c1' by rcases HL.out.own.2 with ⟨e, _⟩ | ⟨g', cap, cur, e, _, _, h1, _⟩; cases e; (obtain ⟨_, _, rfl⟩ := Value.slice.inj e; exact h1))
    have hkc' : p ≤ c1' := by have := hkc.out; omega
    obtain ⟨av, cv, eR, _⟩ := HL.out.bands.row p
    have hcx : wr.cell? ⟨gl, p, none⟩ = some (xs.getD p nilS) := cell_getD HL.out.own (by omega)
    obtain ⟨z, hz⟩ : ∃ z, (((layP ss q []).take k).getD p []).length = z := ⟨_, rfl⟩
    rw [eR, hz] at hcx
    have HZ := hid hz
    have HP := hid hp
    have HP1 := hid hp1
    clear eR hz hp
    by_cases hz0 : z = 0
    · subst hz0
      have HL2 := hid (HL.out.cut (j := p) (by omega))
      have R2 := hid ((heap_set_ne wr w2.heap.size 1 (w.heap.size + 1) (.slice (some ⟨gl, 0, none⟩) p c1') (by have := LO.out; have := LB.out; omega)).trans R1.out)
      have B2 := hid (HB.out.setCell (p := ⟨w2.heap.size, 1, none⟩) (by have := LO.out; have := LB.out; show w.heap.size ≤ w2.heap.size; omega) (.slice (some ⟨gl, 0, none⟩) p c1'))
      have HTR2 := hid (show trimP (layP ss q []) = trimP ((layP ss q []).take p) by
        rw [HTR.out, trimP_take ((layP ss q []).take k) p (by have := HL.out.len; omega) (fun j h1 h2 => by have hL := HL.out.len; have ej : j = p := (by omega); rw [ej]; exact HZ.out), List.take_take, Nat.min_eq_left (by omega)])
      go_wp2_with fail
      go_roundg p
      case measure => omega
      case rel => exact ⟨p, xs.take p, rfl, by omega, hid (by have := HL2.out; rw [List.take_take, Nat.min_eq_left (by omega)] at this; exact this), HTR2, R2, B2⟩
    · have qz : ((z : Int) == 0) = false := by simpa using hz0
      have e6 : trimP (layP ss q []) = (layP ss q []).take k := HTR.out.trans (trimP_ok (fun _ => by have := HL.out.len; rw [this, HP.out, HZ.out]; omega))
      obtain ⟨rfl, rfl⟩ : lsn = RL ∧ trimP (layP ss q []) = RS := Prod.mk.inj ((clearP_yes HOK.out).symm.trans HR.out)
      obtain rfl : true = ok := HOK.out.symm.trans HK.out
      obtain rfl : k = m := by have := HM.out; rw [e6] at this; have := HL.out.len; omega
      have HE6 := hid e6
      clear e6
      have T1 := heap_setCell_same wr (w.heap.size + 1) 0 _ 97 (.int .i64 lsn) R1.out
      have T2 := hid (heap_setCell_same _ (w.heap.size + 1) 1 _ 97 (.slice (some ⟨gl, 0, none⟩) k c1') T1)
      have L5 := HL.out.beside R1.out (by decide) (by decide) (grown_set7 wr (w.heap.size + 1) 0 (.int .i64 lsn)) (by have := LO.out; have := LB.out; omega)
      have L6 := hid (L5.beside T1 (by decide) (by decide) (grown_set7 _ (w.heap.size + 1) 1 (.slice (some ⟨gl, 0, none⟩) k c1')) (by have := LO.out; have := LB.out; omega))
      have B6 := hid ((HB.out.setCell (p := ⟨w.heap.size + 1, 0, none⟩) (by simp) (.int .i64 lsn)).setCell (p := ⟨w.heap.size + 1, 1, none⟩) (by simp) (.slice (some ⟨gl, 0, none⟩) k c1'))
      have r0 := cell_of_row _ _ 0 _ _ _ R1.out
      have r1 := cell_of_row _ _ 1 _ _ _ R1.out
      have rf0 : wr.frozen? ⟨w.heap.size + 1, 0, none⟩ = false := frozen_of_row _ _ _ _ _ R1.out
      have rf1 : wr.frozen? ⟨w.heap.size + 1, 1, none⟩ = false := frozen_of_row _ _ _ _ _ R1.out
      replace r0 : wr.cell? ⟨w.heap.size + 1, 0, none⟩ = some (.int .i64 0) := r0
      replace r1 : wr.cell? ⟨w.heap.size + 1, 1, none⟩ = some (.slice none 0 0) := r1
      clear T1 L5
      go_wp2_with fail
      exact bodyPost_ret (results_cell_tmp7 Tryz.results112 _ _ (w.heap.size + 1) 97 _ (0, 0) _ rfl T2.out Tryz.underlying97 rfl size_pg) rfl ⟨_, _, rfl, by rw [HE6.out]; exact L6.out.ownP.mono (by have := LO.out; omega) (Nat.le_refl _), B6.out⟩
end Go.Proofs.YtebhipicfgnajaaGreat
