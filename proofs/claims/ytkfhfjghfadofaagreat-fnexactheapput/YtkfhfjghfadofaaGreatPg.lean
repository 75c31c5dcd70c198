/- The contract of the specification's PagePut. Conditions: lists of at most 2^47. -/
import Derived.Test.YtkfhfjghfadofaaGreatMgc
import Derived.Test.YtkfhfjghfadofaaGreatPw
import Derived.Deep.LoopGhost
namespace Go.Proofs.YtkfhfjghfadofaaGreat
open Go.RowKit
set_option maxRecDepth 100000
theorem results_cell_tmp7 {P : Program} {fn : Func} {p q : Tmp} {ty : TypeId} (h : fn.results = #[.cell p ty, .tmp q]) (tmps : Array Value) (w : World) (g : Nat) (t : TypeId) (cs : Array Value) (fr : Nat × Nat) (d : TypeDesc)
 (hp : tmps.getD p undef = .pointer (some ⟨g, 0, none⟩)) (hg : w.heap[g]? = some (.cells cs t fr))
 (hu : P.underlying ty = some d) (hd : (match d with | .struct _ | .array _ _ => true | _ => false) = true) (hi : (P.info? ty).map (·.size) = some cs.size) :
 (results fn tmps).run P w = .ok (.tuple #[.agg cs, tmps.getD q undef]) w := by
 have hp' : tmps[p]?.getD undef = .pointer (some ⟨g, 0, none⟩) := by simpa using hp
 simp [results, h, hp', asAddr, run_loadVar_row w g t ty cs fr d hg hu hd hi]
theorem putP_no {L : Int} {ss : List (List Int)} {slot : Int} {z : List Int} {lsn : Int} (h : putOk L ss slot z lsn = false) : putP L ss slot z lsn = (0, []) := by unfold putP; rw [if_neg (by simp [h])]; rfl
theorem putP_yes {L : Int} {ss : List (List Int)} {slot : Int} {z : List Int} {lsn : Int} (h : putOk L ss slot z lsn = true) : putP L ss slot z lsn = (lsn, layP ss slot.toNat z) := by unfold putP; rw [if_pos h]
theorem putOk_eq {L : Int} {ss : List (List Int)} {slot : Int} {z : List Int} {lsn : Int} (h1 : okP L ss = true) (h2 : 0 ≤ slot ∧ slot ≤ 15) (h3 : 1 ≤ z.length ∧ z.length ≤ 92) (h4 : 1 ≤ lsn ∧ lsn ≤ 1000000) : putOk L ss slot z lsn = okP lsn (layP ss slot.toNat z) := by
 unfold putOk; rw [h1, decide_eq_true h2, decide_eq_true h3, decide_eq_true h4]; rfl
theorem putOk_1 {L : Int} {ss : List (List Int)} {slot : Int} {z : List Int} {lsn : Int} (h1 : okP L ss = false) : putOk L ss slot z lsn = false := by unfold putOk; rw [h1]; rfl
theorem putOk_2 {L : Int} {ss : List (List Int)} {slot : Int} {z : List Int} {lsn : Int} (h : ¬ (0 ≤ slot ∧ slot ≤ 15)) : putOk L ss slot z lsn = false := by unfold putOk; rw [decide_eq_false h]; simp
theorem putOk_3 {L : Int} {ss : List (List Int)} {slot : Int} {z : List Int} {lsn : Int} (h : ¬ (1 ≤ z.length ∧ z.length ≤ 92)) : putOk L ss slot z lsn = false := by unfold putOk; rw [decide_eq_false h]; simp
theorem putOk_4 {L : Int} {ss : List (List Int)} {slot : Int} {z : List Int} {lsn : Int} (h : ¬ (1 ≤ lsn ∧ lsn ≤ 1000000)) : putOk L ss slot z lsn = false := by unfold putOk; rw [decide_eq_false h]; simp
theorem pad_step (ss : List (List Int)) (k : Nat) (h : ss.length ≤ k) : ss ++ List.replicate (k + 1 - ss.length) [] = (ss ++ List.replicate (k - ss.length) []) ++ [[]] := by
 rw [show k + 1 - ss.length = (k - ss.length) + 1 by omega, List.replicate_succ', List.append_assoc]
theorem pad_len (ss : List (List Int)) (k : Nat) (h : ss.length ≤ k) : (ss ++ List.replicate (k - ss.length) []).length = k := by simp; omega
set_option maxHeartbeats 6400000 in
theorem spec_PagePut (L : Int) {a : Option Addr} {n : Nat} (c : Nat) {ss : List (List Int)} (slot : Int) {ad : Option Addr} {nd : Nat} (cd : Nat) {zs : List Int} (lsn : Int) {w : World} (h : ReadsS w a ss) (hl : ss.length = n) (hd : Reads w ad nd zs) (hnil : ad = none → cd = 0)
 {RL : Int} {RS : List (List Int)} {ok : Bool} {m : Nat} (hR : putP L ss slot zs lsn = (RL, RS)) (hk : putOk L ss slot zs lsn = ok) (hm : RS.length = m) :
 Calls Tryz.prog 57 #[.agg #[.int .i64 L, .slice a n c], .int .i64 slot, .slice ad nd cd, .int .i64 lsn] w fun e w' => ∃ a' c', e = .returned (.tuple #[.agg #[.int .i64 RL, .slice a' m c'], .bool ok]) ∧ OwnP w' w.heap.size w'.heap.size (.slice a' m c') RS ∧ Below w.heap.size w w' := by
 obtain ⟨i0, hi, hz0, hz1, hz2⟩ := info_parts Tryz.info22
 obtain ⟨k0', ki, kz0, kz1, kz2⟩ := info_parts Tryz.info5
 have HR := hid hR
 have HK := hid hk
 have HM := hid hm
 have HNI := hid hnil
 have HDL := hid hd.len
 clear hR hk hm hnil
 have HB := hid (two w (.cells #[.int .i64 L, .slice a n c] 87) (.cells #[.int .i64 0, .slice none 0 0] 87))
 have HX := hid (show ArgP _ _ _ _ _ _ _ from (ArgP.new L n c h 87 w.heap.size rfl).alloc (.cells #[.int .i64 0, .slice none 0 0] 87))
 have R1 := hid (heap_new2 w (.cells #[.int .i64 L, .slice a n c] 87) (.cells #[.int .i64 0, .slice none 0 0] 87))
 have HD := hid (hd.below HB.out (Nat.le_refl _))
 have HSZ := hid (show w.heap.size + 2 ≤ ((w.alloc (.cells #[.int .i64 L, .slice a n c] 87)).alloc (.cells #[.int .i64 0, .slice none 0 0] 87)).heap.size by simp)
 have HU := hid (usedP_bd (L := L) (ss := ss))
 have HD0 := hid hd
 clear h hd
 go_enter Tryz.func57, Tryz.ntmps57
 go_wp2_with fail
 generalize (w.alloc (.cells #[.int .i64 L, .slice a n c] 87)).alloc (.cells #[.int .i64 0, .slice none 0 0] 87) = W at *
 refine (spec_PageUsed L c HX.out.reads hl).mono ?_
 rintro e w1 ⟨rfl, b⟩
 replace HX := hid (HX.out.below b (Nat.le_refl _))
 replace HD := hid (HD.out.below b (Nat.le_refl _))
 replace R1 := hid ((b.block _ (by have := HSZ.out; omega)).trans R1.out)
 replace HB := hid (HB.out.trans (b.mono HB.out.size))
 replace HSZ := hid (Nat.le_trans HSZ.out b.size)
 clear b
 rcases HU.out with ⟨e1, e2⟩ | ⟨e1, e2, e3⟩
 · rw [e2]
   have HE := hid e1
   clear e1 e2
   have HO := hid (show putOk L ss slot zs lsn = false from putOk_1 HE.out)
   go_wp2_with (refine wpList_store_row rfl 87 (.tmp 8) (.tmp 34) rfl (w.heap.size + 1) #[.int .i64 0, .slice none 0 0] rfl rfl 87 _ R1.out ?s1 ?s2 ?s3 ?_)
   case s1 => exact size_pg
   case s2 => rfl
   case s3 => simp [Value.oneCell']
   obtain ⟨rfl, rfl⟩ : 0 = RL ∧ [] = RS := Prod.mk.inj ((putP_no HO.out).symm.trans HR.out)
   obtain rfl : false = ok := HO.out.symm.trans HK.out
   obtain rfl : 0 = m := HM.out
   exact bodyPost_ret (results_cell_tmp7 Tryz.results57 _ _ (w.heap.size + 1) 87 _ (0, 0) _ rfl (setRow_heap _ _ _ _ _ _ R1.out) Tryz.underlying87 rfl size_pg) rfl ⟨none, 0, rfl, OwnP.nil _ _ _, below_setRow HB.out (by omega) _⟩
 have HE := hid e1
 obtain ⟨u, hu⟩ : ∃ u, usedP L ss = u := ⟨_, rfl⟩
 rw [hu] at e2 e3 ⊢
 have HUU := hid hu
 have qu : ¬ u < 0 := by omega
 clear e1 hu HU
 go_wp2_with fail
 refine (spec_inP slot 0 15 _).mono ?_
 rintro e w2 ⟨rfl, e1⟩
 subst w2
 by_cases hs : ¬ (0 ≤ slot ∧ slot ≤ 15)
 · rw [decide_eq_false hs]
   have HO := hid (show putOk L ss slot zs lsn = false from putOk_2 hs)
   go_wp2_with (refine wpList_store_row rfl 87 (.tmp 8) (.tmp 34) rfl (w.heap.size + 1) #[.int .i64 0, .slice none 0 0] rfl rfl 87 _ R1.out ?s1 ?s2 ?s3 ?_)
   case s1 => exact size_pg
   case s2 => rfl
   case s3 => simp [Value.oneCell']
   obtain ⟨rfl, rfl⟩ : 0 = RL ∧ [] = RS := Prod.mk.inj ((putP_no HO.out).symm.trans HR.out)
   obtain rfl : false = ok := HO.out.symm.trans HK.out
   obtain rfl : 0 = m := HM.out
   exact bodyPost_ret (results_cell_tmp7 Tryz.results57 _ _ (w.heap.size + 1) 87 _ (0, 0) _ rfl (setRow_heap _ _ _ _ _ _ R1.out) Tryz.underlying87 rfl size_pg) rfl ⟨none, 0, rfl, OwnP.nil _ _ _, below_setRow HB.out (by omega) _⟩
 replace hs := Decidable.not_not.1 hs
 rw [decide_eq_true hs]
 obtain ⟨hs0, hs1⟩ := hs
 by_cases hd0 : nd = 0
 · subst hd0
   have HO := hid (show putOk L ss slot zs lsn = false from putOk_3 (by rw [HDL.out]; omega))
   go_wp2_with (refine wpList_store_row rfl 87 (.tmp 8) (.tmp 34) rfl (w.heap.size + 1) #[.int .i64 0, .slice none 0 0] rfl rfl 87 _ R1.out ?s1 ?s2 ?s3 ?_)
   case s1 => exact size_pg
   case s2 => rfl
   case s3 => simp [Value.oneCell']
   obtain ⟨rfl, rfl⟩ : 0 = RL ∧ [] = RS := Prod.mk.inj ((putP_no HO.out).symm.trans HR.out)
   obtain rfl : false = ok := HO.out.symm.trans HK.out
   obtain rfl : 0 = m := HM.out
   exact bodyPost_ret (results_cell_tmp7 Tryz.results57 _ _ (w.heap.size + 1) 87 _ (0, 0) _ rfl (setRow_heap _ _ _ _ _ _ R1.out) Tryz.underlying87 rfl size_pg) rfl ⟨none, 0, rfl, OwnP.nil _ _ _, below_setRow HB.out (by omega) _⟩
 have qd0 : ((nd : Int) == 0) = false := by simpa using hd0
 by_cases hd1 : 92 < nd
 · have qd1 : (92 : Int) < (nd : Int) := by omega
   have HO := hid (show putOk L ss slot zs lsn = false from putOk_3 (by rw [HDL.out]; omega))
   go_wp2_with (refine wpList_store_row rfl 87 (.tmp 8) (.tmp 34) rfl (w.heap.size + 1) #[.int .i64 0, .slice none 0 0] rfl rfl 87 _ R1.out ?s1 ?s2 ?s3 ?_)
   case s1 => exact size_pg
   case s2 => rfl
   case s3 => simp [Value.oneCell']
   obtain ⟨rfl, rfl⟩ : 0 = RL ∧ [] = RS := Prod.mk.inj ((putP_no HO.out).symm.trans HR.out)
   obtain rfl : false = ok := HO.out.symm.trans HK.out
   obtain rfl : 0 = m := HM.out
   exact bodyPost_ret (results_cell_tmp7 Tryz.results57 _ _ (w.heap.size + 1) 87 _ (0, 0) _ rfl (setRow_heap _ _ _ _ _ _ R1.out) Tryz.underlying87 rfl size_pg) rfl ⟨none, 0, rfl, OwnP.nil _ _ _, below_setRow HB.out (by omega) _⟩
 have qd1 : ¬ (92 : Int) < (nd : Int) := by omega
 go_wp2_with fail
 refine (spec_inP lsn 1 1000000 _).mono ?_
 rintro e w2 ⟨rfl, e1⟩
 subst w2
 by_cases hs : ¬ (1 ≤ lsn ∧ lsn ≤ 1000000)
 · rw [decide_eq_false hs]
   have HO := hid (show putOk L ss slot zs lsn = false from putOk_4 hs)
   go_wp2_with (refine wpList_store_row rfl 87 (.tmp 8) (.tmp 34) rfl (w.heap.size + 1) #[.int .i64 0, .slice none 0 0] rfl rfl 87 _ R1.out ?s1 ?s2 ?s3 ?_)
   case s1 => exact size_pg
   case s2 => rfl
   case s3 => simp [Value.oneCell']
   obtain ⟨rfl, rfl⟩ : 0 = RL ∧ [] = RS := Prod.mk.inj ((putP_no HO.out).symm.trans HR.out)
   obtain rfl : false = ok := HO.out.symm.trans HK.out
   obtain rfl : 0 = m := HM.out
   exact bodyPost_ret (results_cell_tmp7 Tryz.results57 _ _ (w.heap.size + 1) 87 _ (0, 0) _ rfl (setRow_heap _ _ _ _ _ _ R1.out) Tryz.underlying87 rfl size_pg) rfl ⟨none, 0, rfl, OwnP.nil _ _ _, below_setRow HB.out (by omega) _⟩
 replace hs := Decidable.not_not.1 hs
 rw [decide_eq_true hs]
 obtain ⟨hs2, hs3⟩ := hs
 obtain ⟨q, rfl⟩ := Int.eq_ofNat_of_zero_le hs0
 have HPK := hid (show putOk L ss (q : Int) zs lsn = okP lsn (layP ss q zs) from putOk_eq HE.out ⟨hs0, hs1⟩ (by rw [HDL.out]; omega) ⟨hs2, hs3⟩)
 have hn16 : n ≤ 16 := by have := (okP_of HE.out).n; omega
 have HZ92 := hid (fun i => Nat.le_trans ((okP_of HE.out).z i) (show 92 ≤ 2097152 by omega))
 obtain ⟨c0, c1⟩ := HX.out.box
 go_wp2_with fail
 refine (spec_l7copy L c HX.out.reads hl (by omega) HZ92.out).mono ?_
 rintro e w2 ⟨a1, c1', rfl, o, b⟩
 replace HD := hid (HD.out.below b (Nat.le_refl _))
 replace R1 := hid ((b.block _ (by have := HSZ.out; omega)).trans R1.out)
 replace HB := hid (HB.out.trans (b.mono HB.out.size))
 have LO := hid (show w.heap.size + 2 ≤ w1.heap.size from HSZ.out)
 have LB := hid (show w1.heap.size ≤ w2.heap.size from b.size)
 replace HSZ := hid (Nat.le_trans HSZ.out b.size)
 have HO := hid o
 clear b o c0 c1 HX
 go_wp2_with fail
 have RG := hid (heap_alloc_new w2 (.cells #[.int .i64 L, .slice a1 n c1'] 87))
 have bA := Below.alloc1 w2 (.cells #[.int .i64 L, .slice a1 n c1'] 87)
 have zA := hid (alloc_size w2 (.cells #[.int .i64 L, .slice a1 n c1'] 87))
 replace HO := hid (HO.out.below bA (Nat.le_refl _))
 replace HD := hid (HD.out.below bA (Nat.le_refl _))
 replace R1 := hid ((bA.block _ (by have := HSZ.out; omega)).trans R1.out)
 replace HB := hid (HB.out.trans (bA.mono HB.out.size))
 clear bA
 generalize w2.alloc (.cells #[.int .i64 L, .slice a1 n c1'] 87) = V0 at *
 obtain ⟨xs0, ho0, hb0⟩ := HO.out.own
 rw [hl] at ho0
 have HL := hid (show Liv V0 w1.heap.size w2.heap.size L a1 n c1' xs0 ss from ⟨RG.out, ho0, hb0.mono (Nat.le_refl _) (by have := zA.out; omega), hl⟩)
 clear ho0 hb0 HO RG zA
 go_loopg [] (q + 1 - n) (fun r wr => ∃ (k : Nat) (a' : Option Addr) (c' : Nat) (xs : List Value), n ≤ k ∧ k ≤ 16 ∧ r = q + 1 - k ∧ Hid (k = n ∨ k ≤ q + 1) ∧ Hid (Liv wr w1.heap.size w2.heap.size L a' k c' xs (ss ++ List.replicate (k - ss.length) [])) ∧ Hid (wr.heap[w.heap.size + 1]? = some (.cells #[.int .i64 0, .slice none 0 0] 87)) ∧ Hid (Below w.heap.size w wr) ∧ Hid (Reads wr ad nd zs))
 case atStart => exact ⟨n, a1, c1', xs0, Nat.le_refl _, hn16, rfl, hid (.inl rfl), hid (by rw [hl, Nat.sub_self]; simpa using HL.out), R1, HB, HD⟩
 case round =>
  clear R1 HL HB HD
  obtain ⟨k, a', c', xs, hnk, hk16, hrk, HKQ, HL, R1, HB, HD⟩ := hrel
  obtain ⟨d0, d1⟩ := HL.out.box
  have f1 := HL.out.fz 1
  have HLT := hid HL.out.lt
  by_cases hlt : k ≤ q
  · have hlt' : (k : Int) ≤ (q : Int) := by omega
    go_wp2_with (at_builtin; refine wpList_append_row rfl _ _ 85 rfl w1.heap.size 22 i0 (.slice none 0 0) 1 24 Tryz.underlying85 hi hz0 hz1 hz2 rfl (by decide) _ k xs rfl (owns_below (Below.alloc1 wr _) (Nat.le_refl _) HL.out.own) (some ⟨wr.heap.size, 0, none⟩) 1 1 [.slice none 0 0] rfl rfl (.inr ⟨_, rfl, World.news_of_block (heap_alloc_new wr _)⟩) (fun e => by cases e) (by simp [Value.oneCell']) ?k4 ?k5 ?k6 ?_)
    case k4 => unfold maxLen; omega
    case k5 => omega
    case k6 => have := HLT.out; have := LB.out; simp; omega
    intro a2 c2 w5 hown1 hgrow
    have bX := Below.alloc1 wr (.cells #[.slice none 0 0] 22)
    have hlo : w1.heap.size ≤ wr.heap.size := by have := HLT.out; have := LB.out; omega
    have HN1 := own_nk HL.out.own R1.out (by decide)
    have L2 := HL.out.grow (v := .slice none 0 0) (z := []) bX hlo (World.ownsRow_nil _ _ 5 1) (by simp) hown1 hgrow
    rw [← pad_step ss k (by omega)] at L2
    have HL2 := hid L2
    have R2 := hid (HL.out.grow_at (a2 := a2) (c2 := c2) bX hgrow R1.out HN1 (by have := LO.out; have := LB.out; omega))
    have B2 := hid (((HB.out.trans (bX.mono HB.out.size)).grown hgrow (Nat.le_trans HB.out.size bX.size) (fun q hq => by have := (HL.out.own.lt q hq).1; have := LO.out; omega)).setCell (p := ⟨w2.heap.size, 1, none⟩) (by have := LO.out; have := LB.out; show w.heap.size ≤ w2.heap.size; omega) (.slice a2 (k + 1) c2))
    have D2 := hid (HD0.out.below B2.out (Nat.le_refl _))
    have e1 := hgrow.cell (bX.cell (p := ⟨w2.heap.size, 1, none⟩) HLT.out |>.trans d1) (own_nk HL.out.own HL.out.row (by decide))
    have e2 := (hgrow.frozen_far ⟨w2.heap.size, 1, none⟩ (Nat.lt_of_lt_of_le HLT.out bX.size) (own_nk HL.out.own HL.out.row (by decide))).trans ((bX.frozen (p := ⟨w2.heap.size, 1, none⟩) HLT.out).trans f1)
    clear bX hlo HN1 L2 hown1 hgrow d0 d1 f1
    go_wp2_with fail
    clear e1 e2
    go_roundg (q + 1 - (k + 1))
    case measure => omega
    case rel => exact ⟨k + 1, a2, c2, xs ++ [.slice none 0 0], by omega, by omega, rfl, hid (.inr (by omega)), HL2, R2, B2, D2⟩
  · have hlt' : ¬ (k : Int) ≤ (q : Int) := by omega
    have hqk : (q : Int) < (k : Int) := by omega
    have hq0' : (0 : Int) ≤ (q : Int) := by omega
    have HLAY := hid (show (ss ++ List.replicate (k - ss.length) []).set q zs = layP ss q zs by
     unfold layP
     rcases HKQ.out with e | e
     · rw [e, hl, Nat.sub_self, show q + 1 - n = 0 by omega]
     · rw [show k = q + 1 by omega])
    have HLK := hid (show (layP ss q zs).length = k by rw [← HLAY.out, List.length_set, pad_len ss k (by omega)])
    obtain ⟨gl, cl, e0, hgl, hgl2⟩ := HL.out.own.form (by omega)
    obtain ⟨rfl, _, rfl⟩ := Value.slice.inj e0
    have H0 := hid (World.ownsRow_lit (base := wr.heap.size) (e := 5) (size := 1) wr #[] 0 (Nat.le_refl _) (Nat.zero_le _) rfl)
    have HK' := hid (show ∀ X, Below wr.heap.size wr X → X.cell? ⟨w2.heap.size, 1, none⟩ = some (.slice (some ⟨gl, 0, none⟩) k c') from fun X bb => (bb.cell (p := ⟨w2.heap.size, 1, none⟩) HLT.out).trans d1)
    have HN2 := hid (show gl ≠ w2.heap.size from fun e => own_nk HL.out.own HL.out.row (by decide) (by rw [e]; rfl))
    have HN1 := hid (show w.heap.size + 1 ≠ gl from fun e => own_nk HL.out.own R1.out (by decide) (by rw [e]; rfl))
    have HGL := hid hgl2
    clear e0 hgl hgl2
    have hvq : ∃ vq, wr.cell? ⟨gl, q, none⟩ = some vq := ⟨_, (HL.out.own.cellAt q (by omega)).trans (List.getElem?_eq_getElem (by have := HL.out.own.1; omega))⟩
    obtain ⟨vq, hvq⟩ := hvq
    have hfq := HL.out.own.frozenAt q
    replace HK' := hid (show ∀ X, Below wr.heap.size wr X → X.cell? ⟨w2.heap.size, 1, none⟩ = some (.slice (some ⟨gl, 0, none⟩) k c') ∧ X.cell? ⟨gl, q, none⟩ = some vq ∧ X.frozen? ⟨gl, q, none⟩ = false from fun X bb => ⟨HK'.out X bb, (bb.cell (p := ⟨gl, q, none⟩) HGL.out).trans hvq, (bb.frozen (p := ⟨gl, q, none⟩) HGL.out).trans hfq⟩)
    clear hvq hfq
    go_wp2_with fail
    clear d0 d1 f1
    refine region_K 7 (fun W => W.cell? ⟨w2.heap.size, 1, none⟩ = some (.slice (some ⟨gl, 0, none⟩) k c') ∧ W.cell? ⟨gl, q, none⟩ = some vq ∧ W.frozen? ⟨gl, q, none⟩ = false) (by kernel_rfl) ?_ (fun hHeld => ?_)
    · exact HK'.out _ ((Below.refl _ wr).drew)
    refine anyK_take (i := 0) (v := ?v201) rfl (by kernel_rfl) (by kernel_rfl) (by kernel_rfl) (by kernel_rfl) (fun _ _ _ h => h) (by rfl) hHeld ?hy201 (some 47) (by rfl) ?rest201
    case hy201 => (intro W hSw; (try dsimp only at hSw); go_simp; (try with_reducible rfl))
    try simp only [Act.put]
    try simp only [List.setIfInBounds_toArray]
    try simp only [List.set_cons_succ, List.set_cons_zero]
    refine anyK_take (i := 1) (v := ?v202) rfl (by kernel_rfl) (by kernel_rfl) (by kernel_rfl) (by kernel_rfl) (fun _ _ _ h => h) (by rfl) hHeld ?hy202 (some 48) (by rfl) ?rest202
    case hy202 => (intro W hSw; (try dsimp only at hSw); go_simp; (try with_reducible rfl))
    try simp only [Act.put]
    try simp only [List.setIfInBounds_toArray]
    try simp only [List.set_cons_succ, List.set_cons_zero]
    refine anyK_take (i := 2) (v := ?v203) rfl (by kernel_rfl) (by kernel_rfl) (by kernel_rfl) (by kernel_rfl) (fun _ _ _ h => h) (by rfl) hHeld ?hy203 (some 49) (by rfl) ?rest203
    case hy203 => (intro W hSw; (try dsimp only at hSw); go_simp; (try with_reducible rfl))
    try simp only [Act.put]
    try simp only [List.setIfInBounds_toArray]
    try simp only [List.set_cons_succ, List.set_cons_zero]
    refine anyK_take (i := 4) (v := ?v204) rfl (by kernel_rfl) (by kernel_rfl) (by kernel_rfl) (by kernel_rfl) (fun _ _ _ h => h) (by rfl) hHeld ?hy204 (some 51) (by rfl) ?rest204
    case hy204 => (intro W hSw; (try dsimp only at hSw); go_simp; (try with_reducible rfl))
    try simp only [Act.put]
    try simp only [List.setIfInBounds_toArray]
    try simp only [List.set_cons_succ, List.set_cons_zero]
    refine anyK_step (i := 3) (by kernel_rfl) rfl (fun K hK => ?_)
    go_simp
    refine hK.out _ _ ?_ (fun hH2 => ?_)
    · exact HK'.out _ ((bel_al (Below.refl _ wr) _).drew)
    clear hK K hHeld
    have hHeld := hH2
    clear hH2
    try simp only [Act.put]
    try simp only [List.setIfInBounds_toArray]
    try simp only [List.set_cons_succ, List.set_cons_zero]
    refine anyK_step (i := 5) (by kernel_rfl) rfl (fun K hK => ?_)
    refine step_append_row (by rfl) _ _ _ (by rfl) wr.heap.size 5 k0' (.int .u8 0) 1 1 Tryz.underlying22 ki kz0 kz1 kz2 rfl (by omega) (.slice (some ⟨wr.heap.size, 0, none⟩) 0 0) 0 [] (by rfl) (by simpa using H0.out.drew) ad nd cd (bys zs) (by rfl) (by rw [bys_length, HDL.out, Nat.mul_one]) ((HD.out.below (bel_al (Below.refl _ wr) _).drew (Nat.le_refl _)).news' HNI.out) HD.out.nil0 (bys_one _) (by unfold maxLen; omega) (by omega) (by simp) ?_
    intro av cv u' hob hgb
    rw [Nat.zero_add, List.nil_append] at hob
    have bu := ((bel_al (Below.refl wr.heap.size wr) (.cells #[] 5)).drew).grown hgb (by simp) (fun q hq => by cases hq; exact Nat.le_refl _)
    have HO1 := hid hob
    have HBU := hid bu
    clear hob hgb bu
    simp only [Nat.zero_add]
    refine hK.out _ _ ?_ (fun hH2 => ?_)
    · exact HK'.out _ HBU.out
    clear hK K hHeld
    have hHeld := hH2
    clear hH2
    try simp only [Act.put]
    try simp only [List.setIfInBounds_toArray]
    try simp only [List.set_cons_succ, List.set_cons_zero]
    refine anyK_take (i := 6) (v := ?v207) rfl (by kernel_rfl) (by kernel_rfl) (by kernel_rfl) (by kernel_rfl) (fun _ _ _ h => h) (by rfl) hHeld ?hy207 (some 53) (by rfl) ?rest207
    case hy207 => (intro W hSw; (try dsimp only at hSw); go_simp; (try with_reducible rfl))
    try simp only [Act.put]
    try simp only [List.setIfInBounds_toArray]
    try simp only [List.set_cons_succ, List.set_cons_zero]
    refine anyK_last (by kernel_rfl) rfl (fun K hK => ?_)
    go_simp
    refine hK.out _ _ ?_
    clear hK K hHeld
    refine anyK_done (by kernel_rfl) ?_ _
    have hlo : w1.heap.size ≤ wr.heap.size := by have := HLT.out; have := LB.out; omega
    have L3 := HL.out.put (i := q) HBU.out hlo (by rw [HDL.out]; exact HO1.out) HD0.out.bd (by omega)
    rw [HLAY.out] at L3
    have HL3 := hid L3
    have R3 := hid (Liv.put_at (v := .slice av nd cv) (i := q) HBU.out R1.out HN1.out)
    have B3 := hid ((HB.out.trans (HBU.out.mono HB.out.size)).setCell (p := ⟨gl, q, none⟩) (by have := (HL.out.own.lt gl rfl).1; have := LO.out; show w.heap.size ≤ gl; omega) (.slice av nd cv))
    clear L3 HL R1 HB HBU HO1 HK' H0 HD HN1 HN2
    generalize u'.setCell ⟨gl, q, none⟩ (.slice av nd cv) = W6 at *
    obtain ⟨d0, d1⟩ := HL3.out.box
    have f0 := HL3.out.fz 0
    have HLT3 := hid HL3.out.lt
    have HL4 := hid (HL3.out.lsn lsn)
    have R4 := hid ((heap_set_ne W6 w2.heap.size 0 (w.heap.size + 1) (.int .i64 lsn) (by have := LO.out; have := LB.out; omega)).trans R3.out)
    have B4 := hid (B3.out.setCell (p := ⟨w2.heap.size, 0, none⟩) (by have := LO.out; have := LB.out; show w.heap.size ≤ w2.heap.size; omega) (.int .i64 lsn))
    clear HL3 R3 B3
    go_wp2_with fail
    clear d0 d1 f0
    generalize W6.setCell ⟨w2.heap.size, 0, none⟩ (.int .i64 lsn) = W7 at *
    refine (spec_PageUsed lsn c' HL4.out.reads HLK.out).mono ?_
    rintro e w8 ⟨rfl, b⟩
    have HL5 := hid (HL4.out.below b (Nat.le_refl _))
    have R1 := hid ((b.block _ (by have := HL4.out.lt; have := LO.out; have := LB.out; omega)).trans R4.out)
    have HB := hid (B4.out.trans (b.mono B4.out.size))
    clear b HL4 R4 B4
    rcases usedP_bd (L := lsn) (ss := layP ss q zs) with ⟨e1, e2⟩ | ⟨e1, e2, e3⟩
    · rw [e2]
      have HEE := hid e1
      clear e1 e2
      have HO := hid (show putOk L ss (q : Int) zs lsn = false from HPK.out.trans HEE.out)
      go_wp2_with (refine wpList_store_row rfl 87 (.tmp 8) (.tmp 59) rfl (w.heap.size + 1) #[.int .i64 0, .slice none 0 0] rfl rfl 87 _ R1.out ?s1 ?s2 ?s3 ?_)
      case s1 => exact size_pg
      case s2 => rfl
      case s3 => simp [Value.oneCell']
      obtain ⟨rfl, rfl⟩ : 0 = RL ∧ [] = RS := Prod.mk.inj ((putP_no HO.out).symm.trans HR.out)
      obtain rfl : false = ok := HO.out.symm.trans HK.out
      obtain rfl : 0 = m := HM.out
      exact bodyPost_ret (results_cell_tmp7 Tryz.results57 _ _ (w.heap.size + 1) 87 _ (0, 0) _ rfl (setRow_heap _ _ _ _ _ _ R1.out) Tryz.underlying87 rfl size_pg) rfl ⟨none, 0, rfl, OwnP.nil _ _ _, below_setRow HB.out (by omega) _⟩
    · have HEE := hid e1
      obtain ⟨u2, hu2⟩ : ∃ u2, usedP lsn (layP ss q zs) = u2 := ⟨_, rfl⟩
      rw [hu2] at e2 e3 ⊢
      have qu2 : ¬ u2 < 0 := by omega
      clear e1 hu2
      obtain ⟨d0, d1⟩ := HL5.out.box
      have HOK := hid (show putOk L ss (q : Int) zs lsn = true from HPK.out.trans HEE.out)
      obtain ⟨rfl, rfl⟩ : lsn = RL ∧ layP ss q zs = RS := Prod.mk.inj ((putP_yes HOK.out).symm.trans HR.out)
      obtain rfl : true = ok := HOK.out.symm.trans HK.out
      obtain rfl : k = m := HLK.out.symm.trans HM.out
      go_wp2_with (refine wpList_store_row rfl 87 (.tmp 8) (.tmp 60) rfl (w.heap.size + 1) #[.int .i64 lsn, .slice (some ⟨gl, 0, none⟩) k c'] rfl rfl 87 _ R1.out ?s1 ?s2 ?s3 ?_)
      case s1 => exact size_pg
      case s2 => rfl
      case s3 => simp [Value.oneCell']
      have L6 := HL5.out.beside R1.out (by decide) (by decide) (grown_row7 w8 (w.heap.size + 1) #[.int .i64 lsn, .slice (some ⟨gl, 0, none⟩) k c']) (by have := LO.out; have := LB.out; omega)
      exact bodyPost_ret (results_cell_tmp7 Tryz.results57 _ _ (w.heap.size + 1) 87 _ (0, 0) _ rfl (setRow_heap _ _ _ _ _ _ R1.out) Tryz.underlying87 rfl size_pg) rfl ⟨_, _, rfl, L6.ownP.mono (by have := LO.out; omega) (Nat.le_refl _), below_setRow HB.out (by omega) _⟩
end Go.Proofs.YtkfhfjghfadofaaGreat
