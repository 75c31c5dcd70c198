/- Texts of this proof in one: Hr14 Hs14 Ht14 Hu14. -/
import Derived.Test.YtnbpblephmjfnaaGreatMgd
import Derived.Test.YtnbpblephmjfnaaGreatGg14
/- The contract of the program's usesOf. Conditions: the deeds are right. -/


namespace Go.Proofs.YtnbpblephmjfnaaGreat
open Go.RowKit
set_option maxRecDepth 100000
theorem plS_len (ks : List Im) (rs : List (Im × Im)) : (plS ks rs).length ≤ ks.length := by
 unfold plS
 exact Nat.le_trans (List.length_filter_le _ _) (by simp)
theorem addL_len (L : Nat → List Nat) (s : Nat) (P : List Nat) (k q : Nat) : (addL L s P k q).length ≤ (L q).length + 1 := by
 unfold addL
 split
 · rw [List.length_append]; simp
 · omega
theorem infoU14 : ∃ i, Tryz.prog.info? 91 = some i ∧ i.zero = some (.agg #[.slice none 0 0, .slice none 0 0]) ∧ i.size = 2 ∧ i.bytes = 48 := by
 have := Tryz.infoU14
 cases hh : Tryz.prog.info? 91 with
 | none => rw [hh] at this; cases this
 | some i => rw [hh] at this; simp at this; exact ⟨i, rfl, this.1, this.2.1, this.2.2⟩
set_option maxHeartbeats 25600000 in
theorem impl_usesOf {a : Option Addr} {n : Nat} (c : Nat) {ts : List Tk} {w : World} (h : RdV w a ts) (hl : ts.length = n) (hok : okDs ts) :
 Calls Tryz.prog 48 #[.slice a n c] w fun e w' => ∃ (g m : Nat) (ks : List Im) (X : Nat → Value), e = .returned (.slice (some ⟨g, 0, none⟩) m m) ∧ ks.length = m ∧ m ≤ 20000 ∧ KeysOf ts ks ∧ OwnU w' w.heap.size g m m X (useL ts ks n) ∧ Below w.heap.size w w' := by
 have hn : n ≤ 100 := by have := hok.1; omega
 have HR := hid h
 have HL := hid hl
 have HK := hid hok
 clear h hl hok
 obtain ⟨i0, hinf, hz0, hz1, hz2⟩ := infoI14
 obtain ⟨j0, hj, hj0, hj1, hj2⟩ := infoU14
 go_enter Tryz.func48, Tryz.ntmps48
 go_wp2_with fail
 refine (impl_writtenKeys c HR.out HL.out HK.out).mono ?_
 rintro e w1 ⟨bK, m, cK, kq, rfl, hkl, hm2, hko, oK, rK, b1⟩
 have HKr := hid (show ReadsM w1 bK (kq.map (·.e)) from own_readsM oK (fun q hq => (rK q hq).below b1 (Nat.le_refl _)) (by rw [hkl]))
 have HKo := hid hko
 have B1 := hid b1
 have HR1w := hid (HR.out.below b1 (Nat.le_refl _))
 obtain ⟨ks, hks⟩ : ∃ ks, kq.map (·.e) = ks := ⟨_, rfl⟩
 rw [hks] at HKr HKo
 have HKl := hid (show ks.length = m by rw [← hks, List.length_map]; exact hkl)
 clear hks hko oK rK b1 hkl HR
 go_wp2_with (at_make; refine wpList_make_full _ rfl _ _ 88 rfl w1.heap.size 91 j0 (.agg #[.slice none 0 0, .slice none 0 0]) 2 Tryz.underlying88 hj hj0 hj1 _ _ _ _ m rfl rfl (by omega) (by omega) ?b2 ?b3 (Nat.le_refl _) ?_)
 case b2 => rw [hj2]; omega
 case b3 => unfold maxLen; omega
 intro w2 hown0 hgrow0
 obtain ⟨g, hg⟩ : ∃ g, w1.heap.size = g := ⟨_, rfl⟩
 have HU0 := hid (show OwnU w2 w1.heap.size w1.heap.size m m (fun _ => nilS) (useL ts ks 0) by
  have e : ∀ q, useL ts ks 0 q = [] := fun q => by simp [useL]
  refine ⟨by rw [← madeU]; exact hown0, fun q hq => by rw [e q]; exact World.ownsRow_nil _ _ _ _, fun q r _ _ _ b hb => by cases hb⟩)
 have HB0 := hid ((Below.refl w1.heap.size w1).grown hgrow0 (Nat.le_refl _) (fun k h => by cases h))
 clear hown0 hgrow0
 rw [hg] at HU0
 try rw [hg]
 go_wp2_with fail
 try simp only [hg]
 have HGe := hid hg
 clear hg
 rw [← HGe.out] at HU0
 go_loopw [18] (fun s wr => ∃ (k : Nat) (X : Nat → Value), k ≤ n ∧ s = .int .i64 k ∧ Hid (OwnU wr w1.heap.size g m m X (useL ts ks k)) ∧ Hid (Below w1.heap.size w1 wr)) (fun s _ => n - (intOf s).toNat)
 case atStart => exact ⟨0, _, Nat.zero_le _, rfl, hid (by have := HU0.out; rw [HGe.out] at this ⊢; exact this), HB0⟩
 case round =>
  clear HU0 HB0
  obtain ⟨k, X, hk, rfl, HU, HBw⟩ := hrel
  by_cases hlt : k < n
  · have hlt' : (k : Int) < (n : Int) := by omega
    have hk0 : (0 : Int) ≤ (k : Int) := by omega
    obtain ⟨bb, off, a1, c1, a2, c2, rfl, bx, r1, r2, nl1, nl2⟩ := HR1w.out k (by have := HL.out; omega)
    obtain ⟨y0, y1, y2, y4, y5⟩ := bx.below HBw.out (Nat.le_refl _)
    have hsz := okDs_at HK.out (k := k) (by have := HL.out; omega)
    have HDone := hid (fun q (hq : q < m * 2) => use_done ts ks k q (by rw [HKl.out]; exact hq))
    have HR1 := hid r1
    have HR2 := hid r2
    have HLle := hid (fun q => show (useL ts ks k q).length ≤ 198 from Nat.le_trans (useL_len ts ks k q) (by omega))
    generalize ts.getD k tk0 = t at *
    obtain ⟨xi, be, en, al, rs, ws, inn, ou⟩ := t
    simp only at y0 y1 y2 y4 y5 hsz HDone HR1 HR2
    have HRok := hid hsz.2.2.1
    have HWok := hid hsz.2.2.2
    obtain ⟨n1, hn1⟩ : ∃ m, rs.length = m := ⟨_, rfl⟩
    obtain ⟨n2, hn2⟩ : ∃ m, ws.length = m := ⟨_, rfl⟩
    rw [hn1] at y4
    rw [hn2] at y5
    have hw1 : n1 ≤ 200 := by have := hsz.1; omega
    have hw2 : n2 ≤ 200 := by have := hsz.2.1; omega
    have HN := hid (And.intro hn1 hn2)
    obtain ⟨gb, hgb⟩ : ∃ gb, wr.heap.size = gb := ⟨_, rfl⟩
    have bA := Below.alloc1 wr (.cells #[.int .i64 xi, .int .i64 be, .int .i64 en, .slice a1 n1 c1, .slice a2 n2 c2] 68)
    have HUA := hid (HU.out.below bA)
    have HBA := hid (HBw.out.trans (bA.mono HBw.out.size))
    have HXA := hid (heap_alloc_new wr (.cells #[.int .i64 xi, .int .i64 be, .int .i64 en, .slice a1 n1 c1, .slice a2 n2 c2] 68))
    have HZA := hid (alloc_size wr (.cells #[.int .i64 xi, .int .i64 be, .int .i64 en, .slice a1 n1 c1, .slice a2 n2 c2] 68))
    rw [hgb] at HXA HZA
    have HGb := hid hgb
    clear bx r1 r2 nl1 nl2 bA hn1 hn2 hsz HU HBw hgb
    go_wp2_with fail
    clear y0 y1 y2 y4 y5
    refine (impl_singleSpans c2 (HR2.out.below HBA.out (Nat.le_refl _)) HN.out.2 (by omega)).mono ?_
    rintro e w3 ⟨bS, cS, ss, rfl, hss, rS, oS, b3⟩
    have HRS := hid (show ReadsM w3 bS (fl2 (dupM ws)) by
     have e1 := own_readsM (qs := un2 ss) (by rw [← fS_un2]; exact oS) (fun q hq => (rS q hq).below b3 (Nat.le_refl _)) (by rw [un2_len, show ss.length = n2 by rw [← HN.out.2, ← List.length_map (f := spE), hss, List.length_map]]; omega)
     rw [un2_e, hss] at e1
     exact e1)
    have HU3 := hid (HUA.out.below b3)
    have HB3 := hid (HBA.out.trans (b3.mono HBA.out.size))
    have HX3 := hid ((b3.block gb (by have := HZA.out; omega)).trans HXA.out)
    clear hss rS oS b3 HUA HBA HXA HZA
    go_wp2_with fail
    refine (impl_placesInSpans cK cS (HKr.out.below HB3.out (Nat.le_refl _)) HKl.out hm2 HKo.out.ok HKo.out.asc HRS.out (by unfold dupM; rw [List.length_map]; exact HN.out.2) (by omega) (dupM_ok HWok.out)).mono ?_
    rintro e w5 ⟨bp, kp, cp, rfl, hpl, po, be5⟩
    have HU := hid (HU3.out.below be5)
    have hpa : ∀ q, q < m * 2 → ∀ b, (X q).ownBlock = some b → (Value.slice bp kp cp).ownBlock ≠ some b := fun q hq b hb e => by
     have e1 := ((HU3.out.own q hq).lt b hb).2
     have e2 := (po.lt b e).1
     omega
    have HPa := hid hpa
    have HPo := hid (owns_lower po HB3.out.size)
    have HPl := hid hpl
    have HBx := hid ((be5.block gb (Array.getElem?_eq_some_iff.1 HX3.out).1).trans HX3.out)
    have HBw := hid (HB3.out.trans (be5.mono HB3.out.size))
    clear hpl po be5 hpa HU3 HB3 HX3 HRS
    go_wp2_with fail
    try simp only [HGb.out]
    go_loopw [29] (fun s wq => ∃ (t : Nat) (X : Nat → Value), t ≤ kp ∧ s = .int .i64 t ∧ Hid (OwnU wq w1.heap.size g m m X (addL (useL ts ks k) 0 ((plS ks (dupM ws)).take t) k)) ∧ Hid (wq.ownsRow w1.heap.size 3 1 (.slice bp kp cp) kp (ins (nI (plS ks (dupM ws))))) ∧ Hid (∀ q, q < m * 2 → ∀ b, (X q).ownBlock = some b → (Value.slice bp kp cp).ownBlock ≠ some b) ∧ Hid (wq.heap[gb]? = some (.cells #[.int .i64 xi, .int .i64 be, .int .i64 en, .slice a1 n1 c1, .slice a2 n2 c2] 68)) ∧ Hid (Below w1.heap.size w1 wq)) (fun s _ => kp - (intOf s).toNat)
    case atStart => exact ⟨0, X, Nat.zero_le _, rfl, hid (by rw [List.take_zero, addL_nil]; exact HU.out), HPo, HPa, HBx, HBw⟩
    case round =>
     clear HU HPo HPa HBx HBw
     obtain ⟨t, X, ht, rfl, HU, HPo, HPa, HBx, HBw⟩ := hrel
     obtain ⟨wo, hwo⟩ : ∃ wo, wo = wr := ⟨_, rfl⟩
     subst hwo
     have hkp2 : kp ≤ 20000 := by have e1 := HPl.out; have e2 := plS_len ks (dupM ws); have e3 := HKl.out; omega
     by_cases hlp : t < kp
     · have hlp' : (t : Int) < (kp : Int) := by omega
       have ht0 : (0 : Int) ≤ (t : Int) := by omega
       have htl : t < ((plS ks (dupM ws))).length := by have := HPl.out; omega
       obtain ⟨gp, hbp⟩ : ∃ gp, bp = some ⟨gp, 0, none⟩ := by
        rcases HPo.out.2 with ⟨_, h0⟩ | ⟨gp, _, _, e, _⟩
        · omega
        · obtain ⟨e1, -, -⟩ := Value.slice.inj e
          exact ⟨gp, e1⟩
       subst hbp
       have hpc : wo.cell? ⟨gp, t, none⟩ = some (.int .i64 ((((plS ks (dupM ws))).getD t 0 : Nat) : Int)) := by
        rw [HPo.out.cellAt t (by omega), getD_ins, nI, List.getElem?_map, List.getElem?_eq_getElem htl]
        simp [List.getD, htl]
       have hpm : ((plS ks (dupM ws))).getD t 0 < m := by
        have := plS_lt (ks := ks) (show ((plS ks (dupM ws))).getD t 0 ∈ (plS ks (dupM ws)) by rw [show ((plS ks (dupM ws))).getD t 0 = ((plS ks (dupM ws)))[t] by simp [List.getD, htl]]; exact List.getElem_mem htl)
        have := HKl.out; omega
       have HTk := hid (take_nat ((plS ks (dupM ws))) htl)
       have HNd := hid (nodup_at (plS_nodup _ _) htl)
       obtain ⟨at', hat⟩ : ∃ at', ((plS ks (dupM ws))).getD t 0 = at' := ⟨_, rfl⟩
       rw [hat] at hpc hpm HTk HNd
       have hq2 : at' * 2 + 0 < m * 2 := by omega
       have hq3 : at' * 2 < m * 2 := by omega
       have ham : (at' : Int) < (m : Int) := by omega
       have ha0 : (0 : Int) ≤ (at' : Int) := by omega
       obtain ⟨ax, cx, hX⟩ := HU.out.slice hq3
       have hlq : (addL (useL ts ks k) 0 ((plS ks (dupM ws)).take t) k (at' * 2)).length ≤ 200 := by
        have e1 := addL_len (useL ts ks k) 0 ((plS ks (dupM ws)).take t) k (at' * 2)
        have e2 := HLle.out (at' * 2)
        omega
       obtain ⟨LQ, hLQ⟩ : ∃ LQ, addL (useL ts ks k) 0 ((plS ks (dupM ws)).take t) k (at' * 2) = LQ := ⟨_, rfl⟩
       rw [hLQ] at hX hlq
       obtain ⟨lq, hlqe⟩ : ∃ lq, LQ.length = lq := ⟨_, rfl⟩
       rw [hlqe] at hX hlq
       have hcu := HU.out.cell hq3
       rw [hX] at hcu
       have bA := Below.alloc1 wo (.cells #[.int .i64 k] 3)
       have HUA := hid (HU.out.below bA)
       have HA1 := hid (heap_alloc_new wo (.cells #[.int .i64 k] 3))
       have HPA := hid (owns_below bA (Nat.le_refl _) HPo.out)
       have HBA := hid (HBw.out.trans (bA.mono HBw.out.size))
       have HXA := hid ((bA.block gb (Array.getElem?_eq_some_iff.1 HBx.out).1).trans HBx.out)
       have HZA := hid (And.intro (alloc_size wo (.cells #[.int .i64 k] 3)) (HPo.out.lt gp rfl).2)
       have HOQ := hid (show (wo.alloc (.cells #[.int .i64 k] 3)).ownsRow w1.heap.size 3 1 (.slice ax lq cx) lq (ins (nI LQ)) by
        have := HUA.out.own (at' * 2) hq3
        rw [hLQ, hX, hlqe] at this
        exact this)
       have HKc := hid (fun (w' : World) (gr : (wo.alloc (.cells #[.int .i64 k] 3)).grownBy w' (Value.slice ax lq cx).ownBlock) => HUA.out.kept_cell hq3 (by rw [hX]; exact gr))
       have HAdd := hid (fun (w' : World) (v' : Value) (o : w'.ownsRow w1.heap.size 3 1 v' (lq + 1) (ins (nI LQ) ++ [.int .i64 (k : Int)])) (gr : (wo.alloc (.cells #[.int .i64 k] 3)).grownBy w' (Value.slice ax lq cx).ownBlock) (hb : v'.ownBlock = (Value.slice ax lq cx).ownBlock ∨ v'.ownBlock = some (wo.alloc (.cells #[.int .i64 k] 3)).heap.size) =>
        show OwnU (w'.setCell ⟨g, at' * 2, none⟩ v') w1.heap.size g m m (upd X (at' * 2) v') (addL (useL ts ks k) 0 ((plS ks (dupM ws)).take (t + 1)) k) by
         rw [HTk.out, addL_step _ 0 (by decide) _ _ _ HNd.out]
         have := HUA.out.add (p := k) hq3 (v' := v') (by rw [hLQ, hlqe]; exact o) (by rw [hX]; exact gr) (by rw [hX]; exact hb)
         exact this)
       have HXq := hid hX
       clear hX hLQ hlqe bA HU HPo HBw HBx HTk HNd hat htl
       go_wp2_with (at_builtin; refine wpList_append_at rfl _ _ 29 rfl w1.heap.size 3 i0 (.int .i64 0) 1 8 Tryz.underlying29 hinf hz0 hz1 hz2 rfl (by decide) _ lq (ins (nI LQ)) rfl HOQ.out ⟨wo.heap.size, 0, none⟩ 1 1 [.int .i64 k] rfl rfl (World.news_of_block HA1.out) (by intro u hu; simp at hu; subst hu; rfl) (by unfold maxLen; omega) (by omega) HBA.out.size ?_; intro a5 c5 w5 o5 hg5 hb5; have hk5 := HKc.out w5 hg5; obtain ⟨hk51, hk52⟩ := hk5; rw [HXq.out] at hk51)
       have HU5 := hid (HAdd.out w5 _ o5 hg5 hb5)
       have HP5 := hid (show (w5.setCell ⟨g, at' * 2, none⟩ (.slice a5 (lq + 1) c5)).ownsRow w1.heap.size 3 1 (.slice (some ⟨gp, 0, none⟩) kp cp) kp (ins (nI (plS ks (dupM ws)))) by
        have e1 := HPA.out.kept hg5 (.inr (fun e => HPa.out (at' * 2) hq3 gp (by rw [HXq.out]; exact e.symm) rfl))
        exact e1.kept (grown_set w5 g _ _) (.inr (fun e => by
         have r1 := HU5.out.row
         have e2 : gp = g := Option.some.inj e
         have e3 := HUA.out.row.kept hg5 (owns_ne HUA.out.row HOQ.out (by decide))
         rcases owns_ne e1 e3 (by decide) with e4 | e4
         · cases e4
         · exact e4 (by show some gp = some g; rw [e2]))))
       have HPa5 := hid (show ∀ q, q < m * 2 → ∀ b, (upd X (at' * 2) (.slice a5 (lq + 1) c5) q).ownBlock = some b → (Value.slice (some ⟨gp, 0, none⟩) kp cp).ownBlock ≠ some b by
        intro q hq b hb e
        by_cases eq : q = at' * 2
        · subst eq
          rw [upd_same] at hb
          rcases hb5 with h5 | h5
          · exact HPa.out (at' * 2) hq3 b (by rw [HXq.out]; exact h5.symm.trans hb) e
          · rw [h5] at hb
            have e1 : gp = b := Option.some.inj e
            have e2 := Option.some.inj hb
            have := HZA.out
            omega
        · rw [upd_other _ _ eq] at hb
          exact HPa.out q hq b hb e)
       have hgbv : ∀ (v : Value) (nn : Nat) (xs : List Value) (ty : TypeId) (s : Nat), (wo.alloc (.cells #[.int .i64 k] 3)).ownsRow w1.heap.size ty s v nn xs → ty ≠ 68 → v.ownBlock ≠ some gb := by
        intro v nn xs ty s o hne e
        rcases o.2 with ⟨e1, _⟩ | ⟨g', _, cur, e1, _, hh, _⟩
        · rw [e1] at e; cases e
        · rw [e1] at e
          obtain rfl : g' = gb := Option.some.inj e
          rw [HXA.out] at hh
          have := Option.some.inj hh
          injection this with _ e2
          exact hne e2.symm
       have HX5 := hid (show (w5.setCell ⟨g, at' * 2, none⟩ (.slice a5 (lq + 1) c5)).heap[gb]? = some (.cells #[.int .i64 xi, .int .i64 be, .int .i64 en, .slice a1 n1 c1, .slice a2 n2 c2] 68) by
        have hlt := (Array.getElem?_eq_some_iff.1 HXA.out).1
        have e1 := (hg5.block gb hlt (fun e => hgbv _ _ _ _ _ HOQ.out (by decide) e.symm)).trans HXA.out
        have hg' : gb ≠ g := fun e => hgbv _ _ _ _ _ HUA.out.row (by decide) (by rw [e]; rfl)
        exact ((grown_set w5 g _ _).block gb (Nat.lt_of_lt_of_le hlt hg5.size) (fun e => hg' (Option.some.inj e))).trans e1)
       have HB5 := hid (show Below w1.heap.size w1 (w5.setCell ⟨g, at' * 2, none⟩ (.slice a5 (lq + 1) c5)) from (HBA.out.grown hg5 HBA.out.size (fun r e => (HOQ.out.lt r e).1)).setCell (p := ⟨g, at' * 2, none⟩) (HUA.out.row.lt g rfl).1 _)
       clear o5 hg5 hb5 hk51 hk52 hgbv hpc hcu
       go_wp2_with fail
       go_roundw
       case rel => exact ⟨t + 1, upd X (at' * 2) (.slice a5 (lq + 1) c5), by omega, by go_num, HU5, HP5, HPa5, HX5, HB5⟩
       case measure => simp [intOf]; omega
     · have hlp' : ¬ (t : Int) < (kp : Int) := by omega
       have HTf := hid (show ((plS ks (dupM ws))).take t = (plS ks (dupM ws)) from List.take_of_length_le (by have := HPl.out; omega))
       rw [HTf.out] at HU
       clear HTf hlp ht
       obtain ⟨-, -, -, y4, -⟩ := BoxV.row HBx.out
       go_wp2_with fail
       clear y4
       refine (impl_placesInSpans cK c1 (HKr.out.below HBw.out (Nat.le_refl _)) HKl.out hm2 HKo.out.ok HKo.out.asc (HR1.out.below HBw.out (Nat.le_refl _)) HN.out.1 (by omega) HRok.out).mono ?_
       rintro e w4 ⟨bp1, kp1, cp1, rfl, hpl1, po1, be4⟩
       have HU4 := hid (HU.out.below be4)
       have hpa4 : ∀ q, q < m * 2 → ∀ b, (X q).ownBlock = some b → (Value.slice bp1 kp1 cp1).ownBlock ≠ some b := fun q hq b hb e => by
        have e1 := ((HU.out.own q hq).lt b hb).2
        have e2 := (po1.lt b e).1
        omega
       have HX4 := hid ((be4.block gb (Array.getElem?_eq_some_iff.1 HBx.out).1).trans HBx.out)
       have HB4 := hid (HBw.out.trans (be4.mono HBw.out.size))
       have HP4 := hid (owns_lower po1 HBw.out.size)
       have HPa4 := hid hpa4
       have HLle2 := hid (fun q => show ((addL (useL ts ks k) 0 (plS ks (dupM ws)) k) q).length ≤ 199 by
        unfold addL
        have := HLle.out q
        split
        · rw [List.length_append]; simp; omega
        · omega)
       clear HLle HPl HU HPo HPa HBx HBw hpa4 po1 be4
       have HU := HU4
       have HPo := HP4
       have HPa := HPa4
       have HBx := HX4
       have HBw := HB4
       have HLle := HLle2
       have HPl := hid hpl1
       clear HU4 HP4 HPa4 HX4 HB4 HLle2 hpl1
       go_wp2_with fail
       go_loopw [51] (fun s wq => ∃ (t : Nat) (X : Nat → Value), t ≤ kp1 ∧ s = .int .i64 t ∧ Hid (OwnU wq w1.heap.size g m m X (addL (addL (useL ts ks k) 0 (plS ks (dupM ws)) k) 1 ((plS ks rs).take t) k)) ∧ Hid (wq.ownsRow w1.heap.size 3 1 (.slice bp1 kp1 cp1) kp1 (ins (nI (plS ks rs)))) ∧ Hid (∀ q, q < m * 2 → ∀ b, (X q).ownBlock = some b → (Value.slice bp1 kp1 cp1).ownBlock ≠ some b) ∧ Hid (wq.heap[gb]? = some (.cells #[.int .i64 xi, .int .i64 be, .int .i64 en, .slice a1 n1 c1, .slice a2 n2 c2] 68)) ∧ Hid (Below w1.heap.size w1 wq)) (fun s _ => kp1 - (intOf s).toNat)
       case atStart => exact ⟨0, X, Nat.zero_le _, rfl, hid (by rw [List.take_zero, addL_nil]; exact HU.out), HPo, HPa, HBx, HBw⟩
       case round =>
        clear HU HPo HPa HBx HBw
        obtain ⟨t, X, ht, rfl, HU, HPo, HPa, HBx, HBw⟩ := hrel
        obtain ⟨wo, hwo⟩ : ∃ wo, wo = wr := ⟨_, rfl⟩
        subst hwo
        have hkp2 : kp1 ≤ 20000 := by have e1 := HPl.out; have e2 := plS_len ks rs; have e3 := HKl.out; omega
        by_cases hlp : t < kp1
        · have hlp' : (t : Int) < (kp1 : Int) := by omega
          have ht0 : (0 : Int) ≤ (t : Int) := by omega
          have htl : t < ((plS ks rs)).length := by have := HPl.out; omega
          obtain ⟨gp, hbp⟩ : ∃ gp, bp1 = some ⟨gp, 0, none⟩ := by
           rcases HPo.out.2 with ⟨_, h0⟩ | ⟨gp, _, _, e, _⟩
           · omega
           · obtain ⟨e1, -, -⟩ := Value.slice.inj e
             exact ⟨gp, e1⟩
          subst hbp
          have hpc : wo.cell? ⟨gp, t, none⟩ = some (.int .i64 ((((plS ks rs)).getD t 0 : Nat) : Int)) := by
           rw [HPo.out.cellAt t (by omega), getD_ins, nI, List.getElem?_map, List.getElem?_eq_getElem htl]
           simp [List.getD, htl]
          have hpm : ((plS ks rs)).getD t 0 < m := by
           have := plS_lt (ks := ks) (show ((plS ks rs)).getD t 0 ∈ (plS ks rs) by rw [show ((plS ks rs)).getD t 0 = ((plS ks rs))[t] by simp [List.getD, htl]]; exact List.getElem_mem htl)
           have := HKl.out; omega
          have HTk := hid (take_nat ((plS ks rs)) htl)
          have HNd := hid (nodup_at (plS_nodup _ _) htl)
          obtain ⟨at', hat⟩ : ∃ at', ((plS ks rs)).getD t 0 = at' := ⟨_, rfl⟩
          rw [hat] at hpc hpm HTk HNd
          have hq2 : at' * 2 + 1 < m * 2 := by omega
          have hq3 : at' * 2 + 1 < m * 2 := by omega
          have ham : (at' : Int) < (m : Int) := by omega
          have ha0 : (0 : Int) ≤ (at' : Int) := by omega
          obtain ⟨ax, cx, hX⟩ := HU.out.slice hq3
          have hlq : (addL (addL (useL ts ks k) 0 (plS ks (dupM ws)) k) 1 ((plS ks rs).take t) k (at' * 2 + 1)).length ≤ 200 := by
           have e1 := addL_len (addL (useL ts ks k) 0 (plS ks (dupM ws)) k) 1 ((plS ks rs).take t) k (at' * 2 + 1)
           have e2 := HLle.out (at' * 2 + 1)
           omega
          obtain ⟨LQ, hLQ⟩ : ∃ LQ, addL (addL (useL ts ks k) 0 (plS ks (dupM ws)) k) 1 ((plS ks rs).take t) k (at' * 2 + 1) = LQ := ⟨_, rfl⟩
          rw [hLQ] at hX hlq
          obtain ⟨lq, hlqe⟩ : ∃ lq, LQ.length = lq := ⟨_, rfl⟩
          rw [hlqe] at hX hlq
          have hcu := HU.out.cell hq3
          rw [hX] at hcu
          have bA := Below.alloc1 wo (.cells #[.int .i64 k] 3)
          have HUA := hid (HU.out.below bA)
          have HA1 := hid (heap_alloc_new wo (.cells #[.int .i64 k] 3))
          have HPA := hid (owns_below bA (Nat.le_refl _) HPo.out)
          have HBA := hid (HBw.out.trans (bA.mono HBw.out.size))
          have HXA := hid ((bA.block gb (Array.getElem?_eq_some_iff.1 HBx.out).1).trans HBx.out)
          have HZA := hid (And.intro (alloc_size wo (.cells #[.int .i64 k] 3)) (HPo.out.lt gp rfl).2)
          have HOQ := hid (show (wo.alloc (.cells #[.int .i64 k] 3)).ownsRow w1.heap.size 3 1 (.slice ax lq cx) lq (ins (nI LQ)) by
           have := HUA.out.own (at' * 2 + 1) hq3
           rw [hLQ, hX, hlqe] at this
           exact this)
          have HKc := hid (fun (w' : World) (gr : (wo.alloc (.cells #[.int .i64 k] 3)).grownBy w' (Value.slice ax lq cx).ownBlock) => HUA.out.kept_cell hq3 (by rw [hX]; exact gr))
          have HAdd := hid (fun (w' : World) (v' : Value) (o : w'.ownsRow w1.heap.size 3 1 v' (lq + 1) (ins (nI LQ) ++ [.int .i64 (k : Int)])) (gr : (wo.alloc (.cells #[.int .i64 k] 3)).grownBy w' (Value.slice ax lq cx).ownBlock) (hb : v'.ownBlock = (Value.slice ax lq cx).ownBlock ∨ v'.ownBlock = some (wo.alloc (.cells #[.int .i64 k] 3)).heap.size) =>
           show OwnU (w'.setCell ⟨g, at' * 2 + 1, none⟩ v') w1.heap.size g m m (upd X (at' * 2 + 1) v') (addL (addL (useL ts ks k) 0 (plS ks (dupM ws)) k) 1 ((plS ks rs).take (t + 1)) k) by
            rw [HTk.out, addL_step _ 1 (by decide) _ _ _ HNd.out]
            have := HUA.out.add (p := k) hq3 (v' := v') (by rw [hLQ, hlqe]; exact o) (by rw [hX]; exact gr) (by rw [hX]; exact hb)
            exact this)
          have HXq := hid hX
          clear hX hLQ hlqe bA HU HPo HBw HBx HTk HNd hat htl
          go_wp2_with (at_builtin; refine wpList_append_at rfl _ _ 29 rfl w1.heap.size 3 i0 (.int .i64 0) 1 8 Tryz.underlying29 hinf hz0 hz1 hz2 rfl (by decide) _ lq (ins (nI LQ)) rfl HOQ.out ⟨wo.heap.size, 0, none⟩ 1 1 [.int .i64 k] rfl rfl (World.news_of_block HA1.out) (by intro u hu; simp at hu; subst hu; rfl) (by unfold maxLen; omega) (by omega) HBA.out.size ?_; intro a5 c5 w5 o5 hg5 hb5; have hk5 := HKc.out w5 hg5; obtain ⟨hk51, hk52⟩ := hk5; rw [HXq.out] at hk51)
          have HU5 := hid (HAdd.out w5 _ o5 hg5 hb5)
          have HP5 := hid (show (w5.setCell ⟨g, at' * 2 + 1, none⟩ (.slice a5 (lq + 1) c5)).ownsRow w1.heap.size 3 1 (.slice (some ⟨gp, 0, none⟩) kp1 cp1) kp1 (ins (nI (plS ks rs))) by
           have e1 := HPA.out.kept hg5 (.inr (fun e => HPa.out (at' * 2 + 1) hq3 gp (by rw [HXq.out]; exact e.symm) rfl))
           exact e1.kept (grown_set w5 g _ _) (.inr (fun e => by
            have r1 := HU5.out.row
            have e2 : gp = g := Option.some.inj e
            have e3 := HUA.out.row.kept hg5 (owns_ne HUA.out.row HOQ.out (by decide))
            rcases owns_ne e1 e3 (by decide) with e4 | e4
            · cases e4
            · exact e4 (by show some gp = some g; rw [e2]))))
          have HPa5 := hid (show ∀ q, q < m * 2 → ∀ b, (upd X (at' * 2 + 1) (.slice a5 (lq + 1) c5) q).ownBlock = some b → (Value.slice (some ⟨gp, 0, none⟩) kp1 cp1).ownBlock ≠ some b by
           intro q hq b hb e
           by_cases eq : q = at' * 2 + 1
           · subst eq
             rw [upd_same] at hb
             rcases hb5 with h5 | h5
             · exact HPa.out (at' * 2 + 1) hq3 b (by rw [HXq.out]; exact h5.symm.trans hb) e
             · rw [h5] at hb
               have e1 : gp = b := Option.some.inj e
               have e2 := Option.some.inj hb
               have := HZA.out
               omega
           · rw [upd_other _ _ eq] at hb
             exact HPa.out q hq b hb e)
          have hgbv : ∀ (v : Value) (nn : Nat) (xs : List Value) (ty : TypeId) (s : Nat), (wo.alloc (.cells #[.int .i64 k] 3)).ownsRow w1.heap.size ty s v nn xs → ty ≠ 68 → v.ownBlock ≠ some gb := by
           intro v nn xs ty s o hne e
           rcases o.2 with ⟨e1, _⟩ | ⟨g', _, cur, e1, _, hh, _⟩
           · rw [e1] at e; cases e
           · rw [e1] at e
             obtain rfl : g' = gb := Option.some.inj e
             rw [HXA.out] at hh
             have := Option.some.inj hh
             injection this with _ e2
             exact hne e2.symm
          have HX5 := hid (show (w5.setCell ⟨g, at' * 2 + 1, none⟩ (.slice a5 (lq + 1) c5)).heap[gb]? = some (.cells #[.int .i64 xi, .int .i64 be, .int .i64 en, .slice a1 n1 c1, .slice a2 n2 c2] 68) by
           have hlt := (Array.getElem?_eq_some_iff.1 HXA.out).1
           have e1 := (hg5.block gb hlt (fun e => hgbv _ _ _ _ _ HOQ.out (by decide) e.symm)).trans HXA.out
           have hg' : gb ≠ g := fun e => hgbv _ _ _ _ _ HUA.out.row (by decide) (by rw [e]; rfl)
           exact ((grown_set w5 g _ _).block gb (Nat.lt_of_lt_of_le hlt hg5.size) (fun e => hg' (Option.some.inj e))).trans e1)
          have HB5 := hid (show Below w1.heap.size w1 (w5.setCell ⟨g, at' * 2 + 1, none⟩ (.slice a5 (lq + 1) c5)) from (HBA.out.grown hg5 HBA.out.size (fun r e => (HOQ.out.lt r e).1)).setCell (p := ⟨g, at' * 2 + 1, none⟩) (HUA.out.row.lt g rfl).1 _)
          clear o5 hg5 hb5 hk51 hk52 hgbv hpc hcu
          go_wp2_with fail
          go_roundw
          case rel => exact ⟨t + 1, upd X (at' * 2 + 1) (.slice a5 (lq + 1) c5), by omega, by go_num, HU5, HP5, HPa5, HX5, HB5⟩
          case measure => simp [intOf]; omega
        · have hlp' : ¬ (t : Int) < (kp1 : Int) := by omega
          have HTf := hid (show ((plS ks rs)).take t = (plS ks rs) from List.take_of_length_le (by have := HPl.out; omega))
          rw [HTf.out] at HU
          clear HTf hlp ht
          go_wp2_with fail
          go_roundw
          case rel => exact ⟨k + 1, X, by omega, by go_num, hid (HU.out.congr (fun q hq => (HDone.out q hq).symm)), HBw⟩
          case measure => simp [intOf]; omega
  · have hlt' : ¬ (k : Int) < (n : Int) := by omega
    obtain rfl : k = n := by omega
    go_wp2_with fail
    go_ret
    exact ⟨g, m, rfl, ks, HKl.out, hm2, HKo.out, ⟨X, ⟨owns_lower HU.out.row B1.out.size, fun q hq => owns_lower (HU.out.own q hq) B1.out.size, HU.out.apart⟩⟩, B1.out.trans (HBw.out.mono B1.out.size)⟩
end Go.Proofs.YtnbpblephmjfnaaGreat
/- The contracts of bits.Mul and slices.Repeat at one number. Conditions: at most 100 times. -/

namespace Go.Proofs.YtnbpblephmjfnaaGreat
open Go.RowKit
set_option maxRecDepth 100000
end Go.Proofs.YtnbpblephmjfnaaGreat
/- The contracts of the program's turnsOf and lastWriter: plain notions with them. Conditions: at most 100 places. -/

namespace Go.Proofs.YtnbpblephmjfnaaGreat
open Go.RowKit
set_option maxRecDepth 100000
theorem readsI_at {w : World} {ad : Option Addr} {n : Nat} {zs : List Int} (h : ReadsI w ad n zs) {k : Nat} (hk : k < n) : ∃ b off, ad = some ⟨b, off, none⟩ ∧ w.cell? ⟨b, off + k, none⟩ = some (.int .i64 (zs.getD k 0)) := by
 rcases h.cells with h0 | ⟨b, off, rfl, hc⟩
 · omega
 · exact ⟨b, off, rfl, hc k hk⟩
def tI (O : List Int) (x : Int) : Int := if x ∈ O then ((O.idxOf x : Nat) : Int) else -1
def isOrd (O : List Int) (n : Nat) : Prop := O.length = n ∧ ∀ i, i < n → (0 ≤ O.getD i 0 ∧ O.getD i 0 ≤ (n : Int) - 1) ∧ O.getD i 0 ∉ O.take i
open Classical in
noncomputable def ordB (O : List Int) (n : Nat) : Bool := decide (isOrd O n)
def trn (O : List Int) (n : Nat) : List Int := (List.range n).map (fun p : Nat => tI O (p : Int))
end Go.Proofs.YtnbpblephmjfnaaGreat
/- The contract of the program's lastWriter, with its plain meaning. Conditions: the writers are places of the numbers. -/

namespace Go.Proofs.YtnbpblephmjfnaaGreat
open Go.RowKit
set_option maxRecDepth 100000
def lwS (Nm : List Int) (lim : Int) (last : Int) (p : Nat) : Int := if Nm.getD p 0 < lim ∧ (last = -1 ∨ Nm.getD last.toNat 0 < Nm.getD p 0) then (p : Int) else last
def lastW (Nm : List Int) (lim : Int) (W : List Nat) : Int := W.foldl (lwS Nm lim) (-1)
end Go.Proofs.YtnbpblephmjfnaaGreat
