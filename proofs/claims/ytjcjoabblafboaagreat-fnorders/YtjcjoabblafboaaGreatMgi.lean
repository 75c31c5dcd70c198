/- Texts of this proof in one: Hr14 Hs14 Ht14 Hu14. -/
import Derived.Test.YtjcjoabblafboaaGreatMgh
import Derived.Test.YtjcjoabblafboaaGreatGg14
/- The contract of the program's usesOf. Conditions: the deeds are right. -/


namespace Go.Proofs.YtjcjoabblafboaaGreat
open Go.RowKit
set_option maxRecDepth 100000
theorem plS_len (ks : List Im) (rs : List (Im × Im)) : (plS ks rs).length ≤ ks.length := by
 unfold plS
 exact Nat.le_trans (List.length_filter_le _ _) (by simp)
theorem addL_len (L : Nat → List Nat) (s : Nat) (P : List Nat) (k q : Nat) : (addL L s P k q).length ≤ (L q).length + 1 := by
 unfold addL
 split
 · rw [List.length_append]; simp
 · omega
theorem infoU14 : ∃ i, Tryz.prog.info? 91 = some i ∧ i.zero = some (.agg #[.slice none 0 0, .slice none 0 0]) ∧ i.size = 2 ∧ i.bytes = 48 := by
 have := Tryz.infoU14
 cases hh : Tryz.prog.info? 91 with
 | none => rw [hh] at this; cases this
 | some i => rw [hh] at this; simp at this; exact ⟨i, rfl, this.1, this.2.1, this.2.2⟩
set_option maxHeartbeats 25600000 in
theorem impl_usesOf {a : Option Addr} {n : Nat} (c : Nat) {ts : List Tk} {w : World} (h : RdV w a ts) (hl : ts.length = n) (hok : okDs ts) :
 Calls Tryz.prog 48 #[.slice a n c] w fun e w' => ∃ (g m : Nat) (ks : List Im) (X : Nat → Value), e = .returned (.slice (some ⟨g, 0, none⟩) m m) ∧ ks.length = m ∧ m ≤ 20000 ∧ KeysOf ts ks ∧ OwnU w' w.heap.size g m m X (useL ts ks n) ∧ Below w.heap.size w w' := by
 have hn : n ≤ 100 := by have := hok.1; omega
 have HR := hid h
 have HL := hid hl
 have HK := hid hok
 clear h hl hok
 obtain ⟨i0, hinf, hz0, hz1, hz2⟩ := infoI14
 obtain ⟨j0, hj, hj0, hj1, hj2⟩ := infoU14
 go_enter Tryz.func48, Tryz.ntmps48
 go_wp2_with fail
 refine (impl_writtenKeys c HR.out HL.out HK.out).mono ?_
 rintro e w1 ⟨bK, m, cK, kq, rfl, hkl, hm2, hko, oK, rK, b1⟩
 have HKr := hid (show ReadsM w1 bK (kq.map (·.e)) from own_readsM oK (fun q hq => (rK q hq).below b1 (Nat.le_refl _)) (by rw [hkl]))
 have HKo := hid hko
 have B1 := hid b1
 have HR1w := hid (HR.out.below b1 (Nat.le_refl _))
 obtain ⟨ks, hks⟩ : ∃ ks, kq.map (·.e) = ks := ⟨_, rfl⟩
 rw [hks] at HKr HKo
 have HKl := hid (show ks.length = m by rw [← hks, List.length_map]; exact hkl)
 clear hks hko oK rK b1 hkl HR
 go_wp2_with (at_make; refine wpList_make_full _ rfl _ _ 88 rfl w1.heap.size 91 j0 (.agg #[.slice none 0 0, .slice none 0 0]) 2 Tryz.underlying88 hj hj0 hj1 _ _ _ _ m rfl rfl (by omega) (by omega) ?b2 ?b3 (Nat.le_refl _) ?_)
 case b2 => rw [hj2]; omega
 case b3 => unfold maxLen; omega
 intro w2 hown0 hgrow0
 obtain ⟨g, hg⟩ : ∃ g, w1.heap.size = g := ⟨_, rfl⟩
 have HU0 := hid (show OwnU w2 w1.heap.size w1.heap.size m m (fun _ => nilS) (useL ts ks 0) by
  have e : ∀ q, useL ts ks 0 q = [] := fun q => by simp [useL]
  refine ⟨by rw [← madeU]; exact hown0, fun q hq => by rw [e q]; exact World.ownsRow_nil _ _ _ _, fun q r _ _ _ b hb => by cases hb⟩)
 have HB0 := hid ((Below.refl w1.heap.size w1).grown hgrow0 (Nat.le_refl _) (fun k h => by cases h))
 clear hown0 hgrow0
 rw [hg] at HU0
 try rw [hg]
 go_wp2_with fail
 try simp only [hg]
 have HGe := hid hg
 clear hg
 rw [← HGe.out] at HU0
 go_loopw [18] (fun s wr => ∃ (k : Nat) (X : Nat → Value), k ≤ n ∧ s = .int .i64 k ∧ Hid (OwnU wr w1.heap.size g m m X (useL ts ks k)) ∧ Hid (Below w1.heap.size w1 wr)) (fun s _ => n - (intOf s).toNat)
 case atStart => exact ⟨0, _, Nat.zero_le _, rfl, hid (by have := HU0.out; rw [HGe.out] at this ⊢; exact this), HB0⟩
 case round =>
  clear HU0 HB0
  obtain ⟨k, X, hk, rfl, HU, HBw⟩ := hrel
  by_cases hlt : k < n
  · have hlt' : (k : Int) < (n : Int) := by omega
    have hk0 : (0 : Int) ≤ (k : Int) := by omega
    obtain ⟨bb, off, a1, c1, a2, c2, rfl, bx, r1, r2, nl1, nl2⟩ := HR1w.out k (by have := HL.out; omega)
    obtain ⟨y0, y1, y2, y4, y5⟩ := bx.below HBw.out (Nat.le_refl _)
    have hsz := okDs_at HK.out (k := k) (by have := HL.out; omega)
    have HDone := hid (fun q (hq : q < m * 2) => use_done ts ks k q (by rw [HKl.out]; exact hq))
    have HR1 := hid r1
    have HR2 := hid r2
    have HLle := hid (fun q => show (useL ts ks k q).length ≤ 198 from Nat.le_trans (useL_len ts ks k q) (by omega))
    generalize ts.getD k tk0 = t at *
    obtain ⟨xi, be, en, al, rs, ws, inn, ou⟩ := t
    simp only at y0 y1 y2 y4 y5 hsz HDone HR1 HR2
    have HRok := hid hsz.2.2.1
    have HWok := hid hsz.2.2.2
    obtain ⟨n1, hn1⟩ : ∃ m, rs.length = m := ⟨_, rfl⟩
    obtain ⟨n2, hn2⟩ : ∃ m, ws.length = m := ⟨_, rfl⟩
    rw [hn1] at y4
    rw [hn2] at y5
    have hw1 : n1 ≤ 200 := by have := hsz.1; omega
    have hw2 : n2 ≤ 200 := by have := hsz.2.1; omega
    have HN := hid (And.intro hn1 hn2)
    obtain ⟨gb, hgb⟩ : ∃ gb, wr.heap.size = gb := ⟨_, rfl⟩
    have bA := Below.alloc1 wr (.cells #[.int .i64 xi, .int .i64 be, .int .i64 en, .slice a1 n1 c1, .slice a2 n2 c2] 68)
    have HUA := hid (HU.out.below bA)
    have HBA := hid (HBw.out.trans (bA.mono HBw.out.size))
    have HXA := hid (heap_alloc_new wr (.cells #[.int .i64 xi, .int .i64 be, .int .i64 en, .slice a1 n1 c1, .slice a2 n2 c2] 68))
    have HZA := hid (alloc_size wr (.cells #[.int .i64 xi, .int .i64 be, .int .i64 en, .slice a1 n1 c1, .slice a2 n2 c2] 68))
    rw [hgb] at HXA HZA
    have HGb := hid hgb
    clear bx r1 r2 nl1 nl2 bA hn1 hn2 hsz HU HBw hgb
    go_wp2_with fail
    clear y0 y1 y2 y4 y5
    refine (impl_singleSpans c2 (HR2.out.below HBA.out (Nat.le_refl _)) HN.out.2 (by omega)).mono ?_
    rintro e w3 ⟨bS, cS, ss, rfl, hss, rS, oS, b3⟩
    have HRS := hid (show ReadsM w3 bS (fl2 (dupM ws)) by
     have e1 := own_readsM (qs := un2 ss) (by rw [← fS_un2]; exact oS) (fun q hq => (rS q hq).below b3 (Nat.le_refl _)) (by rw [un2_len, show ss.length = n2 by rw [← HN.out.2, ← List.length_map (f := spE), hss, List.length_map]]; omega)
     rw [un2_e, hss] at e1
     exact e1)
    have HU3 := hid (HUA.out.below b3)
    have HB3 := hid (HBA.out.trans (b3.mono HBA.out.size))
    have HX3 := hid ((b3.block gb (by have := HZA.out; omega)).trans HXA.out)
    clear hss rS oS b3 HUA HBA HXA HZA
    go_wp2_with fail
    refine (impl_placesInSpans cK cS (HKr.out.below HB3.out (Nat.le_refl _)) HKl.out hm2 HKo.out.ok HKo.out.asc HRS.out (by unfold dupM; rw [List.length_map]; exact HN.out.2) (by omega) (dupM_ok HWok.out)).mono ?_
    rintro e w5 ⟨bp, kp, cp, rfl, hpl, po, be5⟩
    have HU := hid (HU3.out.below be5)
    have hpa : ∀ q, q < m * 2 → ∀ b, (X q).ownBlock = some b → (Value.slice bp kp cp).ownBlock ≠ some b := fun q hq b hb e => by
     have e1 := ((HU3.out.own q hq).lt b hb).2
     have e2 := (po.lt b e).1
     omega
    have HPa := hid hpa
    have HPo := hid (owns_lower po HB3.out.size)
    have HPl := hid hpl
    have HBx := hid ((be5.block gb (Array.getElem?_eq_some_iff.1 HX3.out).1).trans HX3.out)
    have HBw := hid (HB3.out.trans (be5.mono HB3.out.size))
    clear hpl po be5 hpa HU3 HB3 HX3 HRS
    go_wp2_with fail
    try simp only [HGb.out]
    go_loopw [29] (fun s wq => ∃ (t : Nat) (X : Nat → Value), t ≤ kp ∧ s = .int .i64 t ∧ Hid (OwnU wq w1.heap.size g m m X (addL (useL ts ks k) 0 ((plS ks (dupM ws)).take t) k)) ∧ Hid (wq.ownsRow w1.heap.size 3 1 (.slice bp kp cp) kp (ins (nI (plS ks (dupM ws))))) ∧ Hid (∀ q, q < m * 2 → ∀ b, (X q).ownBlock = some b → (Value.slice bp kp cp).ownBlock ≠ some b) ∧ Hid (wq.heap[gb]? = some (.cells #[.int .i64 xi, .int .i64 be, .int .i64 en, .slice a1 n1 c1, .slice a2 n2 c2] 68)) ∧ Hid (Below w1.heap.size w1 wq)) (fun s _ => kp - (intOf s).toNat)
    case atStart => exact ⟨0, X, Nat.zero_le _, rfl, hid (by rw [List.take_zero, addL_nil]; exact HU.out), HPo, HPa, HBx, HBw⟩
    case round =>
     clear HU HPo HPa HBx HBw
     obtain ⟨t, X, ht, rfl, HU, HPo, HPa, HBx, HBw⟩ := hrel
     obtain ⟨wo, hwo⟩ : ∃ wo, wo = wr := ⟨_, rfl⟩
     subst hwo
     have hkp2 : kp ≤ 20000 := by have e1 := HPl.out; have e2 := plS_len ks (dupM ws); have e3 := HKl.out; omega
     by_cases hlp : t < kp
     · have hlp' : (t : Int) < (kp : Int) := by omega
       have ht0 : (0 : Int) ≤ (t : Int) := by omega
       have htl : t < ((plS ks (dupM ws))).length := by have := HPl.out; omega
       obtain ⟨gp, hbp⟩ : ∃ gp, bp = some ⟨gp, 0, none⟩ := by
        rcases HPo.out.2 with ⟨_, h0⟩ | ⟨gp, _, _, e, _⟩
        · omega
        · obtain ⟨e1, -, -⟩ := Value.slice.inj e
          exact ⟨gp, e1⟩
       subst hbp
       have hpc : wo.cell? ⟨gp, t, none⟩ = some (.int .i64 ((((plS ks (dupM ws))).getD t 0 : Nat) : Int)) := by
        rw [HPo.out.cellAt t (by omega), getD_ins, nI, List.getElem?_map, List.getElem?_eq_getElem htl]
        simp [List.getD, htl]
       have hpm : ((plS ks (dupM ws))).getD t 0 < m := by
        have := plS_lt (ks := ks) (show ((plS ks (dupM ws))).getD t 0 ∈ (plS ks (dupM ws)) by rw [show ((plS ks (dupM ws))).getD t 0 = ((plS ks (dupM ws)))[t] by simp [List.getD, htl]]; exact List.getElem_mem htl)
        have := HKl.out; omega
       have HTk := hid (take_nat ((plS ks (dupM ws))) htl)
       have HNd := hid (nodup_at (plS_nodup _ _) htl)
       obtain ⟨at', hat⟩ : ∃ at', ((plS ks (dupM ws))).getD t 0 = at' := ⟨_, rfl⟩
       rw [hat] at hpc hpm HTk HNd
       have hq2 : at' * 2 + 0 < m * 2 := by omega
       have hq3 : at' * 2 < m * 2 := by omega
       have ham : (at' : Int) < (m : Int) := by omega
       have ha0 : (0 : Int) ≤ (at' : Int) := by omega
       obtain ⟨ax, cx, hX⟩ := HU.out.slice hq3
       have hlq : (addL (useL ts ks k) 0 ((plS ks (dupM ws)).take t) k (at' * 2)).length ≤ 200 := by
        have e1 := addL_len (useL ts ks k) 0 ((plS ks (dupM ws)).take t) k (at' * 2)
        have e2 := HLle.out (at' * 2)
        omega
       obtain ⟨LQ, hLQ⟩ : ∃ LQ, addL (useL ts ks k) 0 ((plS ks (dupM ws)).take t) k (at' * 2) = LQ := ⟨_, rfl⟩
       rw [hLQ] at hX hlq
       obtain ⟨lq, hlqe⟩ : ∃ lq, LQ.length = lq := ⟨_, rfl⟩
       rw [hlqe] at hX hlq
       have hcu := HU.out.cell hq3
       rw [hX] at hcu
       have bA := Below.alloc1 wo (.cells #[.int .i64 k] 3)
       have HUA := hid (HU.out.below bA)
       have HA1 := hid (heap_alloc_new wo (.cells #[.int .i64 k] 3))
       have HPA := hid (owns_below bA (Nat.le_refl _) HPo.out)
       have HBA := hid (HBw.out.trans (bA.mono HBw.out.size))
       have HXA := hid ((bA.block gb (Array.getElem?_eq_some_iff.1 HBx.out).1).trans HBx.out)
       have HZA := hid (And.intro (alloc_size wo (.cells #[.int .i64 k] 3)) (HPo.out.lt gp rfl).2)
       have HOQ := hid (show (wo.alloc (.cells #[.int .i64 k] 3)).ownsRow w1.heap.size 3 1 (.slice ax lq cx) lq (ins (nI LQ)) by
        have := HUA.out.own (at' * 2) hq3
        rw [hLQ, hX, hlqe] at this
        exact this)
       have HKc := hid (fun (w' : World) (gr : (wo.alloc (.cells #[.int .i64 k] 3)).grownBy w' (Value.slice ax lq cx).ownBlock) => HUA.out.kept_cell hq3 (by rw [hX]; exact gr))
       have HAdd := hid (fun (w' : World) (v' : Value) (o : w'.ownsRow w1.heap.size 3 1 v' (lq + 1) (ins (nI LQ) ++ [.int .i64 (k : Int)])) (gr : (wo.alloc (.cells #[.int .i64 k] 3)).grownBy w' (Value.slice ax lq cx).ownBlock) (hb : v'.ownBlock = (Value.slice ax lq cx).ownBlock ∨ v'.ownBlock = some (wo.alloc (.cells #[.int .i64 k] 3)).heap.size) =>
        show OwnU (w'.setCell ⟨g, at' * 2, none⟩ v') w1.heap.size g m m (upd X (at' * 2) v') (addL (useL ts ks k) 0 ((plS ks (dupM ws)).take (t + 1)) k) by
         rw [HTk.out, addL_step _ 0 (by decide) _ _ _ HNd.out]
         have := HUA.out.add (p := k) hq3 (v' := v') (by rw [hLQ, hlqe]; exact o) (by rw [hX]; exact gr) (by rw [hX]; exact hb)
         exact this)
       have HXq := hid hX
       clear hX hLQ hlqe bA HU HPo HBw HBx HTk HNd hat htl
       go_wp2_with (at_builtin; refine wpList_append_at rfl _ _ 29 rfl w1.heap.size 3 i0 (.int .i64 0) 1 8 Tryz.underlying29 hinf hz0 hz1 hz2 rfl (by decide) _ lq (ins (nI LQ)) rfl HOQ.out ⟨wo.heap.size, 0, none⟩ 1 1 [.int .i64 k] rfl rfl (World.news_of_block HA1.out) (by intro u hu; simp at hu; subst hu; rfl) (by unfold maxLen; omega) (by omega) HBA.out.size ?_; intro a5 c5 w5 o5 hg5 hb5; have hk5 := HKc.out w5 hg5; obtain ⟨hk51, hk52⟩ := hk5; rw [HXq.out] at hk51)
       have HU5 := hid (HAdd.out w5 _ o5 hg5 hb5)
       have HP5 := hid (show (w5.setCell ⟨g, at' * 2, none⟩ (.slice a5 (lq + 1) c5)).ownsRow w1.heap.size 3 1 (.slice (some ⟨gp, 0, none⟩) kp cp) kp (ins (nI (plS ks (dupM ws)))) by
        have e1 := HPA.out.kept hg5 (.inr (fun e => HPa.out (at' * 2) hq3 gp (by rw [HXq.out]; exact e.symm) rfl))
        exact e1.kept (grown_set w5 g _ _) (.inr (fun e => by
         have r1 := HU5.out.row
         have e2 : gp = g := Option.some.inj e
         have e3 := HUA.out.row.kept hg5 (owns_ne HUA.out.row HOQ.out (by decide))
         rcases owns_ne e1 e3 (by decide) with e4 | e4
         · cases e4
         · exact e4 (by show some gp = some g; rw [e2]))))
       have HPa5 := hid (show ∀ q, q < m * 2 → ∀ b, (upd X (at' * 2) (.slice a5 (lq + 1) c5) q).ownBlock = some b → (Value.slice (some ⟨gp, 0, none⟩) kp cp).ownBlock ≠ some b by
        intro q hq b hb e
        by_cases eq : q = at' * 2
        · subst eq
          rw [upd_same] at hb
          rcases hb5 with h5 | h5
          · exact HPa.out (at' * 2) hq3 b (by rw [HXq.out]; exact h5.symm.trans hb) e
          · rw [h5] at hb
            have e1 : gp = b := Option.some.inj e
            have e2 := Option.some.inj hb
            have := HZA.out
            omega
        · rw [upd_other _ _ eq] at hb
          exact HPa.out q hq b hb e)
       have hgbv : ∀ (v : Value) (nn : Nat) (xs : List Value) (ty : TypeId) (s : Nat), (wo.alloc (.cells #[.int .i64 k] 3)).ownsRow w1.heap.size ty s v nn xs → ty ≠ 68 → v.ownBlock ≠ some gb := by
        intro v nn xs ty s o hne e
        rcases o.2 with ⟨e1, _⟩ | ⟨g', _, cur, e1, _, hh, _⟩
        · rw [e1] at e; cases e
        · rw [e1] at e
          obtain rfl : g' = gb := Option.some.inj e
          rw [HXA.out] at hh
          have := Option.some.inj hh
          injection this with _ e2
          exact hne e2.symm
       have HX5 := hid (show (w5.setCell ⟨g, at' * 2, none⟩ (.slice a5 (lq + 1) c5)).heap[gb]? = some (.cells #[.int .i64 xi, .int .i64 be, .int .i64 en, .slice a1 n1 c1, .slice a2 n2 c2] 68) by
        have hlt := (Array.getElem?_eq_some_iff.1 HXA.out).1
        have e1 := (hg5.block gb hlt (fun e => hgbv _ _ _ _ _ HOQ.out (by decide) e.symm)).trans HXA.out
        have hg' : gb ≠ g := fun e => hgbv _ _ _ _ _ HUA.out.row (by decide) (by rw [e]; rfl)
        exact ((grown_set w5 g _ _).block gb (Nat.lt_of_lt_of_le hlt hg5.size) (fun e => hg' (Option.some.inj e))).trans e1)
       have HB5 := hid (show Below w1.heap.size w1 (w5.setCell ⟨g, at' * 2, none⟩ (.slice a5 (lq + 1) c5)) from (HBA.out.grown hg5 HBA.out.size (fun r e => (HOQ.out.lt r e).1)).setCell (p := ⟨g, at' * 2, none⟩) (HUA.out.row.lt g rfl).1 _)
       clear o5 hg5 hb5 hk51 hk52 hgbv hpc hcu
       go_wp2_with fail
       go_roundw
       case rel => exact ⟨t + 1, upd X (at' * 2) (.slice a5 (lq + 1) c5), by omega, by go_num, HU5, HP5, HPa5, HX5, HB5⟩
       case measure => simp [intOf]; omega
     · have hlp' : ¬ (t : Int) < (kp : Int) := by omega
       have HTf := hid (show ((plS ks (dupM ws))).take t = (plS ks (dupM ws)) from List.take_of_length_le (by have := HPl.out; omega))
       rw [HTf.out] at HU
       clear HTf hlp ht
       obtain ⟨-, -, -, y4, -⟩ := BoxV.row HBx.out
       go_wp2_with fail
       clear y4
       refine (impl_placesInSpans cK c1 (HKr.out.below HBw.out (Nat.le_refl _)) HKl.out hm2 HKo.out.ok HKo.out.asc (HR1.out.below HBw.out (Nat.le_refl _)) HN.out.1 (by omega) HRok.out).mono ?_
       rintro e w4 ⟨bp1, kp1, cp1, rfl, hpl1, po1, be4⟩
       have HU4 := hid (HU.out.below be4)
       have hpa4 : ∀ q, q < m * 2 → ∀ b, (X q).ownBlock = some b → (Value.slice bp1 kp1 cp1).ownBlock ≠ some b := fun q hq b hb e => by
        have e1 := ((HU.out.own q hq).lt b hb).2
        have e2 := (po1.lt b e).1
        omega
       have HX4 := hid ((be4.block gb (Array.getElem?_eq_some_iff.1 HBx.out).1).trans HBx.out)
       have HB4 := hid (HBw.out.trans (be4.mono HBw.out.size))
       have HP4 := hid (owns_lower po1 HBw.out.size)
       have HPa4 := hid hpa4
       have HLle2 := hid (fun q => show ((addL (useL ts ks k) 0 (plS ks (dupM ws)) k) q).length ≤ 199 by
        unfold addL
        have := HLle.out q
        split
        · rw [List.length_append]; simp; omega
        · omega)
       clear HLle HPl HU HPo HPa HBx HBw hpa4 po1 be4
       have HU := HU4
       have HPo := HP4
       have HPa := HPa4
       have HBx := HX4
       have HBw := HB4
       have HLle := HLle2
       have HPl := hid hpl1
       clear HU4 HP4 HPa4 HX4 HB4 HLle2 hpl1
       go_wp2_with fail
       go_loopw [51] (fun s wq => ∃ (t : Nat) (X : Nat → Value), t ≤ kp1 ∧ s = .int .i64 t ∧ Hid (OwnU wq w1.heap.size g m m X (addL (addL (useL ts ks k) 0 (plS ks (dupM ws)) k) 1 ((plS ks rs).take t) k)) ∧ Hid (wq.ownsRow w1.heap.size 3 1 (.slice bp1 kp1 cp1) kp1 (ins (nI (plS ks rs)))) ∧ Hid (∀ q, q < m * 2 → ∀ b, (X q).ownBlock = some b → (Value.slice bp1 kp1 cp1).ownBlock ≠ some b) ∧ Hid (wq.heap[gb]? = some (.cells #[.int .i64 xi, .int .i64 be, .int .i64 en, .slice a1 n1 c1, .slice a2 n2 c2] 68)) ∧ Hid (Below w1.heap.size w1 wq)) (fun s _ => kp1 - (intOf s).toNat)
       case atStart => exact ⟨0, X, Nat.zero_le _, rfl, hid (by rw [List.take_zero, addL_nil]; exact HU.out), HPo, HPa, HBx, HBw⟩
       case round =>
        clear HU HPo HPa HBx HBw
        obtain ⟨t, X, ht, rfl, HU, HPo, HPa, HBx, HBw⟩ := hrel
        obtain ⟨wo, hwo⟩ : ∃ wo, wo = wr := ⟨_, rfl⟩
        subst hwo
        have hkp2 : kp1 ≤ 20000 := by have e1 := HPl.out; have e2 := plS_len ks rs; have e3 := HKl.out; omega
        by_cases hlp : t < kp1
        · have hlp' : (t : Int) < (kp1 : Int) := by omega
          have ht0 : (0 : Int) ≤ (t : Int) := by omega
          have htl : t < ((plS ks rs)).length := by have := HPl.out; omega
          obtain ⟨gp, hbp⟩ : ∃ gp, bp1 = some ⟨gp, 0, none⟩ := by
           rcases HPo.out.2 with ⟨_, h0⟩ | ⟨gp, _, _, e, _⟩
           · omega
           · obtain ⟨e1, -, -⟩ := Value.slice.inj e
             exact ⟨gp, e1⟩
          subst hbp
          have hpc : wo.cell? ⟨gp, t, none⟩ = some (.int .i64 ((((plS ks rs)).getD t 0 : Nat) : Int)) := by
           rw [HPo.out.cellAt t (by omega), getD_ins, nI, List.getElem?_map, List.getElem?_eq_getElem htl]
           simp [List.getD, htl]
          have hpm : ((plS ks rs)).getD t 0 < m := by
           have := plS_lt (ks := ks) (show ((plS ks rs)).getD t 0 ∈ (plS ks rs) by rw [show ((plS ks rs)).getD t 0 = ((plS ks rs))[t] by simp [List.getD, htl]]; exact List.getElem_mem htl)
           have := HKl.out; omega
          have HTk := hid (take_nat ((plS ks rs)) htl)
          have HNd := hid (nodup_at (plS_nodup _ _) htl)
          obtain ⟨at', hat⟩ : ∃ at', ((plS ks rs)).getD t 0 = at' := ⟨_, rfl⟩
          rw [hat] at hpc hpm HTk HNd
          have hq2 : at' * 2 + 1 < m * 2 := by omega
          have hq3 : at' * 2 + 1 < m * 2 := by omega
          have ham : (at' : Int) < (m : Int) := by omega
          have ha0 : (0 : Int) ≤ (at' : Int) := by omega
          obtain ⟨ax, cx, hX⟩ := HU.out.slice hq3
          have hlq : (addL (addL (useL ts ks k) 0 (plS ks (dupM ws)) k) 1 ((plS ks rs).take t) k (at' * 2 + 1)).length ≤ 200 := by
           have e1 := addL_len (addL (useL ts ks k) 0 (plS ks (dupM ws)) k) 1 ((plS ks rs).take t) k (at' * 2 + 1)
           have e2 := HLle.out (at' * 2 + 1)
           omega
          obtain ⟨LQ, hLQ⟩ : ∃ LQ, addL (addL (useL ts ks k) 0 (plS ks (dupM ws)) k) 1 ((plS ks rs).take t) k (at' * 2 + 1) = LQ := ⟨_, rfl⟩
          rw [hLQ] at hX hlq
          obtain ⟨lq, hlqe⟩ : ∃ lq, LQ.length = lq := ⟨_, rfl⟩
          rw [hlqe] at hX hlq
          have hcu := HU.out.cell hq3
          rw [hX] at hcu
          have bA := Below.alloc1 wo (.cells #[.int .i64 k] 3)
          have HUA := hid (HU.out.below bA)
          have HA1 := hid (heap_alloc_new wo (.cells #[.int .i64 k] 3))
          have HPA := hid (owns_below bA (Nat.le_refl _) HPo.out)
          have HBA := hid (HBw.out.trans (bA.mono HBw.out.size))
          have HXA := hid ((bA.block gb (Array.getElem?_eq_some_iff.1 HBx.out).1).trans HBx.out)
          have HZA := hid (And.intro (alloc_size wo (.cells #[.int .i64 k] 3)) (HPo.out.lt gp rfl).2)
          have HOQ := hid (show (wo.alloc (.cells #[.int .i64 k] 3)).ownsRow w1.heap.size 3 1 (.slice ax lq cx) lq (ins (nI LQ)) by
           have := HUA.out.own (at' * 2 + 1) hq3
           rw [hLQ, hX, hlqe] at this
           exact this)
          have HKc := hid (fun (w' : World) (gr : (wo.alloc (.cells #[.int .i64 k] 3)).grownBy w' (Value.slice ax lq cx).ownBlock) => HUA.out.kept_cell hq3 (by rw [hX]; exact gr))
          have HAdd := hid (fun (w' : World) (v' : Value) (o : w'.ownsRow w1.heap.size 3 1 v' (lq + 1) (ins (nI LQ) ++ [.int .i64 (k : Int)])) (gr : (wo.alloc (.cells #[.int .i64 k] 3)).grownBy w' (Value.slice ax lq cx).ownBlock) (hb : v'.ownBlock = (Value.slice ax lq cx).ownBlock ∨ v'.ownBlock = some (wo.alloc (.cells #[.int .i64 k] 3)).heap.size) =>
           show OwnU (w'.setCell ⟨g, at' * 2 + 1, none⟩ v') w1.heap.size g m m (upd X (at' * 2 + 1) v') (addL (addL (useL ts ks k) 0 (plS ks (dupM ws)) k) 1 ((plS ks rs).take (t + 1)) k) by
            rw [HTk.out, addL_step _ 1 (by decide) _ _ _ HNd.out]
            have := HUA.out.add (p := k) hq3 (v' := v') (by rw [hLQ, hlqe]; exact o) (by rw [hX]; exact gr) (by rw [hX]; exact hb)
            exact this)
          have HXq := hid hX
          clear hX hLQ hlqe bA HU HPo HBw HBx HTk HNd hat htl
          go_wp2_with (at_builtin; refine wpList_append_at rfl _ _ 29 rfl w1.heap.size 3 i0 (.int .i64 0) 1 8 Tryz.underlying29 hinf hz0 hz1 hz2 rfl (by decide) _ lq (ins (nI LQ)) rfl HOQ.out ⟨wo.heap.size, 0, none⟩ 1 1 [.int .i64 k] rfl rfl (World.news_of_block HA1.out) (by intro u hu; simp at hu; subst hu; rfl) (by unfold maxLen; omega) (by omega) HBA.out.size ?_; intro a5 c5 w5 o5 hg5 hb5; have hk5 := HKc.out w5 hg5; obtain ⟨hk51, hk52⟩ := hk5; rw [HXq.out] at hk51)
          have HU5 := hid (HAdd.out w5 _ o5 hg5 hb5)
          have HP5 := hid (show (w5.setCell ⟨g, at' * 2 + 1, none⟩ (.slice a5 (lq + 1) c5)).ownsRow w1.heap.size 3 1 (.slice (some ⟨gp, 0, none⟩) kp1 cp1) kp1 (ins (nI (plS ks rs))) by
           have e1 := HPA.out.kept hg5 (.inr (fun e => HPa.out (at' * 2 + 1) hq3 gp (by rw [HXq.out]; exact e.symm) rfl))
           exact e1.kept (grown_set w5 g _ _) (.inr (fun e => by
            have r1 := HU5.out.row
            have e2 : gp = g := Option.some.inj e
            have e3 := HUA.out.row.kept hg5 (owns_ne HUA.out.row HOQ.out (by decide))
            rcases owns_ne e1 e3 (by decide) with e4 | e4
            · cases e4
            · exact e4 (by show some gp = some g; rw [e2]))))
          have HPa5 := hid (show ∀ q, q < m * 2 → ∀ b, (upd X (at' * 2 + 1) (.slice a5 (lq + 1) c5) q).ownBlock = some b → (Value.slice (some ⟨gp, 0, none⟩) kp1 cp1).ownBlock ≠ some b by
           intro q hq b hb e
           by_cases eq : q = at' * 2 + 1
           · subst eq
             rw [upd_same] at hb
             rcases hb5 with h5 | h5
             · exact HPa.out (at' * 2 + 1) hq3 b (by rw [HXq.out]; exact h5.symm.trans hb) e
             · rw [h5] at hb
               have e1 : gp = b := Option.some.inj e
               have e2 := Option.some.inj hb
               have := HZA.out
               omega
           · rw [upd_other _ _ eq] at hb
             exact HPa.out q hq b hb e)
          have hgbv : ∀ (v : Value) (nn : Nat) (xs : List Value) (ty : TypeId) (s : Nat), (wo.alloc (.cells #[.int .i64 k] 3)).ownsRow w1.heap.size ty s v nn xs → ty ≠ 68 → v.ownBlock ≠ some gb := by
           intro v nn xs ty s o hne e
           rcases o.2 with ⟨e1, _⟩ | ⟨g', _, cur, e1, _, hh, _⟩
           · rw [e1] at e; cases e
           · rw [e1] at e
             obtain rfl : g' = gb := Option.some.inj e
             rw [HXA.out] at hh
             have := Option.some.inj hh
             injection this with _ e2
             exact hne e2.symm
          have HX5 := hid (show (w5.setCell ⟨g, at' * 2 + 1, none⟩ (.slice a5 (lq + 1) c5)).heap[gb]? = some (.cells #[.int .i64 xi, .int .i64 be, .int .i64 en, .slice a1 n1 c1, .slice a2 n2 c2] 68) by
           have hlt := (Array.getElem?_eq_some_iff.1 HXA.out).1
           have e1 := (hg5.block gb hlt (fun e => hgbv _ _ _ _ _ HOQ.out (by decide) e.symm)).trans HXA.out
           have hg' : gb ≠ g := fun e => hgbv _ _ _ _ _ HUA.out.row (by decide) (by rw [e]; rfl)
           exact ((grown_set w5 g _ _).block gb (Nat.lt_of_lt_of_le hlt hg5.size) (fun e => hg' (Option.some.inj e))).trans e1)
          have HB5 := hid (show Below w1.heap.size w1 (w5.setCell ⟨g, at' * 2 + 1, none⟩ (.slice a5 (lq + 1) c5)) from (HBA.out.grown hg5 HBA.out.size (fun r e => (HOQ.out.lt r e).1)).setCell (p := ⟨g, at' * 2 + 1, none⟩) (HUA.out.row.lt g rfl).1 _)
          clear o5 hg5 hb5 hk51 hk52 hgbv hpc hcu
          go_wp2_with fail
          go_roundw
          case rel => exact ⟨t + 1, upd X (at' * 2 + 1) (.slice a5 (lq + 1) c5), by omega, by go_num, HU5, HP5, HPa5, HX5, HB5⟩
          case measure => simp [intOf]; omega
        · have hlp' : ¬ (t : Int) < (kp1 : Int) := by omega
          have HTf := hid (show ((plS ks rs)).take t = (plS ks rs) from List.take_of_length_le (by have := HPl.out; omega))
          rw [HTf.out] at HU
          clear HTf hlp ht
          go_wp2_with fail
          go_roundw
          case rel => exact ⟨k + 1, X, by omega, by go_num, hid (HU.out.congr (fun q hq => (HDone.out q hq).symm)), HBw⟩
          case measure => simp [intOf]; omega
  · have hlt' : ¬ (k : Int) < (n : Int) := by omega
    obtain rfl : k = n := by omega
    go_wp2_with fail
    go_ret
    exact ⟨g, m, rfl, ks, HKl.out, hm2, HKo.out, ⟨X, ⟨owns_lower HU.out.row B1.out.size, fun q hq => owns_lower (HU.out.own q hq) B1.out.size, HU.out.apart⟩⟩, B1.out.trans (HBw.out.mono B1.out.size)⟩
end Go.Proofs.YtjcjoabblafboaaGreat
/- The contracts of bits.Mul and slices.Repeat at one number. Conditions: at most 100 times. -/

namespace Go.Proofs.YtjcjoabblafboaaGreat
open Go.RowKit
set_option maxRecDepth 100000
theorem and32 (n : Nat) (h : n < 4294967296) : bits .and .u64 (n : Int) 4294967295 = (n : Int) := by
 have h255 : (BitVec.ofInt 64 4294967295).toNat = 2 ^ 32 - 1 := by decide
 have key : (BitVec.ofInt 64 (n : Int) &&& BitVec.ofInt 64 4294967295).toNat = ((n : Int) % ((2 ^ 64 : Nat) : Int)).toNat % 2 ^ 32 := by
  rw [BitVec.toNat_and, BitVec.toNat_ofInt, h255, Nat.and_two_pow_sub_one_eq_mod]
 show IntKind.u64.wrap ((BitVec.ofInt 64 (n : Int) &&& BitVec.ofInt 64 4294967295).toNat : Nat) = (n : Int)
 rw [key]
 simp [IntKind.wrap, IntKind.bits, IntKind.signed]
 omega
theorem u64n (n : Nat) (h : n < 4294967296) : IntKind.u64.wrap (n : Int) = (n : Int) := by simp [IntKind.wrap, IntKind.bits, IntKind.signed]; omega
set_option maxHeartbeats 1600000 in
theorem mul64_one (n : Nat) (hn : n ≤ 1048576) (w : World) : Calls Tryz.prog 190 #[.int .u64 1, .int .u64 (n : Int)] w fun e w' => e = .returned (.tuple #[.int .u64 0, .int .u64 (n : Int)]) ∧ w' = w := by
 have h1 : (n : Int) / 4294967296 = 0 := by omega
 have a1 : bits .and .u64 1 4294967295 = 1 := and32 1 (by omega)
 have a0 : bits .and .u64 0 4294967295 = 0 := and32 0 (by omega)
 have a2 := and32 n (by omega)
 have a3 := u64n n (by omega)
 have a4 : IntKind.u64.wrap 0 = 0 := u64n 0 (by omega)
 go_enter Tryz.func190, Tryz.ntmps190
 go_wp2_with fail
 go_ret2
 exact ⟨rfl, rfl⟩
set_option maxHeartbeats 1600000 in
theorem mul_one14 (n : Nat) (hn : n ≤ 1048576) (w : World) : Calls Tryz.prog 142 #[.int .u64 1, .int .u64 (n : Int)] w fun e w' => e = .returned (.tuple #[.int .u64 0, .int .u64 (n : Int)]) ∧ w' = w := by
 go_enter Tryz.func142, Tryz.ntmps142
 go_wp2_with fail
 refine (mul64_one n hn w).mono ?_
 rintro e w1 ⟨rfl, e1⟩
 subst e1
 go_wp2_with fail
 go_ret2
 exact ⟨rfl, rfl⟩
theorem sizeI14 : (Tryz.prog.info? 3).map (·.size) = some 1 := by kernel_rfl
def negs (m n : Nat) : List Int := List.replicate m (-1) ++ List.replicate (n - m) 0
theorem negs_len {m n : Nat} (h : m ≤ n) : (negs m n).length = n := by unfold negs; rw [List.length_append, List.length_replicate, List.length_replicate]; omega
theorem negs_step {m k n : Nat} (_ : m + k ≤ n) : (ins (negs m n)).take m ++ ins (List.replicate k (-1)) ++ (ins (negs m n)).drop (m + k) = ins (negs (m + k) n) := by
 unfold negs
 rw [ins_append]
 have l1 : (ins (List.replicate m (-1 : Int))).length = m := by rw [ins_length, List.length_replicate]
 rw [List.take_left' l1, ← List.drop_drop, List.drop_left' l1, ← ins_append, List.replicate_append_replicate]
 unfold ins
 rw [List.map_append, ← List.map_drop, List.drop_replicate, show n - m - k = n - (m + k) by omega]
set_option maxHeartbeats 6400000 in
theorem repeat_neg (N b : Nat) (hN : N ≤ 100) {w : World} (hx : w.cell? ⟨b, 0, none⟩ = some (.int .i64 (-1))) :
 Calls Tryz.prog 102 #[.slice (some ⟨b, 0, none⟩) 1 1, .int .i64 N] w fun e w' => e = .returned (.slice (some ⟨w.heap.size, 0, none⟩) N N) ∧ w'.ownsRow w.heap.size 3 1 (.slice (some ⟨w.heap.size, 0, none⟩) N N) N (ins (negs N N)) ∧ Below w.heap.size w w' := by
 obtain ⟨i0, hinf, hz0, hz1, hz2⟩ := infoI14
 have hN0 : ¬ (N : Int) < 0 := by omega
 have hu1 := u64n N (by omega)
 have hi1 : IntKind.i64.wrap (N : Int) = (N : Int) := by simp [IntKind.wrap, IntKind.bits, IntKind.signed]; omega
 have hbig : ¬ (9223372036854775807 : Int) < (N : Int) := by omega
 have hbl := World.block_lt_of_cell? w _ hx
 go_enter Tryz.func102, Tryz.ntmps102
 go_wp2_with fail
 refine (mul_one14 N (by omega) w).mono ?_
 rintro e w1 ⟨rfl, e1⟩
 subst e1
 go_wp2_with (at_make; refine wpList_make_full _ rfl _ _ 29 rfl w1.heap.size 3 i0 (.int .i64 0) 1 Tryz.underlying29 hinf hz0 hz1 _ _ _ _ N rfl rfl (by omega) (by omega) ?b2 ?b3 (Nat.le_refl _) ?_)
 case b2 => rw [hz2]; omega
 case b3 => unfold maxLen; omega
 intro w2 hown0 hgrow0
 have hmade : (madeCells #[.int .i64 0] N).toList = ins (negs 0 N) := by
  unfold negs ins
  simp only [madeCells, List.replicate_zero, List.nil_append, Nat.sub_zero]
  apply List.ext_getElem?
  intro i
  by_cases hi : i < N
  · simp [hi, Nat.mod_one]
  · simp [hi]
 have HO := hid (show w2.ownsRow w1.heap.size 3 1 (.slice (some ⟨w1.heap.size, 0, none⟩) N N) N (ins (negs 0 N)) by rw [← hmade]; exact hown0)
 have HB := hid ((Below.refl w1.heap.size w1).grown hgrow0 (Nat.le_refl _) (fun k h => by cases h))
 have hx2 : w2.cell? ⟨b, 0, none⟩ = some (.int .i64 (-1)) := (HB.out.cell (p := ⟨b, 0, none⟩) hbl).trans hx
 obtain ⟨g, hg⟩ : ∃ g, w1.heap.size = g := ⟨_, rfl⟩
 have HGe := hid hg
 clear hown0 hgrow0 hmade hN0 hbig hx
 rw [hg] at HO HB
 try simp only [hg]
 clear hg
 by_cases h0 : N = 0
 · subst h0
   have hcp := fun ty => run_copy_none (P := Tryz.prog) w2 29 29 ty 3 (some ⟨g, 0, none⟩) (some ⟨b, 0, none⟩) 0 0 1 1 Tryz.underlying29 sizeI14 rfl
   go_wp2_with fail
   go_loopw [8] (fun s wr => s = .int .i64 0 ∧ wr = w2) (fun _ _ => 0)
   case atStart => exact ⟨by first | rfl | simp [goInt], rfl⟩
   case round =>
    obtain ⟨rfl, rfl⟩ := hrel
    go_wp2_with fail
    go_ret
    exact ⟨by rw [HGe.out]; rfl, by rw [HGe.out]; exact HO.out, by rw [HGe.out]; exact HB.out⟩
 · have hrow : w2.heap[g]? = some (.cells (ins (negs 0 N)).toArray 3 (0, 0)) := by
    obtain ⟨rest, hr, hl, _⟩ := owns_blk HO.out
    have : rest = [] := by
     rw [List.length_append, HO.out.1] at hl
     exact List.length_eq_zero_iff.1 (by omega)
    rw [this, List.append_nil] at hr
    exact hr
   have hcp : ∀ ty, (Builtin.copy_ #[29, 29] ty #[.slice (some ⟨g, 0, none⟩) N N, .slice (some ⟨b, 0, none⟩) 1 1]).run Tryz.prog w2 = .ok (.int .i64 1) (w2.setRow g (ins (negs 1 N)).toArray) := fun ty => by
    rw [run_copy_row (P := Tryz.prog) w2 29 29 ty 3 g 0 N N ⟨b, 0, none⟩ 1 1 (ins (negs 0 N)).toArray 3 (ins (List.replicate 1 (-1))) Tryz.underlying29 sizeI14 hrow (by show 1 = Nat.min 1 N; exact (Nat.min_eq_left (by omega)).symm) (by
     intro j v hv
     rcases j with _ | j
     · simp [ins] at hv; subst hv; simpa [Addr.add] using hx2
     · simp [ins] at hv) (by simp [ins_length, negs_len (Nat.zero_le N)]; omega) (ins_one _)]
    have hst := negs_step (m := 0) (k := 1) (n := N) (by omega)
    rw [Nat.zero_add] at hst
    show Result.ok (goInt 1) (w2.setRow g ((ins (negs 0 N)).take 0 ++ ins (List.replicate 1 (-1)) ++ (ins (negs 0 N)).drop (0 + 1)).toArray) = _
    rw [Nat.zero_add, hst]; rfl
   have HR1 := hid (setRow_heap w2 g _ (ins (negs 1 N)).toArray _ _ hrow)
   have HB1 := hid (below_setRow HB.out (Nat.le_refl g) (ins (negs 1 N)).toArray)
   clear hrow HO HB hx2
   go_wp2_with fail
   clear hcp
   go_loopw [8] (fun s wr => ∃ m : Nat, 1 ≤ m ∧ m ≤ N ∧ s = .int .i64 m ∧ Hid (wr.heap[g]? = some (.cells (ins (negs m N)).toArray 3 (0, 0))) ∧ Hid (Below g w1 wr)) (fun s _ => N - (intOf s).toNat)
   case atStart => exact ⟨1, by omega, by omega, rfl, HR1, HB1⟩
   case round =>
    clear HR1 HB1
    obtain ⟨m, hm1, hmN, rfl, HRo, HBw⟩ := hrel
    by_cases hlt : m < N
    · have hlt' : (m : Int) < (N : Int) := by omega
      have hm0 : (0 : Int) ≤ (m : Int) := by omega
      have hmN' : (m : Int) ≤ (N : Int) := by omega
      have hne : ¬ N = m := by omega
      obtain ⟨k, hk⟩ : ∃ k, Nat.min m (N - m) = k := ⟨_, rfl⟩
      have hk2 : 1 ≤ k ∧ k ≤ m ∧ m + k ≤ N := by
       have : min m (N - m) = k := hk
       omega
      have hw : IntKind.i64.wrap ((m : Int) + (k : Int)) = ((m + k : Nat) : Int) := by simp [IntKind.wrap, IntKind.bits, IntKind.signed]; omega
      have hcp : ∀ ty, (Builtin.copy_ #[29, 29] ty #[.slice (some ⟨g, m, none⟩) (N - m) (N - m), .slice (some ⟨g, 0, none⟩) m N]).run Tryz.prog wr.drew = .ok (.int .i64 k) (wr.drew.setRow g (ins (negs (m + k) N)).toArray) := fun ty => by
       rw [run_copy_row (P := Tryz.prog) wr.drew 29 29 ty 3 g m (N - m) (N - m) ⟨g, 0, none⟩ m N (ins (negs m N)).toArray 3 (ins (List.replicate k (-1))) Tryz.underlying29 sizeI14 HRo.out (by rw [ins_length, List.length_replicate]; exact hk.symm) (by
        intro j v hv
        have hj : j < k := by
         by_cases q : j < k
         · exact q
         · rw [List.getElem?_eq_none (by rw [ins_length, List.length_replicate]; omega)] at hv; cases hv
        have ea : (⟨g, 0, none⟩ : Addr).add j = ⟨g, j, none⟩ := by
         unfold Addr.add
         split
         · rename_i h; subst h; rfl
         · simp
        rw [ea]
        show wr.cell? _ = _
        rw [block14 HRo.out j, ← hv, getD_ins, getD_ins]
        congr 1
        unfold negs
        rw [List.getElem?_append_left (by rw [List.length_replicate]; omega), List.getElem?_replicate, List.getElem?_replicate, if_pos (by omega), if_pos hj]) (by simp [ins_length, negs_len hmN]; omega) (ins_one _)]
       have hst := negs_step (m := m) (k := k) (n := N) hk2.2.2
       show Result.ok (goInt (ins (List.replicate k (-1))).length) (wr.drew.setRow g ((ins (negs m N)).take m ++ ins (List.replicate k (-1)) ++ (ins (negs m N)).drop (m + (ins (List.replicate k (-1))).length)).toArray) = _
       rw [ins_length, List.length_replicate, hst]; rfl
      have HR2 := hid (setRow_heap wr.drew g _ (ins (negs (m + k) N)).toArray _ _ HRo.out)
      have HB2 := hid (below_setRow (HBw.out.drew) (Nat.le_refl g) (ins (negs (m + k) N)).toArray)
      clear hk
      go_wp2
      refine region_K 99 (fun _ => True) (by kernel_rfl) ?_ (fun hHeld => ?_)
      · trivial
      generalize wr.drew = v0 at *
      refine anyK_take2 (i := 0) (v := ?v0_1) rfl (by kernel_rfl) (by kernel_rfl) (by kernel_rfl) (by rfl) (fun _ _ _ h => h) (by rfl) hHeld ?hy0_1 (some 38) (by rfl) ?rest0_1
      case hy0_1 => (intro W hSw; obtain _ := hSw; go_simp; (try with_reducible rfl))
      try simp only [Act.put, List.setIfInBounds_toArray, List.set_cons_succ, List.set_cons_zero]
      refine anyK_take2 (i := 1) (v := ?v1_2) rfl (by kernel_rfl) (by kernel_rfl) (by kernel_rfl) (by rfl) (fun _ _ _ h => h) (by rfl) hHeld ?hy1_2 (some 39) (by rfl) ?rest1_2
      case hy1_2 => (intro W hSw; obtain _ := hSw; go_simp; (try with_reducible rfl))
      try simp only [Act.put, List.setIfInBounds_toArray, List.set_cons_succ, List.set_cons_zero]
      refine anyK_take2 (i := 2) (v := ?v2_3) rfl (by kernel_rfl) (by kernel_rfl) (by kernel_rfl) (by rfl) (fun _ _ _ h => h) (by rfl) hHeld ?hy2_3 (some 40) (by rfl) ?rest2_3
      case hy2_3 => (intro W hSw; obtain _ := hSw; go_simp; (try with_reducible rfl))
      try simp only [Act.put, List.setIfInBounds_toArray, List.set_cons_succ, List.set_cons_zero]
      refine anyK_take2 (i := 3) (v := ?v3_4) rfl (by kernel_rfl) (by kernel_rfl) (by kernel_rfl) (by rfl) (fun _ _ _ h => h) (by rfl) hHeld ?hy3_4 (some 41) (by rfl) ?rest3_4
      case hy3_4 => (intro W hSw; obtain _ := hSw; go_simp; (try with_reducible rfl))
      try simp only [Act.put, List.setIfInBounds_toArray, List.set_cons_succ, List.set_cons_zero]
      refine anyK_take2 (i := 4) (v := ?v4_5) rfl (by kernel_rfl) (by kernel_rfl) (by kernel_rfl) (by rfl) (fun _ _ _ h => h) (by rfl) hHeld ?hy4_5 (some 42) (by rfl) ?rest4_5
      case hy4_5 => (intro W hSw; obtain _ := hSw; go_simp; (try with_reducible rfl))
      try simp only [Act.put, List.setIfInBounds_toArray, List.set_cons_succ, List.set_cons_zero]
      refine anyK_take2 (i := 5) (v := ?v5_6) rfl (by kernel_rfl) (by kernel_rfl) (by kernel_rfl) (by rfl) (fun _ _ _ h => h) (by rfl) hHeld ?hy5_6 (some 43) (by rfl) ?rest5_6
      case hy5_6 => (intro W hSw; obtain _ := hSw; go_simp; (try with_reducible rfl))
      try simp only [Act.put, List.setIfInBounds_toArray, List.set_cons_succ, List.set_cons_zero]
      refine anyK_take2 (i := 6) (v := ?v6_7) rfl (by kernel_rfl) (by kernel_rfl) (by kernel_rfl) (by rfl) (fun _ _ _ h => h) (by rfl) hHeld ?hy6_7 (some 44) (by rfl) ?rest6_7
      case hy6_7 => (intro W hSw; obtain _ := hSw; go_simp; (try with_reducible rfl))
      try simp only [Act.put, List.setIfInBounds_toArray, List.set_cons_succ, List.set_cons_zero]
      refine anyK_step (i := 7) (by kernel_rfl) rfl (fun KP hK => ?_)
      go_simp
      clear hHeld
      refine hK.out _ _ trivial (fun hHeld => ?_)
      clear hK KP hcp
      try simp only [Act.put, List.setIfInBounds_toArray, List.set_cons_succ, List.set_cons_zero]
      refine anyK_take2 (i := 8) (v := ?v8_8) rfl (by kernel_rfl) (by kernel_rfl) (by kernel_rfl) (by rfl) (fun _ _ _ h => h) (by rfl) hHeld ?hy8_8 (some 46) (by rfl) ?rest8_8
      case hy8_8 => (intro W hSw; obtain _ := hSw; go_simp; (try with_reducible rfl))
      try simp only [Act.put, List.setIfInBounds_toArray, List.set_cons_succ, List.set_cons_zero]
      refine anyK_take2 (i := 9) (v := ?v9_9) rfl (by kernel_rfl) (by kernel_rfl) (by kernel_rfl) (by rfl) (fun _ _ _ h => h) (by rfl) hHeld ?hy9_9 (some 8) (by rfl) ?rest9_9
      case hy9_9 => (intro W hSw; obtain _ := hSw; go_simp; (try with_reducible rfl))
      try simp only [Act.put, List.setIfInBounds_toArray, List.set_cons_succ, List.set_cons_zero]
      refine anyK_done (by kernel_rfl) ?_ _
      clear hHeld
      go_wp2_with fail
      go_roundw
      case rel => exact ⟨m + k, by omega, by omega, by first | rfl | go_num, HR2, HB2⟩
      case measure => simp [intOf]; omega
    · have hlt' : ¬ (m : Int) < (N : Int) := by omega
      obtain rfl : m = N := by omega
      have HOw := hid (show wr.ownsRow g 3 1 (.slice (some ⟨g, 0, none⟩) m m) m (ins (negs m m)) from blk_owns (rest := []) (by rw [List.append_nil]; exact HRo.out) (by rw [ins_length, negs_len (Nat.le_refl _), Nat.mul_one]) (by rw [List.append_nil, ins_length, negs_len (Nat.le_refl _), Nat.mul_one]) (Nat.le_refl _) (by unfold maxLen; omega) (Nat.le_refl _))
      go_wp2_with fail
      go_ret
      exact ⟨by rw [HGe.out]; rfl, by rw [HGe.out]; exact HOw.out, by rw [HGe.out]; exact HBw.out⟩
end Go.Proofs.YtjcjoabblafboaaGreat
/- The contracts of the program's turnsOf and lastWriter: plain notions with them. Conditions: at most 100 places. -/

namespace Go.Proofs.YtjcjoabblafboaaGreat
open Go.RowKit
set_option maxRecDepth 100000
theorem within14 (n lo hi : Int) (w : World) : Calls Tryz.prog 103 #[.int .i64 n, .int .i64 lo, .int .i64 hi] w fun e w' => e = .returned (.bool (decide (lo ≤ n ∧ n ≤ hi))) ∧ w' = w := by
 by_cases h1 : lo ≤ n
 · by_cases h2 : n ≤ hi
   · rw [decide_eq_true ⟨h1, h2⟩]
     go_enter Tryz.func103, Tryz.ntmps103
     go_wp2
     go_ret
     exact ⟨rfl, rfl⟩
   · rw [decide_eq_false (fun q => h2 q.2)]
     go_enter Tryz.func103, Tryz.ntmps103
     go_wp2
     go_ret
     exact ⟨rfl, rfl⟩
 · rw [decide_eq_false (fun q => h1 q.1)]
   go_enter Tryz.func103, Tryz.ntmps103
   go_wp2
   go_ret
   exact ⟨rfl, rfl⟩
theorem readsI_at {w : World} {ad : Option Addr} {n : Nat} {zs : List Int} (h : ReadsI w ad n zs) {k : Nat} (hk : k < n) : ∃ b off, ad = some ⟨b, off, none⟩ ∧ w.cell? ⟨b, off + k, none⟩ = some (.int .i64 (zs.getD k 0)) := by
 rcases h.cells with h0 | ⟨b, off, rfl, hc⟩
 · omega
 · exact ⟨b, off, rfl, hc k hk⟩
def tI (O : List Int) (x : Int) : Int := if x ∈ O then ((O.idxOf x : Nat) : Int) else -1
def isOrd (O : List Int) (n : Nat) : Prop := O.length = n ∧ ∀ i, i < n → (0 ≤ O.getD i 0 ∧ O.getD i 0 ≤ (n : Int) - 1) ∧ O.getD i 0 ∉ O.take i
open Classical in
noncomputable def ordB (O : List Int) (n : Nat) : Bool := decide (isOrd O n)
theorem ordB_yes {O : List Int} {n : Nat} (h : isOrd O n) : ordB O n = true := by simp [ordB, h]
theorem ordB_no {O : List Int} {n : Nat} (h : ¬ isOrd O n) : ordB O n = false := by simp [ordB, h]
theorem tI_nil (x : Int) : tI [] x = -1 := by simp [tI]
theorem tI_new {L : List Int} {x : Int} (h : x ∉ L) : tI (L ++ [x]) x = (L.length : Int) := by
 unfold tI
 rw [if_pos (by simp), List.idxOf_append, if_neg h]
 simp
theorem tI_old {L : List Int} {x p : Int} (h : p ≠ x) : tI (L ++ [x]) p = tI L p := by
 unfold tI
 by_cases hp : p ∈ L
 · rw [if_pos (by simp [hp]), if_pos hp, List.idxOf_append, if_pos hp]
 · rw [if_neg (by simp [hp, h]), if_neg hp]
theorem tI_in {L : List Int} {x : Int} : tI L x = -1 ↔ x ∉ L := by
 unfold tI
 by_cases h : x ∈ L
 · rw [if_pos h]; simp [h]
 · rw [if_neg h]; simp [h]
def trn (O : List Int) (n : Nat) : List Int := (List.range n).map (fun p : Nat => tI O (p : Int))
theorem trn_at (O : List Int) {n p : Nat} (h : p < n) : (trn O n).getD p 0 = tI O (p : Int) := by simp [trn, List.getD, h]
theorem trn_start (n : Nat) : trn [] n = negs n n := by
 unfold trn negs
 simp only [tI_nil, Nat.sub_self, List.replicate_zero, List.append_nil]
 apply List.ext_getElem?
 intro i
 by_cases h : i < n
 · simp [h]
 · simp [h]
theorem trn_step {L : List Int} {n p : Nat} (hL : (p : Int) ∉ L) : (trn L n).set p (L.length : Int) = trn (L ++ [(p : Int)]) n := by
 apply List.ext_getElem?
 intro i
 rw [List.getElem?_set]
 unfold trn
 by_cases e : p = i
 · subst e
   by_cases h : p < n
   · rw [if_pos rfl, if_pos (by simpa using h)]
     simp [h, tI_new hL]
   · rw [if_pos rfl, if_neg (by simpa using h)]
     simp [h]
 · rw [if_neg e]
   by_cases h : i < n
   · have : (i : Int) ≠ (p : Int) := fun q => e (by omega)
     simp [h, tI_old this]
   · simp [h]
theorem take_int14 (R : List Int) {k : Nat} (h : k < R.length) : R.take (k + 1) = R.take k ++ [R.getD k 0] := by
 rw [List.take_succ_eq_append_getElem h, List.getD_eq_getElem?_getD, List.getElem?_eq_getElem h]; rfl
set_option maxHeartbeats 6400000 in
theorem impl_turnsOf {a : Option Addr} {n' : Nat} (c : Nat) {O : List Int} (n : Nat) {w : World} (h : ReadsI w a n' O) (hn : n ≤ 100) :
 Calls Tryz.prog 47 #[.slice a n' c, .int .i64 (n : Int)] w fun e w' => (ordB O n = false ∧ e = .returned (.tuple #[.slice none 0 0, .bool false]) ∨ ordB O n = true ∧ ∃ g, e = .returned (.tuple #[.slice (some ⟨g, 0, none⟩) n n, .bool true]) ∧ w'.ownsRow w.heap.size 3 1 (.slice (some ⟨g, 0, none⟩) n n) n (ins (trn O n))) ∧ Below w.heap.size w w' := by
 have hOl : O.length = n' := h.len
 have HR := hid h
 clear h
 by_cases hne : n' = n
 · subst hne
   have hq : ((n' : Int) != (n' : Int)) = false := by simp
   have bA := Below.alloc1 w (.cells #[.int .i64 (-1)] 3)
   have hc1 : (w.alloc (.cells #[.int .i64 (-1)] 3)).cell? ⟨w.heap.size, 0, none⟩ = some (.int .i64 (-1)) := by rw [cell_of_row _ _ _ _ _ _ (heap_alloc_new w _)]; rfl
   have HBA := hid bA
   clear bA
   go_enter Tryz.func47, Tryz.ntmps47
   go_wp2_with fail
   refine (repeat_neg n' w.heap.size hn hc1).mono ?_
   rintro e w1 ⟨rfl, o1, b1⟩
   obtain ⟨g, hg⟩ : ∃ g, (w.alloc (.cells #[.int .i64 (-1)] 3)).heap.size = g := ⟨_, rfl⟩
   rw [hg] at o1
   have hgs : w.heap.size ≤ g := by have := alloc_size w (.cells #[.int .i64 (-1)] 3); omega
   try simp only [hg]
   have O1 := hid (show w1.ownsRow g 3 1 (.slice (some ⟨g, 0, none⟩) n' n') n' (ins (trn (O.take 0) n')) by rw [List.take_zero, trn_start]; exact o1)
   have B1 := hid (HBA.out.trans (b1.mono HBA.out.size))
   clear o1 b1 hc1 hg HBA
   go_wp2_with fail
   go_loopw [18] (fun s wr => ∃ k : Nat, k ≤ n' ∧ s = .int .i64 k ∧ Hid (∀ i, i < k → (0 ≤ O.getD i 0 ∧ O.getD i 0 ≤ (n' : Int) - 1) ∧ O.getD i 0 ∉ O.take i) ∧ Hid (wr.ownsRow g 3 1 (.slice (some ⟨g, 0, none⟩) n' n') n' (ins (trn (O.take k) n'))) ∧ Hid (Below w.heap.size w wr)) (fun s _ => n' - (intOf s).toNat)
   case atStart => exact ⟨0, Nat.zero_le _, rfl, hid (fun i hi => by omega), O1, B1⟩
   case round =>
    clear O1 B1
    obtain ⟨k, hk, rfl, HA, HO, HB⟩ := hrel
    by_cases hlt : k < n'
    · have hlt' : (k : Int) < (n' : Int) := by omega
      have hk0 : (0 : Int) ≤ (k : Int) := by omega
      have hw1 : IntKind.i64.wrap ((n' : Int) - 1) = (n' : Int) - 1 := by simp [IntKind.wrap, IntKind.bits, IntKind.signed]; omega
      obtain ⟨b, off, rfl, hc⟩ := readsI_at (HR.out.below HB.out (Nat.le_refl _)) hlt
      have HNx := hid (fun (q : (0 ≤ O.getD k 0 ∧ O.getD k 0 ≤ (n' : Int) - 1) ∧ O.getD k 0 ∉ O.take k) i (hi : i < k + 1) => show (0 ≤ O.getD i 0 ∧ O.getD i 0 ≤ (n' : Int) - 1) ∧ O.getD i 0 ∉ O.take i from by
       by_cases hc : i < k
       · exact HA.out i hc
       · have : i = k := by omega
         subst this; exact q)
      have HNo := hid (fun (q : ¬ ((0 ≤ O.getD k 0 ∧ O.getD k 0 ≤ (n' : Int) - 1) ∧ O.getD k 0 ∉ O.take k)) => ordB_no (O := O) (n := n') (fun z => q (z.2 k hlt)))
      have HTk := hid (take_int14 O (k := k) (by omega))
      have HLk := hid (show (O.take k).length = k by rw [List.length_take]; omega)
      generalize O.getD k 0 = x at *
      clear HA
      go_wp2_with fail
      refine (within14 x 0 ((n' : Int) - 1) wr).mono ?_
      rintro e w2 ⟨rfl, e2⟩
      subst e2
      by_cases hx : 0 ≤ x ∧ x ≤ (n' : Int) - 1
      · rw [decide_eq_true hx]
        obtain ⟨p, rfl⟩ : ∃ p : Nat, x = (p : Int) := ⟨x.toNat, by omega⟩
        have hp : p < n' := by omega
        have hp' : (p : Int) < (n' : Int) := by omega
        have hp0 : (0 : Int) ≤ (p : Int) := by omega
        have hcp : w2.cell? ⟨g, p, none⟩ = some (.int .i64 (tI (O.take k) (p : Int))) := by
         rw [HO.out.cellAt p (by omega), getD_ins]
         unfold trn
         simp [hp]
        have hfz : w2.frozen? ⟨g, p, none⟩ = false := by
         obtain ⟨rest, hr, _⟩ := owns_blk HO.out
         exact frozen_of_row _ _ _ _ _ hr
        by_cases hin : (p : Int) ∈ O.take k
        · have hb : (tI (O.take k) (p : Int) != -1) = true := by
           rw [bne_iff_ne]
           exact fun q => (tI_in.1 q) hin
          have HF := hid (HNo.out (fun q => q.2 hin))
          clear hin hc
          go_wp2_with fail
          go_ret2
          exact ⟨.inl ⟨HF.out, rfl⟩, HB.out⟩
        · have hb : tI (O.take k) (p : Int) = -1 := tI_in.2 hin
          rw [hb] at hcp
          have HN2 := hid (HNx.out ⟨hx, hin⟩)
          have HO2 := hid (show (w2.setCell ⟨g, p, none⟩ (.int .i64 k)).ownsRow g 3 1 (.slice (some ⟨g, 0, none⟩) n' n') n' (ins (trn (O.take (k + 1)) n')) by
           have := row_set HO.out (j := p) (by omega) (.int .i64 (k : Int))
           have e : (ins (trn (O.take k) n')).set p (.int .i64 (k : Int)) = ins (trn (O.take (k + 1)) n') := by
            rw [HTk.out, ← trn_step hin, HLk.out]
            unfold ins
            rw [List.map_set]
           rw [e] at this
           exact this)
          have HB2 := hid (HB.out.setCell (p := ⟨g, p, none⟩) hgs (.int .i64 (k : Int)))
          clear hin hc hb
          go_wp2_with fail
          go_roundw
          case rel => exact ⟨k + 1, by omega, by go_num, HN2, HO2, HB2⟩
          case measure => simp [intOf]; omega
      · rw [decide_eq_false hx]
        have HF := hid (HNo.out (fun q => hx q.1))
        clear hx hc
        go_wp2_with fail
        go_ret2
        exact ⟨.inl ⟨HF.out, rfl⟩, HB.out⟩
    · have hlt' : ¬ (k : Int) < (n' : Int) := by omega
      obtain rfl : k = n' := by omega
      have HF := hid (ordB_yes (O := O) (n := k) ⟨hOl, HA.out⟩)
      have HO2 := hid (show wr.ownsRow w.heap.size 3 1 (.slice (some ⟨g, 0, none⟩) k k) k (ins (trn O k)) by
       have := HO.out
       rw [List.take_of_length_le (by omega)] at this
       exact owns_lower this hgs)
      go_wp2_with fail
      go_ret2
      exact ⟨.inr ⟨HF.out, g, rfl, HO2.out⟩, HB.out⟩
 · have hq : ((n' : Int) != (n : Int)) = true := by rw [bne_iff_ne]; omega
   have HF := hid (ordB_no (O := O) (n := n) (fun z => hne (by rw [← hOl]; exact z.1)))
   go_enter Tryz.func47, Tryz.ntmps47
   go_wp2_with fail
   go_ret2
   exact ⟨.inl ⟨HF.out, rfl⟩, Below.refl _ _⟩
end Go.Proofs.YtjcjoabblafboaaGreat
/- The contract of the program's lastWriter, with its plain meaning. Conditions: the writers are places of the numbers. -/

namespace Go.Proofs.YtjcjoabblafboaaGreat
open Go.RowKit
set_option maxRecDepth 100000
def lwS (Nm : List Int) (lim : Int) (last : Int) (p : Nat) : Int := if Nm.getD p 0 < lim ∧ (last = -1 ∨ Nm.getD last.toNat 0 < Nm.getD p 0) then (p : Int) else last
def lastW (Nm : List Int) (lim : Int) (W : List Nat) : Int := W.foldl (lwS Nm lim) (-1)
theorem lastW_snoc (Nm : List Int) (lim : Int) (W : List Nat) {k : Nat} (h : k < W.length) : lastW Nm lim (W.take (k + 1)) = lwS Nm lim (lastW Nm lim (W.take k)) (W.getD k 0) := by
 unfold lastW
 rw [take_nat W h, List.foldl_append]; rfl
theorem lastW_is (Nm : List Int) (lim : Int) : ∀ (W : List Nat) (l : Int), (l = -1 ∨ ∃ q : Nat, l = (q : Int) ∧ q ∈ W) → ∀ V : List Nat, (∀ q ∈ V, q ∈ W) → (V.foldl (lwS Nm lim) l = -1 ∨ ∃ q : Nat, V.foldl (lwS Nm lim) l = (q : Int) ∧ q ∈ W)
 | W, l, h, [], _ => h
 | W, l, h, v :: V, hV => by
  refine lastW_is Nm lim W (lwS Nm lim l v) ?_ V (fun q hq => hV q (by simp [hq]))
  unfold lwS
  split
  · exact .inr ⟨v, rfl, hV v (by simp)⟩
  · exact h
theorem lastW_or (Nm : List Int) (lim : Int) (W : List Nat) (k : Nat) : lastW Nm lim (W.take k) = -1 ∨ ∃ q : Nat, lastW Nm lim (W.take k) = (q : Int) ∧ q ∈ W :=
 lastW_is Nm lim W (-1) (.inl rfl) (W.take k) (fun _ hq => List.mem_of_mem_take hq)
set_option maxHeartbeats 6400000 in
theorem impl_lastWriter {W : List Nat} {aw : Option Addr} {nw : Nat} (cw : Nat) (y : Value) {an : Option Addr} {n : Nat} (cn : Nat) {Nm : List Int} (lim : Int) {w : World} (hW : ReadsI w aw nw (nI W)) (hN : ReadsI w an n Nm) (hb : ∀ p ∈ W, p < n) (hnw : nw ≤ 1048576) :
 Calls Tryz.prog 49 #[.agg #[.slice aw nw cw, y], .slice an n cn, .int .i64 lim] w fun e w' => e = .returned (.int .i64 (lastW Nm lim W)) ∧ Below w.heap.size w w' := by
 have hWl : W.length = nw := by rw [← nI_len]; exact hW.len
 obtain ⟨V, hV⟩ : ∃ V, lastW Nm lim W = V := ⟨_, rfl⟩
 rw [hV]
 have HV := hid hV
 have HW := hid hW
 have HN := hid hN
 have HBd := hid hb
 have HB := hid (Below.alloc1 w (.cells #[.slice aw nw cw, y] 91))
 clear hV hW hN hb
 go_enter Tryz.func49, Tryz.ntmps49
 go_wp2_with fail
 go_loopw [7, 13] (fun s7 s13 wr => ∃ (k : Nat) (l : Int), k ≤ nw ∧ s13 = .int .i64 k ∧ s7 = .int .i64 l ∧ Hid (l = lastW Nm lim (W.take k)) ∧ Hid (Below w.heap.size w wr)) (fun _ s _ => nw - (intOf s).toNat)
 case atStart => exact ⟨0, -1, Nat.zero_le _, rfl, rfl, hid rfl, HB⟩
 case round =>
  clear HB
  obtain ⟨k, l, hk, rfl, rfl, HLa, HB⟩ := hrel
  by_cases hlt : k < nw
  · have hlt' : (k : Int) < (nw : Int) := by omega
    have hk0 : (0 : Int) ≤ (k : Int) := by omega
    obtain ⟨bw, ow, rfl, hc⟩ := readsI_at (HW.out.below HB.out (Nat.le_refl _)) hlt
    have hkW : k < W.length := by omega
    have hp1 : (nI W).getD k 0 = ((W.getD k 0 : Nat) : Int) := by simp [nI, List.getD, hkW]
    rw [hp1] at hc
    have hpn : W.getD k 0 < n := HBd.out _ (by rw [show W.getD k 0 = W[k] by simp [List.getD, hkW]]; exact List.getElem_mem hkW)
    have hor := lastW_or Nm lim W k
    have hsn := lastW_snoc Nm lim W hkW
    rw [← HLa.out] at hor hsn
    have HSn := hid hsn
    generalize W.getD k 0 = p at *
    clear hp1 hkW hsn
    obtain ⟨bn, on, rfl, hcp⟩ := readsI_at (HN.out.below HB.out (Nat.le_refl _)) hpn
    have hpn' : (p : Int) < (n : Int) := by omega
    have hp0 : (0 : Int) ≤ (p : Int) := by omega
    have HQ := hid (fun q (hq : q ∈ W) => show ∃ b off, (some ⟨bn, on, none⟩ : Option Addr) = some ⟨b, off, none⟩ ∧ wr.cell? ⟨b, off + q, none⟩ = some (.int .i64 (Nm.getD q 0)) from readsI_at (HN.out.below HB.out (Nat.le_refl _)) (HBd.out q hq))
    obtain ⟨x, hx⟩ : ∃ x, Nm.getD p 0 = x := ⟨_, rfl⟩
    rw [hx] at hcp
    have HX := hid hx
    clear hx
    by_cases hlim : x < lim
    · rcases hor with hl | ⟨q, hl, hq⟩
      · subst hl
        have HN2 := hid (show (p : Int) = lastW Nm lim (W.take (k + 1)) by rw [HSn.out]; unfold lwS; rw [HX.out, if_pos ⟨hlim, .inl rfl⟩])
        have hlim' : decide (x < lim) = true := decide_eq_true hlim
        go_wp2_with fail
        go_quiet (fail)
        go_wp2_with fail
        go_roundw
        case rel => exact ⟨k + 1, p, by omega, by go_num, rfl, HN2, by first | exact hid (bel_dN HB.out _) | exact hid (HB.out.trans ((Still.drew _).below _))⟩
        case measure => simp [intOf]; omega
      · subst hl
        obtain ⟨b2, o2, e2, hcq⟩ := HQ.out q hq
        obtain ⟨rfl, rfl⟩ : bn = b2 ∧ on = o2 := by simpa using e2
        have hqn : (q : Int) < (n : Int) := by have := HBd.out q hq; omega
        have hq0 : (0 : Int) ≤ (q : Int) := by omega
        have hm1 : ((q : Int) == -1) = false := by rw [beq_eq_false_iff_ne]; omega
        obtain ⟨z, hz⟩ : ∃ z, Nm.getD q 0 = z := ⟨_, rfl⟩
        rw [hz] at hcq
        have hlim' : decide (x < lim) = true := decide_eq_true hlim
        by_cases hzx : z < x
        · have HN2 := hid (show (p : Int) = lastW Nm lim (W.take (k + 1)) by rw [HSn.out]; unfold lwS; rw [HX.out, Int.toNat_natCast, hz, if_pos ⟨hlim, .inr hzx⟩])
          have hzx' : decide (z < x) = true := decide_eq_true hzx
          clear e2 hz
          go_wp2_with fail
          go_quiet (fail)
          go_wp2_with fail
          go_roundw
          case rel => exact ⟨k + 1, p, by omega, by go_num, rfl, HN2, by first | exact hid (bel_dN HB.out _) | exact hid (HB.out.trans ((Still.drew _).below _))⟩
          case measure => simp [intOf]; omega
        · have HN2 := hid (show (q : Int) = lastW Nm lim (W.take (k + 1)) by rw [HSn.out]; unfold lwS; rw [HX.out, Int.toNat_natCast, hz, if_neg (fun h => by rcases h.2 with h | h <;> omega)])
          have hzx' : decide (z < x) = false := decide_eq_false hzx
          clear e2 hz hzx
          go_wp2_with fail
          go_quiet (fail)
          go_wp2_with fail
          go_roundw
          case rel => exact ⟨k + 1, q, by omega, by go_num, rfl, HN2, by first | exact hid (bel_dN HB.out _) | exact hid (HB.out.trans ((Still.drew _).below _))⟩
          case measure => simp [intOf]; omega
    · have HN2 := hid (show l = lastW Nm lim (W.take (k + 1)) by rw [HSn.out]; unfold lwS; rw [HX.out, if_neg (fun h => hlim h.1)])
      have hlim' : decide (x < lim) = false := decide_eq_false hlim
      clear hor hlim
      go_wp2_with fail
      go_quiet (fail)
      go_wp2_with fail
      go_roundw
      case rel => exact ⟨k + 1, l, by omega, by go_num, rfl, HN2, by first | exact hid (bel_dN HB.out _) | exact hid (HB.out.trans ((Still.drew _).below _))⟩
      case measure => simp [intOf]; omega
  · have hlt' : ¬ (k : Int) < (nw : Int) := by omega
    have HE := hid (show V = l by rw [← HV.out, HLa.out, List.take_of_length_le (by omega)])
    go_wp2_with fail
    go_ret
    exact ⟨by rw [HE.out]; rfl, HB.out⟩
end Go.Proofs.YtjcjoabblafboaaGreat
