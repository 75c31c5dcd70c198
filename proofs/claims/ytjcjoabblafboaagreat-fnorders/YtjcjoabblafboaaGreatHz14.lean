/- The contract of the specification's GraphSerial. Conditions: texts of at most 2^21 bytes. -/
import Derived.Test.YtjcjoabblafboaaGreatMgl
namespace Go.Proofs.YtjcjoabblafboaaGreat
open Go.RowKit
set_option maxRecDepth 100000
theorem take_not {O : List Int} {i : Nat} (hi : i < O.length) : O.getD i 0 ∉ O.take i ↔ ∀ k, k < i → O.getD k 0 ≠ O.getD i 0 := by
 constructor
 · intro h k hk e
   refine h ?_
   rw [← e, List.mem_take_iff_getElem]
   exact ⟨k, by omega, by simp [List.getD, show k < O.length by omega]⟩
 · intro h q
   obtain ⟨k, hk, e⟩ := List.mem_take_iff_getElem.1 q
   exact h k (by omega) (by rw [← e]; simp [List.getD, show k < O.length by omega])
theorem getD_im {ws : List Im} {k : Nat} (h : k < ws.length) : ws.getD k im0 ∈ ws := by
 rw [show ws.getD k im0 = ws[k] by simp [List.getD, h]]; exact List.getElem_mem h
def lookS (ts : List Tk) (O : List Int) (i w k : Nat) : Prop := rdB (ts.getD (O.getD i 0).toNat tk0) ((ts.getD w tk0).ws.getD k im0) = true → loL ts O ((ts.getD w tk0).ws.getD k im0) i = bhL ts (O.getD i 0).toNat ((ts.getD w tk0).ws.getD k im0) ts.length
theorem ser_spec {ts : List Tk} {O : List Int} (hok : okDs ts) (ho : isOrd O ts.length) : (∀ d, d < ts.length → ∀ t ∈ ts, ∀ x ∈ t.ws, rdB (ts.getD d tk0) x = true → sameR ts O d x) ↔ ∀ i, i < ts.length → ∀ w, w < ts.length → ∀ k, k < (ts.getD w tk0).ws.length → lookS ts O i w k := by
 have key : ∀ i d w k, i < ts.length → O.getD i 0 = ((d : Nat) : Int) → d < ts.length → w < ts.length → k < (ts.getD w tk0).ws.length → (sameR ts O d ((ts.getD w tk0).ws.getD k im0) ↔ loL ts O ((ts.getD w tk0).ws.getD k im0) i = bhL ts d ((ts.getD w tk0).ws.getD k im0) ts.length) := by
  intro i d w k hi hd hdn hw hk
  have hx : okM ((ts.getD w tk0).ws.getD k im0) = true := by
   exact (okDs_mem hok (getD_tk hw)).2 _ (getD_im hk)
  rw [lo_last hok ho hx hi hd, bh_last hok hx hdn ts.length (Nat.le_refl _)]
  exact Iff.rfl
 constructor
 · intro h i hi w hw k hk hr
   obtain ⟨d, hd, hdn⟩ := ord_nat ho hi
   rw [hd, Int.toNat_natCast] at hr ⊢
   exact (key i d w k hi hd hdn hw hk).1 (h d hdn _ (getD_tk hw) _ (getD_im hk) hr)
 · intro h d hd t ht x hx hr
   obtain ⟨i, hi, e⟩ := ord_all ho hd
   obtain ⟨w, hw, rfl⟩ := List.getElem_of_mem ht
   have hgw : ts.getD w tk0 = ts[w] := by simp [List.getD, hw]
   obtain ⟨k, hk, rfl⟩ := List.getElem_of_mem hx
   have hgk : (ts.getD w tk0).ws.getD k im0 = ts[w].ws[k] := by rw [hgw]; simp [List.getD, hk]
   have h1 := h i hi w hw k (by rw [hgw]; exact hk)
   have h2 := key i d w k hi e hd hw (by rw [hgw]; exact hk)
   unfold lookS at h1
   rw [hgk, e, Int.toNat_natCast] at h1
   rw [hgk] at h2
   exact h2.2 (h1 hr)
set_option maxHeartbeats 51200000 in
theorem spec_GraphSerial {a : Option Addr} {n : Nat} (c : Nat) {ts : List Tk} {a' : Option Addr} {n' : Nat} (c' : Nat) {O : List Int} {w : World} (h : ReadsV w a ts) (hl : ts.length = n) (hsm : smT ts) (hO : ReadsI w a' n' O) (hn' : n' ≤ 2097152) :
 Calls Tryz.prog 15 #[.slice a n c, .slice a' n' c'] w fun e w' => e = .returned (.bool (serB ts O)) ∧ Below w.heap.size w w' := by
 have hOl : O.length = n' := hO.len
 obtain ⟨V, hV⟩ : ∃ V, serB ts O = V := ⟨_, rfl⟩
 rw [hV]
 have HVV := hid hV
 have HL := hid hl
 have HSm := hid hsm
 clear hV
 go_enter Tryz.func15, Tryz.ntmps15
 go_wp2_with fail
 refine (spec_DeedsOk c h hl hsm).mono ?_
 rintro e w1 ⟨rfl, b1⟩
 have B1 := hid b1
 have HR := hid (h.below b1 (Nat.le_refl _))
 have HO := hid (hO.below b1 (Nat.le_refl _))
 clear b1 h hl hsm hO
 cases hdb : deedsB ts with
 | false =>
  have HF := hid (show V = false by rw [← HVV.out]; exact serB_no (fun z => by rw [deedsB_yes z.1] at hdb; cases hdb))
  clear hdb
  go_wp2_with fail
  go_ret
  exact ⟨by rw [HF.out]; rfl, B1.out⟩
 | true =>
 have HOk := hid (deedsB_ok hdb)
 have hn : n ≤ 100 := by have := HOk.out.1; have := HL.out; omega
 have HWw := hid (fun i (hi : i < n) => (okDs_at HOk.out (k := i) (by have := HL.out; omega)).2.1)
 clear hdb
 by_cases hnn : n' ≠ n
 · have hq : ((n' : Int) != (n : Int)) = true := by rw [bne_iff_ne]; omega
   have HF := hid (show V = false by rw [← HVV.out]; exact serB_no (fun z => hnn (by rw [← hOl, z.2.1.1, HL.out])))
   clear hnn
   go_wp2_with fail
   go_ret
   exact ⟨by rw [HF.out]; rfl, B1.out⟩
 have hnn' : n' = n := by omega
 clear hnn
 subst hnn'
 have hq : ((n' : Int) != (n' : Int)) = false := by simp
 go_wp2_with fail
 clear hq
 go_loopw [5] (fun s wr => ∃ i : Nat, i ≤ n' ∧ s = .int .i64 i ∧ Hid (∀ j, j < i → (0 ≤ O.getD j 0 ∧ O.getD j 0 ≤ (n' : Int) - 1) ∧ O.getD j 0 ∉ O.take j) ∧ Hid (Below w1.heap.size w1 wr)) (fun s _ => n' - (intOf s).toNat)
 case atStart => exact ⟨0, Nat.zero_le _, rfl, hid (fun j hj => by omega), hid (Below.refl _ _)⟩
 case round =>
  obtain ⟨i, hi, rfl, HA, HW⟩ := hrel
  by_cases hlt : i < n'
  · have hlt' : (i : Int) < (n' : Int) := by omega
    have hi0 : (0 : Int) ≤ (i : Int) := by omega
    have hw1 : IntKind.i64.wrap ((n' : Int) - 1) = (n' : Int) - 1 := by simp [IntKind.wrap, IntKind.bits, IntKind.signed]; omega
    obtain ⟨bo, oo, rfl, hc⟩ := readsI_at (HO.out.below HW.out (Nat.le_refl _)) hlt
    have HNx := hid (fun (q : (0 ≤ O.getD i 0 ∧ O.getD i 0 ≤ (n' : Int) - 1) ∧ O.getD i 0 ∉ O.take i) j (hj : j < i + 1) => show (0 ≤ O.getD j 0 ∧ O.getD j 0 ≤ (n' : Int) - 1) ∧ O.getD j 0 ∉ O.take j from by
     by_cases hc : j < i
     · exact HA.out j hc
     · have : j = i := by omega
       subst this; exact q)
    have HNo := hid (fun (q : ¬ ((0 ≤ O.getD i 0 ∧ O.getD i 0 ≤ (n' : Int) - 1) ∧ O.getD i 0 ∉ O.take i)) => show V = false by
     rw [← HVV.out]
     exact serB_no (fun z => q (by have := z.2.1.2 i (by rw [HL.out]; exact hlt); rw [HL.out] at this; exact this)))
    have HTn := hid (take_not (O := O) (i := i) (by omega))
    have HOc := hid (fun k (hk : k < n') (W : World) (hb : Below w1.heap.size w1 W) => show W.cell? ⟨bo, oo + k, none⟩ = some (.int .i64 (O.getD k 0)) by
     obtain ⟨b2, o2, e2, hc2⟩ := readsI_at (HO.out.below hb (Nat.le_refl _)) hk
     obtain ⟨rfl, rfl⟩ : bo = b2 ∧ oo = o2 := by simpa using e2
     exact hc2)
    obtain ⟨x, hx⟩ : ∃ x, O.getD i 0 = x := ⟨_, rfl⟩
    rw [hx] at hc HNx HNo HTn
    have HXi := hid hx
    clear hx HA
    go_wp2_with fail
    refine (spec_in13 x 0 ((n' : Int) - 1) wr).mono ?_
    rintro e w2 ⟨rfl, e2⟩
    subst e2
    by_cases hin : 0 ≤ x ∧ x ≤ (n' : Int) - 1
    · rw [decide_eq_true hin]
      have HIn := hid hin
      clear hin hc
      go_wp2_with fail
      go_loopw [6] (fun s wq => ∃ k : Nat, k ≤ i ∧ s = .int .i64 k ∧ Hid (∀ j, j < k → O.getD j 0 ≠ x) ∧ Hid (Below w1.heap.size w1 wq)) (fun s _ => i - (intOf s).toNat)
      case atStart => exact ⟨0, Nat.zero_le _, rfl, hid (fun j hj => by omega), HW⟩
      case round =>
       clear HW
       obtain ⟨k, hk, rfl, HNe, HW⟩ := hrel
       obtain ⟨wo, hwo⟩ : ∃ wo, wo = wr := ⟨_, rfl⟩
       subst hwo
       by_cases hki : k < i
       · have hki' : (k : Int) < (i : Int) := by omega
         have hkn : (k : Int) < (n' : Int) := by omega
         have hk0 : (0 : Int) ≤ (k : Int) := by omega
         have hck := HOc.out k (by omega) wo HW.out
         have hci := HOc.out i hlt wo HW.out
         rw [HXi.out] at hci
         have HNe2 := hid (fun (q : O.getD k 0 ≠ x) j (hj : j < k + 1) => show O.getD j 0 ≠ x from by
          by_cases hc : j < k
          · exact HNe.out j hc
          · have : j = k := by omega
            subst this; exact q)
         have HDu := hid (fun (q : O.getD k 0 = x) => HNo.out (fun z => HTn.out.1 z.2 k hki q))
         generalize O.getD k 0 = y at *
         by_cases hyx : y = x
         · have HF := hid (HDu.out hyx)
           have hb : (y == x) = true := by simpa using hyx
           clear hyx
           go_wp2_with fail
           go_quiet (fail)
           go_wp2_with fail
           go_ret
           exact ⟨by rw [HF.out]; rfl, B1.out.trans ((show Below w1.heap.size w1 _ from by first | exact bel_dN HW.out _ | exact HW.out.trans ((Still.drew _).below _)).mono B1.out.size)⟩
         · have HN2 := hid (HNe2.out hyx)
           have hb : (y == x) = false := by simpa using hyx
           clear hyx
           go_wp2_with fail
           go_quiet (fail)
           go_wp2_with fail
           go_roundw
           case rel => exact ⟨k + 1, by omega, by go_num, HN2, by first | exact hid (bel_dN HW.out _) | exact hid (HW.out.trans ((Still.drew _).below _))⟩
           case measure => simp [intOf]; omega
       · have hki' : ¬ (k : Int) < (i : Int) := by omega
         have HN2 := hid (HNx.out ⟨HIn.out, HTn.out.2 (fun j hj => HNe.out j (by omega))⟩)
         go_wp2_with fail
         go_roundw
         case rel => exact ⟨i + 1, by omega, by go_num, HN2, HW⟩
         case measure => simp [intOf]; omega
    · rw [decide_eq_false hin]
      have HF := hid (HNo.out (fun z => hin z.1))
      clear hin hc
      go_wp2_with fail
      go_ret
      exact ⟨by rw [HF.out]; rfl, B1.out.trans (HW.out.mono B1.out.size)⟩
  · have hlt' : ¬ (i : Int) < (n' : Int) := by omega
    have HIo := hid (show isOrd O ts.length from ⟨by rw [hOl, HL.out], fun j hj => by rw [HL.out] at hj ⊢; exact HA.out j (by omega)⟩)
    have HSp := hid (ser_spec HOk.out HIo.out)
    clear HA hlt hi
    go_wp2_with fail
    clear hlt'
    go_loopw [7] (fun s wq => ∃ i : Nat, i ≤ n' ∧ s = .int .i64 i ∧ Hid (∀ i', i' < i → ∀ u, u < n' → ∀ k, k < (ts.getD u tk0).ws.length → lookS ts O i' u k) ∧ Hid (Below w1.heap.size w1 wq)) (fun s _ => n' - (intOf s).toNat)
    case atStart => exact ⟨0, Nat.zero_le _, rfl, hid (fun j hj => by omega), HW⟩
    case round =>
     clear HW
     obtain ⟨i, hi, rfl, HP, HW⟩ := hrel
     by_cases hlt : i < n'
     · have hlt' : (i : Int) < (n' : Int) := by omega
       have hi0 : (0 : Int) ≤ (i : Int) := by omega
       obtain ⟨d, hd, hdn⟩ := ord_nat HIo.out (j := i) (by have := HL.out; omega)
       have hdn2 : d < n' := by have := HL.out; omega
       obtain ⟨bo, oo, e0, hc⟩ := readsI_at (HO.out.below HW.out (Nat.le_refl _)) hlt
       rw [hd] at hc
       subst e0
       have HOc := hid (fun k (hk : k < n') (W : World) (hb : Below w1.heap.size w1 W) => show W.cell? ⟨bo, oo + k, none⟩ = some (.int .i64 (O.getD k 0)) by
        obtain ⟨b2, o2, e2, hc2⟩ := readsI_at (HO.out.below hb (Nat.le_refl _)) hk
        obtain ⟨rfl, rfl⟩ : bo = b2 ∧ oo = o2 := by simpa using e2
        exact hc2)
       have HDi := hid hd
       clear hd hdn
       go_wp2_with fail
       clear hc
       go_loopw [9] (fun s wq => ∃ u : Nat, u ≤ n' ∧ s = .int .i64 u ∧ Hid (∀ u', u' < u → ∀ k, k < (ts.getD u' tk0).ws.length → lookS ts O i u' k) ∧ Hid (Below w1.heap.size w1 wq)) (fun s _ => n' - (intOf s).toNat)
       case atStart => exact ⟨0, Nat.zero_le _, rfl, hid (fun j hj => by omega), HW⟩
       case round =>
        clear HW
        obtain ⟨u, hu, rfl, HPu, HW⟩ := hrel
        by_cases hun : u < n'
        · have hun' : (u : Int) < (n' : Int) := by omega
          have hu0 : (0 : Int) ≤ (u : Int) := by omega
          obtain ⟨bb, off, xr, xc, aw, cw, e0, bu, _, _, rwu, _⟩ := HR.out.at (k := u) (by have := HL.out; omega)
          subst e0
          have hws := HWw.out u hun
          obtain ⟨tu, htu⟩ : ∃ t, ts.getD u tk0 = t := ⟨_, rfl⟩
          have HTu := hid htu
          rw [htu] at bu rwu hws
          have HWs := hid (show ∀ j, (tu.ws.getD j im0).Z.length ≤ 2097152 by rw [← htu]; exact (HSm.out u).2)
          obtain ⟨nw, hnw⟩ : ∃ x, tu.ws.length = x := ⟨_, rfl⟩
          rw [hnw] at bu hws
          have HNw := hid hnw
          have HBu := hid bu
          have HRu := hid rwu
          clear htu hnw bu rwu
          go_wp2_with fail
          go_loopw [10] (fun s wq => ∃ k : Nat, k ≤ nw ∧ s = .int .i64 k ∧ Hid (∀ k', k' < k → lookS ts O i u k') ∧ Hid (Below w1.heap.size w1 wq)) (fun s _ => nw - (intOf s).toNat)
          case atStart => exact ⟨0, Nat.zero_le _, rfl, hid (fun j hj => by omega), HW⟩
          case round =>
           clear HW
           obtain ⟨k, hk, rfl, HPk, HW⟩ := hrel
           obtain ⟨wo, hwo⟩ : ∃ wo, wo = wr := ⟨_, rfl⟩
           subst hwo
           have yu := (HBu.out.below HW.out (Nat.le_refl _)).c4
           by_cases hkn : k < nw
           · have hkn' : (k : Int) < (nw : Int) := by omega
             have hk0 : (0 : Int) ≤ (k : Int) := by omega
             obtain ⟨bI, oI, p, c0, e0, bx, rx, _, _, hf⟩ := HRu.out.at (k := k) (by have := HNw.out; omega)
             subst e0
             have hzm := HWs.out k
             have HLk := hid (show lookS ts O i u k ↔ (rdB (ts.getD d tk0) (tu.ws.getD k im0) = true → loL ts O (tu.ws.getD k im0) i = bhL ts d (tu.ws.getD k im0) n') by unfold lookS; rw [HTu.out, HDi.out, Int.toNat_natCast, HL.out])
             have HPn := hid (fun (q : lookS ts O i u k) k' (hk' : k' < k + 1) => show lookS ts O i u k' from by
              by_cases hc : k' < k
              · exact HPk.out k' hc
              · have : k' = k := by omega
                subst this; exact q)
             have HNo := hid (fun (q : ¬ lookS ts O i u k) => show V = false by
              rw [← HVV.out]
              refine serB_no (fun z => q (HSp.out.1 z.2.2 i (by rw [HL.out]; exact hlt) u (by rw [HL.out]; exact hun) k (by rw [HTu.out, HNw.out]; exact hkn)))
              )
             obtain ⟨x, hx⟩ : ∃ x, tu.ws.getD k im0 = x := ⟨_, rfl⟩
             rw [hx] at bx rx hf hzm HLk
             obtain ⟨K, N, F, Z⟩ := x
             simp only at bx rx hf hzm
             obtain ⟨m, hm⟩ : ∃ m, Z.length = m := ⟨_, rfl⟩
             rw [hm] at bx rx hzm
             have HMz := hid hm
             have HRx := hid rx
             obtain ⟨x0, x1, x2, x3⟩ := bx.below HW.out (Nat.le_refl _)
             have hst := fun w a m => run_store Tryz.prog w a (.float .f64 F) m rfl
             obtain ⟨gk, hgk⟩ : ∃ gk, wo.heap.size = gk := ⟨_, rfl⟩
             have bA := Below.alloc1 wo (.cells #[.int .i64 K, .int .i64 N, .float .f64 F, .slice p m c0] 72)
             have HWA := hid (HW.out.trans (bA.mono HW.out.size))
             have HKb := hid (show Box4 (wo.alloc (.cells #[.int .i64 K, .int .i64 N, .float .f64 F, .slice p m c0] 72)) gk 0 K N F (.slice p m c0) by
              rw [← hgk]
              exact ⟨by rw [cell_of_row _ _ _ _ _ _ (heap_alloc_new wo _)]; rfl, by rw [cell_of_row _ _ _ _ _ _ (heap_alloc_new wo _)]; rfl, by rw [cell_of_row _ _ _ _ _ _ (heap_alloc_new wo _)]; rfl, by rw [cell_of_row _ _ _ _ _ _ (heap_alloc_new wo _)]; rfl⟩)
             obtain ⟨bb2, off2, ar, cr, dw, dwc, e2, bd, rd', _, _, _⟩ := HR.out.at (k := d) (by have := HL.out; omega)
             obtain ⟨rfl, rfl⟩ : bb = bb2 ∧ off = off2 := by simpa using e2
             have hrs := (okDs_at HOk.out (k := d) (by have := HL.out; omega)).1
             have HRs := hid ((HSm.out d).1)
             obtain ⟨td, htd⟩ : ∃ t, ts.getD d tk0 = t := ⟨_, rfl⟩
             rw [htd] at bd rd' hrs HRs HLk
             obtain ⟨nr, hnr⟩ : ∃ x, td.rs.length = x := ⟨_, rfl⟩
             rw [hnr] at bd hrs
             have HNr := hid hnr
             have HRd := hid rd'
             obtain ⟨yd, hyd⟩ : ∃ yd, (Value.slice dw td.ws.length dwc) = yd := ⟨_, rfl⟩
             rw [hyd] at bd
             have HBd := hid bd
             obtain ⟨wk, hwk⟩ : ∃ wk, wo.alloc (.cells #[.int .i64 K, .int .i64 N, .float .f64 F, .slice p m c0] 72) = wk := ⟨_, rfl⟩
             have hd' : (d : Int) < (n' : Int) := by omega
             have hd0 : (0 : Int) ≤ (d : Int) := by omega
             have HGk := hid hgk
             have HWk := hid hwk
             clear bx rx hm hx bA bd rd' e2 htd hnr hyd hgk
             go_wp2_with fail
             rw [HWk.out] at HWA HKb
             try simp only [HGk.out]
             try rw [HWk.out]
             clear x0 x1 x2 x3 yu hwk HGk HWk
             have bD := (Below.refl wk.heap.size wk).drew
             have HWD := hid (HWA.out.trans (bD.mono HWA.out.size))
             have HSA := hid (show (fun W => Box5 W bb (off + d * 5) td (.slice ar nr cr) yd ∧ Box4 W gk 0 K N F (.slice p m c0)) wk.drew from ⟨(HBd.out.below HWA.out (Nat.le_refl _)).below bD (Nat.le_refl _), HKb.out.below bD (Nat.le_refl _)⟩)
             clear bD
             refine region_K 99 (fun W => Box5 W bb (off + d * 5) td (.slice ar nr cr) yd ∧ Box4 W gk 0 K N F (.slice p m c0)) (by kernel_rfl) ?_ (fun hHeld => ?_)
             · exact HSA.out
             generalize wk.drew = v0 at *
             refine anyK_take2 (i := 0) (v := ?v0_1) rfl (by kernel_rfl) (by kernel_rfl) (by kernel_rfl) (by rfl) (fun _ _ _ h => h) (by rfl) hHeld ?hy0_1 (some 87) (by rfl) ?rest0_1
             case hy0_1 => (intro W hSw; obtain ⟨⟨x0, x1, x2, x3, x4⟩, y0, y1, y2, y3⟩ := hSw; go_simp; (try with_reducible rfl))
             try simp only [Act.put, List.setIfInBounds_toArray, List.set_cons_succ, List.set_cons_zero]
             refine anyK_take2 (i := 1) (v := ?v1_2) rfl (by kernel_rfl) (by kernel_rfl) (by kernel_rfl) (by rfl) (fun _ _ _ h => h) (by rfl) hHeld ?hy1_2 (some 88) (by rfl) ?rest1_2
             case hy1_2 => (intro W hSw; obtain ⟨⟨x0, x1, x2, x3, x4⟩, y0, y1, y2, y3⟩ := hSw; go_simp; (try with_reducible rfl))
             try simp only [Act.put, List.setIfInBounds_toArray, List.set_cons_succ, List.set_cons_zero]
             refine anyK_take2 (i := 2) (v := ?v2_3) rfl (by kernel_rfl) (by kernel_rfl) (by kernel_rfl) (by rfl) (fun _ _ _ h => h) (by rfl) hHeld ?hy2_3 (some 89) (by rfl) ?rest2_3
             case hy2_3 => (intro W hSw; obtain ⟨⟨x0, x1, x2, x3, x4⟩, y0, y1, y2, y3⟩ := hSw; go_simp; (try with_reducible rfl))
             try simp only [Act.put, List.setIfInBounds_toArray, List.set_cons_succ, List.set_cons_zero]
             refine anyK_take2 (i := 3) (v := ?v3_4) rfl (by kernel_rfl) (by kernel_rfl) (by kernel_rfl) (by rfl) (fun _ _ _ h => h) (by rfl) hHeld ?hy3_4 (some 90) (by rfl) ?rest3_4
             case hy3_4 => (intro W hSw; obtain ⟨⟨x0, x1, x2, x3, x4⟩, y0, y1, y2, y3⟩ := hSw; go_simp; (try with_reducible rfl))
             try simp only [Act.put, List.setIfInBounds_toArray, List.set_cons_succ, List.set_cons_zero]
             refine anyK_take2 (i := 4) (v := ?v4_5) rfl (by kernel_rfl) (by kernel_rfl) (by kernel_rfl) (by rfl) (fun _ _ _ h => h) (by rfl) hHeld ?hy4_5 (some 91) (by rfl) ?rest4_5
             case hy4_5 => (intro W hSw; obtain ⟨⟨x0, x1, x2, x3, x4⟩, y0, y1, y2, y3⟩ := hSw; go_simp; (try with_reducible rfl))
             try simp only [Act.put, List.setIfInBounds_toArray, List.set_cons_succ, List.set_cons_zero]
             refine anyK_step (i := 5) (by kernel_rfl) rfl (fun KP hK => ?_)
             go_simp
             refine (spec_l14reads_n td ⟨K, N, F, Z⟩ cr yd c0 HNr.out HMz.out (HRd.out.below HWD.out (Nat.le_refl _)) (HRx.out.below HWD.out (Nat.le_refl _)) hf hzm HRs.out (by omega)).mono ?_
             rintro e u1 ⟨rfl, bb1⟩
             have HSC := hid (show (fun W => Box5 W bb (off + d * 5) td (.slice ar nr cr) yd ∧ Box4 W gk 0 K N F (.slice p m c0)) u1 from ⟨HSA.out.1.below bb1 (Nat.le_refl _), HSA.out.2.below bb1 (Nat.le_refl _)⟩)
             have HWE := hid (HWD.out.trans (bb1.mono HWD.out.size))
             clear bb1
             obtain ⟨H, hH⟩ : ∃ H, rdsB td ⟨K, N, F, Z⟩ = H := ⟨_, rfl⟩
             rw [hH]
             have HH := hid (show rdB td ⟨K, N, F, Z⟩ = H from hH)
             clear hH
             go_wp2_with fail
             clear hHeld
             refine hK.out _ _ HSC.out (fun hHeld => ?_)
             clear hK KP
             try simp only [Act.put, List.setIfInBounds_toArray, List.set_cons_succ, List.set_cons_zero]
             cases H with
             | false =>
              have HN2 := hid (HPn.out (HLk.out.2 (fun q => by rw [HH.out] at q; cases q)))
              refine anyK_take2 (i := 6) (v := ?v6_6) rfl (by kernel_rfl) (by kernel_rfl) (by kernel_rfl) (by rfl) (fun _ _ _ h => h) (by rfl) hHeld ?hy6_6 (some 93) (by rfl) ?rest6_6
              case hy6_6 => (intro W hSw; obtain ⟨⟨x0, x1, x2, x3, x4⟩, y0, y1, y2, y3⟩ := hSw; go_simp; (try with_reducible rfl))
              try simp only [Act.put, List.setIfInBounds_toArray, List.set_cons_succ, List.set_cons_zero]
              refine anyK_done (by kernel_rfl) ?_ _
              clear hHeld
              go_wp2_with fail
              go_roundw
              case rel => exact ⟨k + 1, by omega, by go_num, HN2, HWE⟩
              case measure => simp [intOf]; omega
             | true =>
              refine anyK_take2 (i := 6) (v := ?v6_7) rfl (by kernel_rfl) (by kernel_rfl) (by kernel_rfl) (by rfl) (fun _ _ _ h => h) (by rfl) hHeld ?hy6_7 (some 93) (by rfl) ?rest6_7
              case hy6_7 => (intro W hSw; obtain ⟨⟨x0, x1, x2, x3, x4⟩, y0, y1, y2, y3⟩ := hSw; go_simp; (try with_reducible rfl))
              try simp only [Act.put, List.setIfInBounds_toArray, List.set_cons_succ, List.set_cons_zero]
              refine anyK_done (by kernel_rfl) ?_ _
              clear hHeld
              have HKc := hid HSC.out.2
              clear HSA HSC HWD HWA HKb
              go_wp2_with fail
              go_loopw [12, 13] (fun s12 s13 wq => ∃ j : Nat, j ≤ i ∧ s13 = .int .i64 j ∧ s12 = .int .i64 (loL ts O ⟨K, N, F, Z⟩ j) ∧ Hid (Box4 wq gk 0 K N F (.slice p m c0)) ∧ Hid (Below w1.heap.size w1 wq)) (fun _ s _ => i - (intOf s).toNat)
              case atStart => exact ⟨0, Nat.zero_le _, rfl, rfl, HKc, HWE⟩
              case round =>
               clear HKc HWE
               obtain ⟨j, hj, rfl, rfl, HKc, HWE⟩ := hrel
               obtain ⟨wp, hwp⟩ : ∃ wp, wp = wr := ⟨_, rfl⟩
               subst hwp
               by_cases hji : j < i
               · have hji' : (j : Int) < (i : Int) := by omega
                 have hj0 : (0 : Int) ≤ (j : Int) := by omega
                 have hjn : (j : Int) < (n' : Int) := by omega
                 obtain ⟨pj, hpj, hpjn⟩ := ord_nat HIo.out (j := j) (by have := HL.out; omega)
                 have hpn : pj < n' := by have := HL.out; omega
                 have hpn' : (pj : Int) < (n' : Int) := by omega
                 have hp0 : (0 : Int) ≤ (pj : Int) := by omega
                 have hcj := HOc.out j (by omega) wp HWE.out
                 rw [hpj] at hcj
                 obtain ⟨bb3, off3, jr, jc, aj, cj, e3, bj, _, _, rj, _⟩ := HR.out.at (k := pj) (by have := HL.out; omega)
                 obtain ⟨rfl, rfl⟩ : bb = bb3 ∧ off = off3 := by simpa using e3
                 have hwj := HWw.out pj hpn
                 have HWj := hid ((HSm.out pj).2)
                 have HLo := hid (show loL ts O ⟨K, N, F, Z⟩ (j + 1) = if hasM (ts.getD pj tk0).ws ⟨K, N, F, Z⟩ = true then (pj : Int) else loL ts O ⟨K, N, F, Z⟩ j by rw [loL_succ]; unfold loF; rw [hpj, Int.toNat_natCast])
                 obtain ⟨tj, htj⟩ : ∃ t, ts.getD pj tk0 = t := ⟨_, rfl⟩
                 rw [htj] at bj rj hwj HWj HLo
                 obtain ⟨nj, hnj⟩ : ∃ x, tj.ws.length = x := ⟨_, rfl⟩
                 rw [hnj] at bj hwj
                 have HNj := hid hnj
                 have HRj := hid rj
                 obtain ⟨xj, hxj⟩ : ∃ xj, (Value.slice jr tj.rs.length jc) = xj := ⟨_, rfl⟩
                 rw [hxj] at bj
                 obtain ⟨L0, hL0⟩ : ∃ L0, loL ts O ⟨K, N, F, Z⟩ j = L0 := ⟨_, rfl⟩
                 rw [hL0] at HLo
                 try rw [hL0]
                 have HOi := hid (HOc.out j (by omega))
                 have HPj := hid hpj
                 have bD := (Below.refl wp.heap.size wp).drew
                 have HWD := hid (HWE.out.trans (bD.mono HWE.out.size))
                 have HSB := hid (show (fun W => (W.cell? ⟨bo, oo + j, none⟩ = some (.int .i64 (pj : Int)) ∧ Box5 W bb (off + pj * 5) tj xj (.slice aj nj cj)) ∧ Box4 W gk 0 K N F (.slice p m c0)) wp.drew from ⟨⟨hcj, (bj.below HWE.out (Nat.le_refl _)).below bD (Nat.le_refl _)⟩, HKc.out.below bD (Nat.le_refl _)⟩)
                 clear bj rj e3 htj hnj hxj bD hcj hpj hpjn
                 go_wp2
                 refine region_K 99 (fun W => (W.cell? ⟨bo, oo + j, none⟩ = some (.int .i64 (pj : Int)) ∧ Box5 W bb (off + pj * 5) tj xj (.slice aj nj cj)) ∧ Box4 W gk 0 K N F (.slice p m c0)) (by kernel_rfl) ?_ (fun hHeld => ?_)
                 · exact HSB.out
                 generalize wp.drew = v1 at *
                 refine anyK_take2 (i := 0) (v := ?v0_8) rfl (by kernel_rfl) (by kernel_rfl) (by kernel_rfl) (by rfl) (fun _ _ _ h => h) (by rfl) hHeld ?hy0_8 (some 99) (by rfl) ?rest0_8
                 case hy0_8 => (intro W hSw; obtain ⟨⟨z0, x0, x1, x2, x3, x4⟩, y0, y1, y2, y3⟩ := hSw; go_simp; (try with_reducible rfl))
                 try simp only [Act.put, List.setIfInBounds_toArray, List.set_cons_succ, List.set_cons_zero]
                 refine anyK_take2 (i := 1) (v := ?v1_9) rfl (by kernel_rfl) (by kernel_rfl) (by kernel_rfl) (by rfl) (fun _ _ _ h => h) (by rfl) hHeld ?hy1_9 (some 100) (by rfl) ?rest1_9
                 case hy1_9 => (intro W hSw; obtain ⟨⟨z0, x0, x1, x2, x3, x4⟩, y0, y1, y2, y3⟩ := hSw; go_simp; (try with_reducible rfl))
                 try simp only [Act.put, List.setIfInBounds_toArray, List.set_cons_succ, List.set_cons_zero]
                 refine anyK_take2 (i := 2) (v := ?v2_10) rfl (by kernel_rfl) (by kernel_rfl) (by kernel_rfl) (by rfl) (fun _ _ _ h => h) (by rfl) hHeld ?hy2_10 (some 101) (by rfl) ?rest2_10
                 case hy2_10 => (intro W hSw; obtain ⟨⟨z0, x0, x1, x2, x3, x4⟩, y0, y1, y2, y3⟩ := hSw; go_simp; (try with_reducible rfl))
                 try simp only [Act.put, List.setIfInBounds_toArray, List.set_cons_succ, List.set_cons_zero]
                 refine anyK_take2 (i := 3) (v := ?v3_11) rfl (by kernel_rfl) (by kernel_rfl) (by kernel_rfl) (by rfl) (fun _ _ _ h => h) (by rfl) hHeld ?hy3_11 (some 102) (by rfl) ?rest3_11
                 case hy3_11 => (intro W hSw; obtain ⟨⟨z0, x0, x1, x2, x3, x4⟩, y0, y1, y2, y3⟩ := hSw; go_simp; (try with_reducible rfl))
                 try simp only [Act.put, List.setIfInBounds_toArray, List.set_cons_succ, List.set_cons_zero]
                 refine anyK_take2 (i := 4) (v := ?v4_12) rfl (by kernel_rfl) (by kernel_rfl) (by kernel_rfl) (by rfl) (fun _ _ _ h => h) (by rfl) hHeld ?hy4_12 (some 103) (by rfl) ?rest4_12
                 case hy4_12 => (intro W hSw; obtain ⟨⟨z0, x0, x1, x2, x3, x4⟩, y0, y1, y2, y3⟩ := hSw; go_simp; (try with_reducible rfl))
                 try simp only [Act.put, List.setIfInBounds_toArray, List.set_cons_succ, List.set_cons_zero]
                 refine anyK_take2 (i := 5) (v := ?v5_13) rfl (by kernel_rfl) (by kernel_rfl) (by kernel_rfl) (by rfl) (fun _ _ _ h => h) (by rfl) hHeld ?hy5_13 (some 104) (by rfl) ?rest5_13
                 case hy5_13 => (intro W hSw; obtain ⟨⟨z0, x0, x1, x2, x3, x4⟩, y0, y1, y2, y3⟩ := hSw; go_simp; (try with_reducible rfl))
                 try simp only [Act.put, List.setIfInBounds_toArray, List.set_cons_succ, List.set_cons_zero]
                 refine anyK_take2 (i := 6) (v := ?v6_14) rfl (by kernel_rfl) (by kernel_rfl) (by kernel_rfl) (by rfl) (fun _ _ _ h => h) (by rfl) hHeld ?hy6_14 (some 105) (by rfl) ?rest6_14
                 case hy6_14 => (intro W hSw; obtain ⟨⟨z0, x0, x1, x2, x3, x4⟩, y0, y1, y2, y3⟩ := hSw; go_simp; (try with_reducible rfl))
                 try simp only [Act.put, List.setIfInBounds_toArray, List.set_cons_succ, List.set_cons_zero]
                 refine anyK_take2 (i := 7) (v := ?v7_15) rfl (by kernel_rfl) (by kernel_rfl) (by kernel_rfl) (by rfl) (fun _ _ _ h => h) (by rfl) hHeld ?hy7_15 (some 106) (by rfl) ?rest7_15
                 case hy7_15 => (intro W hSw; obtain ⟨⟨z0, x0, x1, x2, x3, x4⟩, y0, y1, y2, y3⟩ := hSw; go_simp; (try with_reducible rfl))
                 try simp only [Act.put, List.setIfInBounds_toArray, List.set_cons_succ, List.set_cons_zero]
                 refine anyK_take2 (i := 8) (v := ?v8_16) rfl (by kernel_rfl) (by kernel_rfl) (by kernel_rfl) (by rfl) (fun _ _ _ h => h) (by rfl) hHeld ?hy8_16 (some 107) (by rfl) ?rest8_16
                 case hy8_16 => (intro W hSw; obtain ⟨⟨z0, x0, x1, x2, x3, x4⟩, y0, y1, y2, y3⟩ := hSw; go_simp; (try with_reducible rfl))
                 try simp only [Act.put, List.setIfInBounds_toArray, List.set_cons_succ, List.set_cons_zero]
                 refine anyK_step (i := 9) (by kernel_rfl) rfl (fun KP hK => ?_)
                 go_simp
                 refine (spec_l13has cj c0 (HRj.out.below HWD.out (Nat.le_refl _)) HNj.out (by omega) HMz.out (HRx.out.below HWD.out (Nat.le_refl _)) hf hzm HWj.out).mono ?_
                 rintro e u2 ⟨rfl, bb1⟩
                 have HSD2 := hid (show (fun W => (W.cell? ⟨bo, oo + j, none⟩ = some (.int .i64 (pj : Int)) ∧ Box5 W bb (off + pj * 5) tj xj (.slice aj nj cj)) ∧ Box4 W gk 0 K N F (.slice p m c0)) u2 from ⟨⟨(bb1.cell (p := ⟨bo, oo + j, none⟩) (World.block_lt_of_cell? _ _ HSB.out.1.1)).trans HSB.out.1.1, HSB.out.1.2.below bb1 (Nat.le_refl _)⟩, HSB.out.2.below bb1 (Nat.le_refl _)⟩)
                 have HWF := hid (HWD.out.trans (bb1.mono HWD.out.size))
                 clear bb1
                 obtain ⟨G, hG⟩ : ∃ G, hasM tj.ws ⟨K, N, F, Z⟩ = G := ⟨_, rfl⟩
                 rw [hG]
                 rw [hG] at HLo
                 clear hG
                 go_wp2_with fail
                 clear hHeld
                 refine hK.out _ _ HSD2.out (fun hHeld => ?_)
                 clear hK KP
                 try simp only [Act.put, List.setIfInBounds_toArray, List.set_cons_succ, List.set_cons_zero]
                 refine anyK_done (by kernel_rfl) ?_ _
                 clear hHeld
                 have HKd := hid HSD2.out.2
                 have hcj2 := HSD2.out.1.1
                 clear HSB HSD2 HWD
                 cases G with
                 | true =>
                  have HN2 := hid (show (pj : Int) = loL ts O ⟨K, N, F, Z⟩ (j + 1) by rw [HLo.out, if_pos rfl])
                  go_wp2_with fail
                  go_roundw
                  case rel => exact ⟨j + 1, by omega, by go_num, by rw [← HN2.out], HKd, HWF⟩
                  case measure => simp [intOf]; omega
                 | false =>
                  have HN2 := hid (show L0 = loL ts O ⟨K, N, F, Z⟩ (j + 1) by rw [HLo.out, if_neg (by simp)])
                  go_wp2_with fail
                  go_roundw
                  case rel => exact ⟨j + 1, by omega, by go_num, by rw [← HN2.out], HKd, HWF⟩
                  case measure => simp [intOf]; omega
               · have hji' : ¬ (j : Int) < (i : Int) := by omega
                 obtain rfl : j = i := by omega
                 obtain ⟨k0, k1, k2, k3⟩ := HKc.out
                 obtain ⟨L0, hL0⟩ : ∃ L0, loL ts O ⟨K, N, F, Z⟩ j = L0 := ⟨_, rfl⟩
                 rw [hL0] at HLk
                 try rw [hL0]
                 clear hL0
                 go_wp2_with fail
                 clear k0 k1 k2 k3
                 refine (spec_l14behind c d K N F c0 (HR.out.below HWE.out (Nat.le_refl _)) HL.out hn hdn2 HSm.out HWw.out (HRx.out.below HWE.out (Nat.le_refl _)) hf HMz.out hzm).mono ?_
                 rintro e w5 ⟨rfl, b5⟩
                 have HW5 := hid (HWE.out.trans (b5.mono HWE.out.size))
                 clear b5
                 obtain ⟨M0, hM0⟩ : ∃ M0, bhL ts d ⟨K, N, F, Z⟩ n' = M0 := ⟨_, rfl⟩
                 rw [hM0] at HLk
                 try rw [hM0]
                 clear hM0
                 by_cases hlm : L0 = M0
                 · have hb : (L0 != M0) = false := by simpa using hlm
                   have HN2 := hid (HPn.out (HLk.out.2 (fun _ => hlm)))
                   clear hlm
                   go_wp2_with fail
                   go_roundw
                   case rel => exact ⟨k + 1, by omega, by go_num, HN2, HW5⟩
                   case measure => simp [intOf]; omega
                 · have hb : (L0 != M0) = true := by simpa using hlm
                   have HF := hid (HNo.out (fun q => hlm (HLk.out.1 q HH.out)))
                   clear hlm
                   go_wp2_with fail
                   go_ret
                   exact ⟨by rw [HF.out]; rfl, B1.out.trans (HW5.out.mono B1.out.size)⟩
           · have hkn' : ¬ (k : Int) < (nw : Int) := by omega
             have HPn := hid (fun u' (hu' : u' < u + 1) k (hk : k < (ts.getD u' tk0).ws.length) => show lookS ts O i u' k from by
              by_cases hc : u' < u
              · exact HPu.out u' hc k hk
              · have : u' = u := by omega
                subst this
                exact HPk.out k (by rw [HTu.out, HNw.out] at hk; omega))
             go_wp2_with fail
             go_roundw
             case rel => exact ⟨u + 1, by omega, by go_num, HPn, HW⟩
             case measure => simp [intOf]; omega
        · have hun' : ¬ (u : Int) < (n' : Int) := by omega
          have HPn := hid (fun i' (hi' : i' < i + 1) u' (hu' : u' < n') => show ∀ k, k < (ts.getD u' tk0).ws.length → lookS ts O i' u' k from by
           by_cases hc : i' < i
           · exact HP.out i' hc u' hu'
           · have : i' = i := by omega
             subst this
             exact HPu.out u' (by omega))
          go_wp2_with fail
          go_roundw
          case rel => exact ⟨i + 1, by omega, by go_num, HPn, HW⟩
          case measure => simp [intOf]; omega
     · have hlt' : ¬ (i : Int) < (n' : Int) := by omega
       have HT := hid (show V = true by
        rw [← HVV.out]
        exact serB_yes ⟨HOk.out, HIo.out, HSp.out.2 (fun i' hi' u hu k hk => HP.out i' (by have := HL.out; omega) u (by have := HL.out; omega) k hk)⟩)
       go_wp2_with fail
       go_ret
       exact ⟨by rw [HT.out]; rfl, B1.out.trans (HW.out.mono B1.out.size)⟩
end Go.Proofs.YtjcjoabblafboaaGreat
