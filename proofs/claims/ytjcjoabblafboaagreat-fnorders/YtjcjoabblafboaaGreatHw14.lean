/- The contract of the program's GraphSerial. Conditions: texts of at most 2^21 bytes. -/
import Derived.Test.YtjcjoabblafboaaGreatMgj
namespace Go.Proofs.YtjcjoabblafboaaGreat
open Go.RowKit
set_option maxRecDepth 100000
set_option maxHeartbeats 25600000 in
theorem impl_GraphSerial {a : Option Addr} {n : Nat} (c : Nat) {ts : List Tk} {a' : Option Addr} {n' : Nat} (c' : Nat) {O : List Int} {w : World} (h : RdV w a ts) (hv : ReadsV w a ts) (hl : ts.length = n) (hsm : smT ts) (hbd : bdTs ts) (hO : ReadsI w a' n' O) :
 Calls Tryz.prog 14 #[.slice a n c, .slice a' n' c'] w fun e w' => e = .returned (.bool (serB ts O)) ∧ Below w.heap.size w w' := by
 obtain ⟨V, hV⟩ : ∃ V, serB ts O = V := ⟨_, rfl⟩
 rw [hV]
 have HVV := hid hV
 have HR := hid h
 have HL := hid hl
 have HBd := hid hbd
 have HO := hid hO
 clear hV
 obtain ⟨i0, hinf, hz0, hz1, hz2⟩ := infoI14
 go_enter Tryz.func14, Tryz.ntmps14
 go_wp2_with fail
 refine (impl_DeedsOk c hv hl hsm hbd).mono ?_
 rintro e w1 ⟨rfl, b1⟩
 have B1 := hid b1
 clear b1 h hv hl hsm hbd hO
 cases hd : deedsB ts with
 | false =>
  have HF := hid (show V = false by rw [← HVV.out]; exact serB_no (fun z => by rw [deedsB_yes z.1] at hd; cases hd))
  clear hd
  go_wp2_with fail
  go_ret
  exact ⟨by rw [HF.out]; rfl, B1.out⟩
 | true =>
  have HOk := hid (deedsB_ok hd)
  have hn : n ≤ 100 := by have := HOk.out.1; have := HL.out; omega
  clear hd
  go_wp2_with fail
  refine (impl_turnsOf c' n (HO.out.below B1.out (Nat.le_refl _)) hn).mono ?_
  rintro e w2 ⟨hcase, b2⟩
  have B2 := hid (B1.out.trans (b2.mono B1.out.size))
  clear b2
  rcases hcase with ⟨ho, rfl⟩ | ⟨ho, g1, rfl, o2⟩
  · have HF := hid (show V = false by rw [← HVV.out]; exact serB_no (fun z => by rw [ordB_yes (by rw [← HL.out]; exact z.2.1)] at ho; cases ho))
    clear ho
    go_wp2_with fail
    go_ret
    exact ⟨by rw [HF.out]; rfl, B2.out⟩
  · have hio : isOrd O n := by simpa [ordB] using ho
    have HIo := hid hio
    have HTr := hid (own_readsI o2 (trn_bd (by rw [hio.1]; exact hn)))
    have HG1 := hid ((o2.lt g1 rfl).2)
    have HT1 := hid o2
    clear ho hio o2
    go_wp2_with fail
    go_loopw [7, 29] (fun s7 s29 wr => ∃ (k : Nat) (b : Option Addr) (cc : Nat), k ≤ n ∧ s29 = .int .i64 k ∧ s7 = .slice b k cc ∧ Hid (wr.ownsRow w2.heap.size 3 1 (.slice b k cc) k (ins (endsOf (ts.take k)))) ∧ Hid (Below w2.heap.size w2 wr)) (fun _ s _ => n - (intOf s).toNat)
    case atStart => exact ⟨0, none, 0, Nat.zero_le _, rfl, rfl, hid (World.ownsRow_nil _ _ _ _), hid (Below.refl _ _)⟩
    case round =>
     obtain ⟨k, bE, cE, hk, rfl, rfl, HOw, HBw⟩ := hrel
     by_cases hlt : k < n
     · have hlt' : (k : Int) < (n : Int) := by omega
       have hk0 : (0 : Int) ≤ (k : Int) := by omega
       obtain ⟨bb, off, a1, c1, a2, c2, rfl, bx, -, -, -, -⟩ := HR.out k (by have := HL.out; omega)
       obtain ⟨y0, y1, y2, y4, y5⟩ := (bx.below B2.out (Nat.le_refl _)).below HBw.out (Nat.le_refl _)
       have HEt := hid (ends_take (ts := ts) (k := k) (by have := HL.out; omega))
       generalize ts.getD k tk0 = t at *
       obtain ⟨xi, be, en, al, rs, ws, inn, ou⟩ := t
       simp only at y0 y1 y2 y4 y5 HEt
       obtain ⟨n1, hn1⟩ : ∃ m, rs.length = m := ⟨_, rfl⟩
       obtain ⟨n2, hn2⟩ : ∃ m, ws.length = m := ⟨_, rfl⟩
       rw [hn1] at y4
       rw [hn2] at y5
       have tr := two_rows13 wr (.cells #[.int .i64 xi, .int .i64 be, .int .i64 en, .slice a1 n1 c1, .slice a2 n2 c2] 68) (.cells #[.int .i64 en] 3)
       have bA := two wr (.cells #[.int .i64 xi, .int .i64 be, .int .i64 en, .slice a1 n1 c1, .slice a2 n2 c2] 68) (.cells #[.int .i64 en] 3)
       have HBA := hid (HBw.out.trans (bA.mono HBw.out.size))
       have OA := hid (owns_below bA (Nat.le_refl _) HOw.out)
       have HNw := hid tr.2.1
       clear bx tr bA hn1 hn2 HOw
       go_wp2_with (at_builtin; refine wpList_append_row rfl _ _ 29 rfl w2.heap.size 3 i0 (.int .i64 0) 1 8 Tryz.underlying29 hinf hz0 hz1 hz2 rfl (by decide) _ k _ rfl OA.out (some ⟨wr.heap.size + 1, 0, none⟩) 1 1 [.int .i64 en] rfl rfl (.inr ⟨_, rfl, World.news_of_block HNw.out⟩) (fun e => by cases e) ?q1 ?q2 ?q3 ?q4 ?_)
       case q1 => simp [Value.oneCell']
       case q2 => unfold maxLen; omega
       case q3 => omega
       case q4 => exact HBA.out.size
       intro a5 c5 w5 o5 hg5
       have O5 := hid (show w5.ownsRow w2.heap.size 3 1 (.slice a5 (k + 1) c5) (k + 1) (ins (endsOf (ts.take (k + 1)))) by rw [HEt.out, ins_append]; exact o5)
       have B5 := hid (HBA.out.grown hg5 HBA.out.size (fun r e => (OA.out.lt r e).1))
       clear o5 hg5 y0 y1 y2 y4 y5
       go_wp2_with fail
       go_roundw
       case rel => exact ⟨k + 1, a5, c5, by omega, by go_num, rfl, O5, B5⟩
       case measure => simp [intOf]; omega
     · have hlt' : ¬ (k : Int) < (n : Int) := by omega
       obtain rfl : k = n := by omega
       have hoE := HOw.out
       rw [List.take_of_length_le (by have := HL.out; omega)] at hoE
       have HEr := hid (own_readsI hoE (ends_bd HBd.out))
       have HB3 := hid (B2.out.trans (HBw.out.mono B2.out.size))
       have HT3 := hid (HTr.out.below HBw.out (Nat.le_refl _))
       have HTo3 := hid (owns_below HBw.out (Nat.le_refl _) HT1.out)
       have HR3 := hid (HR.out.below HB3.out (Nat.le_refl _))
       obtain ⟨w3, hw3⟩ : ∃ w3, wr = w3 := ⟨_, rfl⟩
       rw [hw3] at HEr HB3 HT3 HTo3 HR3
       try rw [hw3]
       clear hoE HOw HBw HTr HT1 hw3
       go_wp2_with fail
       refine (impl_usesOf c HR3.out HL.out HOk.out).mono ?_
       rintro e w4 ⟨gU, m, ks, X, rfl, hkl, hm2, hko, hU, b4⟩
       have HU := hid hU
       have HKl := hid hkl
       have HKs := hid (ser_keys HOk.out hko O)
       have HR4 := hid (HR3.out.below b4 (Nat.le_refl _))
       replace HEr := hid (HEr.out.below b4 (Nat.le_refl _))
       have HTr := hid (HT3.out.below b4 (Nat.le_refl _))
       have HTo := hid (owns_below b4 (Nat.le_refl _) HTo3.out)
       have HB4 := hid (HB3.out.trans (b4.mono HB3.out.size))
       clear hU hkl hko b4 HT3 HTo3 HR3 HB3
       go_wp2_with fail
       go_loopw [42] (fun s wr => ∃ i : Nat, i ≤ m ∧ s = .int .i64 i ∧ Hid (∀ j, j < i → ∀ d ∈ useL ts ks k (j * 2 + 1), sameR ts O d (ks.getD j im0)) ∧ Hid (Below w4.heap.size w4 wr)) (fun s _ => m - (intOf s).toNat)
       case atStart => exact ⟨0, Nat.zero_le _, rfl, hid (fun j hj => by omega), hid (Below.refl _ _)⟩
       case round =>
        obtain ⟨i, hi, rfl, HSo, HW0⟩ := hrel
        by_cases hlm : i < m
        · have hlm' : (i : Int) < (m : Int) := by omega
          have hi0 : (0 : Int) ≤ (i : Int) := by omega
          have hq0 : i * 2 < m * 2 := by omega
          have hq1 : i * 2 + 1 < m * 2 := by omega
          have HUw := hid (HU.out.below HW0.out)
          have hc0 := HUw.out.cell hq0
          have hc1 := HUw.out.cell hq1
          obtain ⟨aw, cw, hXw⟩ := HU.out.slice hq0
          obtain ⟨ar, cr, hXr⟩ := HU.out.slice hq1
          have hoW := HU.out.own _ hq0
          have hoR := HU.out.own _ hq1
          rw [hXw] at hc0 hoW
          rw [hXr] at hc1 hoR
          have hWe : useL ts ks k (i * 2) = wrsOf ts (ks.getD i im0) := by rw [← HL.out]; exact use_wr i
          rw [hWe] at hc0 hoW
          have hWlt : ∀ p ∈ wrsOf ts (ks.getD i im0), p < k := fun p hp => useL_lt (by rw [hWe]; exact hp)
          have hRlt : ∀ p ∈ useL ts ks k (i * 2 + 1), p < k := fun p hp => useL_lt hp
          have hwl : (wrsOf ts (ks.getD i im0)).length ≤ 100 := by rw [← hWe]; exact Nat.le_trans (useL_len _ _ _ _) hn
          have hrl : (useL ts ks k (i * 2 + 1)).length ≤ 100 := Nat.le_trans (useL_len _ _ _ _) hn
          have HWr := hid (own_readsI hoW (nI_bd (fun p hp => by have := hWlt p hp; omega)))
          have HRr := hid (own_readsI hoR (nI_bd (fun p hp => by have := hRlt p hp; omega)))
          have HWb := hid hWlt
          have HRb := hid hRlt
          have HNx := hid (fun (q : ∀ d ∈ useL ts ks k (i * 2 + 1), sameR ts O d (ks.getD i im0)) j (hj : j < i + 1) => show ∀ d ∈ useL ts ks k (j * 2 + 1), sameR ts O d (ks.getD j im0) from by
           by_cases hc : j < i
           · exact HSo.out j hc
           · have : j = i := by omega
             subst this; exact q)
          have HNo := hid (fun d (hd : d ∈ useL ts ks k (i * 2 + 1)) (q : ¬ sameR ts O d (ks.getD i im0)) => show V = false by
           rw [← HVV.out]
           refine serB_no (fun z => q ?_)
           exact HKs.out.1 z.2.2 i (by rw [HKl.out]; exact hlm) d (by rw [HL.out]; exact hd))
          obtain ⟨RL, hRL⟩ : ∃ RL, useL ts ks k (i * 2 + 1) = RL := ⟨_, rfl⟩
          rw [hRL] at HRr HRb HNx HNo hrl hc1
          obtain ⟨nw, hnw⟩ : ∃ x, (wrsOf ts (ks.getD i im0)).length = x := ⟨_, rfl⟩
          obtain ⟨nr, hnr⟩ : ∃ x, RL.length = x := ⟨_, rfl⟩
          rw [hnw] at hc0 HWr hwl
          rw [hnr] at hc1 HRr hrl
          have HRn := hid hnr
          obtain ⟨y, hy⟩ : ∃ y, ks.getD i im0 = y := ⟨_, rfl⟩
          rw [hy] at HWr HWb HNx HNo
          obtain ⟨gb, hgb⟩ : ∃ gb, wr.heap.size = gb := ⟨_, rfl⟩
          have bA := Below.alloc1 wr (.cells #[.slice aw nw cw, .slice ar nr cr] 91)
          have HWA := hid (HW0.out.trans (bA.mono HW0.out.size))
          have HXA := hid (heap_alloc_new wr (.cells #[.slice aw nw cw, .slice ar nr cr] 91))
          rw [hgb] at HXA
          have HGb := hid hgb
          clear hXw hXr hoW hoR hWe hWlt hRlt hRL hnw hnr hy bA hgb HUw HSo
          go_wp2_with fail
          try simp only [HGb.out]
          clear hc0 hc1
          go_loopw [49] (fun s wq => ∃ t : Nat, t ≤ nr ∧ s = .int .i64 t ∧ Hid (∀ d ∈ RL.take t, sameR ts O d y) ∧ Hid (wq.heap[gb]? = some (.cells #[.slice aw nw cw, .slice ar nr cr] 91)) ∧ Hid (Below w4.heap.size w4 wq)) (fun s _ => nr - (intOf s).toNat)
          case atStart => exact ⟨0, Nat.zero_le _, rfl, hid (fun d hd => by simp at hd), HXA, HWA⟩
          case round =>
           clear HXA HWA
           obtain ⟨t, ht, rfl, HSt, HXA, HWA⟩ := hrel
           obtain ⟨wo, hwo⟩ : ∃ wo, wo = wr := ⟨_, rfl⟩
           subst hwo
           by_cases hlr : t < nr
           · have hlr' : (t : Int) < (nr : Int) := by omega
             have ht0 : (0 : Int) ≤ (t : Int) := by omega
             have htl : t < RL.length := by have := HRn.out; omega
             obtain ⟨br, or', e1, hcr⟩ := readsI_at (HRr.out.below HWA.out (Nat.le_refl _)) hlr
             have hp1 : (nI RL).getD t 0 = ((RL.getD t 0 : Nat) : Int) := by simp [nI, List.getD, htl]
             rw [hp1] at hcr
             have hmem : RL.getD t 0 ∈ RL := by rw [show RL.getD t 0 = RL[t] by simp [List.getD, htl]]; exact List.getElem_mem htl
             have hdk := HRb.out _ hmem
             have HTk := hid (take_nat RL htl)
             have HMm := hid hmem
             generalize RL.getD t 0 = d at *
             subst e1
             obtain ⟨bb, off, a1, c1, a2, c2, rfl, bx, -, -, -, -⟩ := HR4.out d (by have := HL.out; omega)
             have hbe := (bx.below HWA.out (Nat.le_refl _)).c1
             have HSm := hid (show sameR ts O d y ↔ lastW (trn O k) (tI O (d : Int)) (wrsOf ts y) = lastW (endsOf ts) (ts.getD d tk0).begun (wrsOf ts y) by unfold sameR; rw [HL.out])
             obtain ⟨be, hbee⟩ : ∃ be, (ts.getD d tk0).begun = be := ⟨_, rfl⟩
             rw [hbee] at hbe HSm
             have hd' : (d : Int) < (k : Int) := by omega
             have hd0 : (0 : Int) ≤ (d : Int) := by omega
             have hgbl := (Array.getElem?_eq_some_iff.1 HXA.out).1
             have hg0 : wo.cell? ⟨gb, 0, none⟩ = some (.slice aw nw cw) := by rw [cell_of_row _ _ _ _ _ _ HXA.out]; rfl
             have hg1 : wo.cell? ⟨gb, 1, none⟩ = some (.slice (some ⟨br, or', none⟩) nr cr) := by rw [cell_of_row _ _ _ _ _ _ HXA.out]; rfl
             have htn : wo.cell? ⟨g1, d, none⟩ = some (.int .i64 (tI O (d : Int))) := by
              have e := owns_below HWA.out (Nat.le_refl _) HTo.out
              rw [e.cellAt d (by omega), getD_ins]
              unfold trn
              simp [hdk]
             have HHp := hid (And.intro hgbl htn)
             have HHx := hid (And.intro hg0 (And.intro hg1 hbe))
             clear hp1 hmem bx hbee
             have HW1 := hid (HWA.out.trans ((Below.refl wo.heap.size wo).drew.mono HWA.out.size))
             have HS1 := hid (show (fun W => (W.cell? ⟨gb, 0, none⟩ = some (.slice aw nw cw) ∧ W.cell? ⟨gb, 1, none⟩ = some (.slice (some ⟨br, or', none⟩) nr cr)) ∧ W.cell? ⟨bb, off + d * 5 + 1, none⟩ = some (.int .i64 be)) wo.drew from ⟨⟨HHx.out.1, HHx.out.2.1⟩, HHx.out.2.2⟩)
             clear hg0 hg1 hbe htn hgbl
             go_wp2_with fail
             clear hcr
             refine region_K 99 (fun W => (W.cell? ⟨gb, 0, none⟩ = some (.slice aw nw cw) ∧ W.cell? ⟨gb, 1, none⟩ = some (.slice (some ⟨br, or', none⟩) nr cr)) ∧ W.cell? ⟨bb, off + d * 5 + 1, none⟩ = some (.int .i64 be)) (by kernel_rfl) ?_ (fun hHeld => ?_)
             · exact HS1.out
             obtain ⟨v0, hv0⟩ : ∃ v0, wo.drew = v0 := ⟨_, rfl⟩
             have HV0 := hid (show Below wo.heap.size wo v0 by rw [← hv0]; exact (Below.refl wo.heap.size wo).drew)
             rw [hv0] at HS1 HW1 hHeld
             rw [hv0]
             clear hv0
             refine anyK_take2 (i := 0) (v := ?v0_16) rfl (by kernel_rfl) (by kernel_rfl) (by kernel_rfl) (by rfl) (fun _ _ _ h => h) (by rfl) hHeld ?hy0_16 (some 53) (by rfl) ?rest0_16
             case hy0_16 => (intro W hSw; obtain ⟨⟨x0, x1⟩, x2⟩ := hSw; go_simp; (try with_reducible rfl))
             try simp only [Act.put, List.setIfInBounds_toArray, List.set_cons_succ, List.set_cons_zero]
             refine anyK_take2 (i := 1) (v := ?v1_17) rfl (by kernel_rfl) (by kernel_rfl) (by kernel_rfl) (by rfl) (fun _ _ _ h => h) (by rfl) hHeld ?hy1_17 (some 54) (by rfl) ?rest1_17
             case hy1_17 => (intro W hSw; obtain ⟨⟨x0, x1⟩, x2⟩ := hSw; go_simp; (try with_reducible rfl))
             try simp only [Act.put, List.setIfInBounds_toArray, List.set_cons_succ, List.set_cons_zero]
             refine anyK_take2 (i := 2) (v := ?v2_18) rfl (by kernel_rfl) (by kernel_rfl) (by kernel_rfl) (by rfl) (fun _ _ _ h => h) (by rfl) hHeld ?hy2_18 (some 55) (by rfl) ?rest2_18
             case hy2_18 => (intro W hSw; obtain ⟨⟨x0, x1⟩, x2⟩ := hSw; go_simp; (try with_reducible rfl))
             try simp only [Act.put, List.setIfInBounds_toArray, List.set_cons_succ, List.set_cons_zero]
             refine anyK_take2 (i := 3) (v := ?v3_19) rfl (by kernel_rfl) (by kernel_rfl) (by kernel_rfl) (by rfl) (fun _ _ _ h => h) (by rfl) hHeld ?hy3_19 (some 56) (by rfl) ?rest3_19
             case hy3_19 => (intro W hSw; obtain ⟨⟨x0, x1⟩, x2⟩ := hSw; go_simp; (try with_reducible rfl))
             try simp only [Act.put, List.setIfInBounds_toArray, List.set_cons_succ, List.set_cons_zero]
             refine anyK_take2 (i := 4) (v := ?v4_20) rfl (by kernel_rfl) (by kernel_rfl) (by kernel_rfl) (by rfl) (fun _ _ _ h => h) (by rfl) hHeld ?hy4_20 (some 57) (by rfl) ?rest4_20
             case hy4_20 => (intro W hSw; obtain ⟨⟨x0, x1⟩, x2⟩ := hSw; go_simp; (try with_reducible rfl))
             try simp only [Act.put, List.setIfInBounds_toArray, List.set_cons_succ, List.set_cons_zero]
             refine anyK_take2 (i := 5) (v := ?v5_21) rfl (by kernel_rfl) (by kernel_rfl) (by kernel_rfl) (by rfl) (fun _ _ _ h => h) (by rfl) hHeld ?hy5_21 (some 58) (by rfl) ?rest5_21
             case hy5_21 => (intro W hSw; obtain ⟨⟨x0, x1⟩, x2⟩ := hSw; go_simp; (try with_reducible rfl))
             try simp only [Act.put, List.setIfInBounds_toArray, List.set_cons_succ, List.set_cons_zero]
             refine anyK_take2 (i := 6) (v := ?v6_22) rfl (by kernel_rfl) (by kernel_rfl) (by kernel_rfl) (by rfl) (fun _ _ _ h => h) (by rfl) hHeld ?hy6_22 (some 59) (by rfl) ?rest6_22
             case hy6_22 => (intro W hSw; obtain ⟨⟨x0, x1⟩, x2⟩ := hSw; go_simp; (try with_reducible rfl))
             try simp only [Act.put, List.setIfInBounds_toArray, List.set_cons_succ, List.set_cons_zero]
             refine anyK_step (i := 7) (by kernel_rfl) rfl (fun KP hK => ?_)
             go_simp
             refine (impl_lastWriter cw (.slice (some ⟨br, or', none⟩) nr cr) cE be (HWr.out.below HW1.out (Nat.le_refl _)) (HEr.out.below HW1.out (Nat.le_refl _)) HWb.out (by omega)).mono ?_
             rintro e u1 ⟨rfl, bb1⟩
             have HS1b := hid (show (fun W => (W.cell? ⟨gb, 0, none⟩ = some (.slice aw nw cw) ∧ W.cell? ⟨gb, 1, none⟩ = some (.slice (some ⟨br, or', none⟩) nr cr)) ∧ W.cell? ⟨bb, off + d * 5 + 1, none⟩ = some (.int .i64 be)) u1 from ⟨⟨(bb1.cell (p := ⟨gb, 0, none⟩) (World.block_lt_of_cell? _ _ HS1.out.1.1)).trans HS1.out.1.1, (bb1.cell (p := ⟨gb, 1, none⟩) (World.block_lt_of_cell? _ _ HS1.out.1.2)).trans HS1.out.1.2⟩, (bb1.cell (World.block_lt_of_cell? _ _ HS1.out.2)).trans HS1.out.2⟩)
             have HW2 := hid (HW1.out.trans (bb1.mono HW1.out.size))
             have bb1' := bb1
             clear bb1
             have HV1 := hid (HV0.out.trans (show Below wo.heap.size v0 u1 from bb1'.mono HV0.out.size))
             clear bb1'
             obtain ⟨was, hwas⟩ : ∃ was, lastW (endsOf ts) be (wrsOf ts y) = was := ⟨_, rfl⟩
             rw [hwas]
             have HWas := hid hwas
             clear hwas
             go_wp2_with fail
             clear hHeld
             refine hK.out _ _ HS1b.out (fun hHeld => ?_)
             clear hK KP
             try simp only [Act.put, List.setIfInBounds_toArray, List.set_cons_succ, List.set_cons_zero]
             refine anyK_take2 (i := 8) (v := ?v8_23) rfl (by kernel_rfl) (by kernel_rfl) (by kernel_rfl) (by rfl) (fun _ _ _ h => h) (by rfl) hHeld ?hy8_23 (some 14) (by rfl) ?rest8_23
             case hy8_23 => (intro W hSw; obtain ⟨⟨x0, x1⟩, x2⟩ := hSw; go_simp; (try with_reducible rfl))
             try simp only [Act.put, List.setIfInBounds_toArray, List.set_cons_succ, List.set_cons_zero]
             refine anyK_done (by kernel_rfl) ?_ _
             clear hHeld
             have hh2 := HV1.out
             have HS2 := hid (show (fun W => (W.cell? ⟨gb, 0, none⟩ = some (.slice aw nw cw) ∧ W.cell? ⟨gb, 1, none⟩ = some (.slice (some ⟨br, or', none⟩) nr cr)) ∧ W.cell? ⟨g1, d, none⟩ = some (.int .i64 (tI O (d : Int)))) u1.drew from ⟨HS1b.out.1, (hh2.cell (p := ⟨g1, d, none⟩) (World.block_lt_of_cell? _ _ HHp.out.2)).trans HHp.out.2⟩)
             have HX2 := hid (show u1.drew.heap[gb]? = some (.cells #[.slice aw nw cw, .slice (some ⟨br, or', none⟩) nr cr] 91) from (hh2.block gb HHp.out.1).trans HXA.out)
             have HW3 := hid (HW2.out.trans ((Below.refl u1.heap.size u1).drew.mono HW2.out.size))
             have HG2 := hid (show gb < u1.drew.heap.size from Nat.lt_of_lt_of_le HHp.out.1 hh2.size)
             clear hh2
             go_wp2_with fail
             refine region_K 99 (fun W => (W.cell? ⟨gb, 0, none⟩ = some (.slice aw nw cw) ∧ W.cell? ⟨gb, 1, none⟩ = some (.slice (some ⟨br, or', none⟩) nr cr)) ∧ W.cell? ⟨g1, d, none⟩ = some (.int .i64 (tI O (d : Int)))) (by kernel_rfl) ?_ (fun hHeld => ?_)
             · exact HS2.out
             obtain ⟨v1, hv1⟩ : ∃ v1, u1.drew = v1 := ⟨_, rfl⟩
             rw [hv1] at HS2 HW3 HX2 HG2 hHeld
             rw [hv1]
             clear hv1
             refine anyK_take2 (i := 0) (v := ?v0_24) rfl (by kernel_rfl) (by kernel_rfl) (by kernel_rfl) (by rfl) (fun _ _ _ h => h) (by rfl) hHeld ?hy0_24 (some 61) (by rfl) ?rest0_24
             case hy0_24 => (intro W hSw; obtain ⟨⟨x0, x1⟩, x2⟩ := hSw; go_simp; (try with_reducible rfl))
             try simp only [Act.put, List.setIfInBounds_toArray, List.set_cons_succ, List.set_cons_zero]
             refine anyK_take2 (i := 1) (v := ?v1_25) rfl (by kernel_rfl) (by kernel_rfl) (by kernel_rfl) (by rfl) (fun _ _ _ h => h) (by rfl) hHeld ?hy1_25 (some 62) (by rfl) ?rest1_25
             case hy1_25 => (intro W hSw; obtain ⟨⟨x0, x1⟩, x2⟩ := hSw; go_simp; (try with_reducible rfl))
             try simp only [Act.put, List.setIfInBounds_toArray, List.set_cons_succ, List.set_cons_zero]
             refine anyK_take2 (i := 2) (v := ?v2_26) rfl (by kernel_rfl) (by kernel_rfl) (by kernel_rfl) (by rfl) (fun _ _ _ h => h) (by rfl) hHeld ?hy2_26 (some 63) (by rfl) ?rest2_26
             case hy2_26 => (intro W hSw; obtain ⟨⟨x0, x1⟩, x2⟩ := hSw; go_simp; (try with_reducible rfl))
             try simp only [Act.put, List.setIfInBounds_toArray, List.set_cons_succ, List.set_cons_zero]
             refine anyK_take2 (i := 3) (v := ?v3_27) rfl (by kernel_rfl) (by kernel_rfl) (by kernel_rfl) (by rfl) (fun _ _ _ h => h) (by rfl) hHeld ?hy3_27 (some 64) (by rfl) ?rest3_27
             case hy3_27 => (intro W hSw; obtain ⟨⟨x0, x1⟩, x2⟩ := hSw; go_simp; (try with_reducible rfl))
             try simp only [Act.put, List.setIfInBounds_toArray, List.set_cons_succ, List.set_cons_zero]
             refine anyK_take2 (i := 4) (v := ?v4_28) rfl (by kernel_rfl) (by kernel_rfl) (by kernel_rfl) (by rfl) (fun _ _ _ h => h) (by rfl) hHeld ?hy4_28 (some 65) (by rfl) ?rest4_28
             case hy4_28 => (intro W hSw; obtain ⟨⟨x0, x1⟩, x2⟩ := hSw; go_simp; (try with_reducible rfl))
             try simp only [Act.put, List.setIfInBounds_toArray, List.set_cons_succ, List.set_cons_zero]
             refine anyK_take2 (i := 5) (v := ?v5_29) rfl (by kernel_rfl) (by kernel_rfl) (by kernel_rfl) (by rfl) (fun _ _ _ h => h) (by rfl) hHeld ?hy5_29 (some 66) (by rfl) ?rest5_29
             case hy5_29 => (intro W hSw; obtain ⟨⟨x0, x1⟩, x2⟩ := hSw; go_simp; (try with_reducible rfl))
             try simp only [Act.put, List.setIfInBounds_toArray, List.set_cons_succ, List.set_cons_zero]
             refine anyK_take2 (i := 7) (v := ?v7_30) rfl (by kernel_rfl) (by kernel_rfl) (by kernel_rfl) (by rfl) (fun _ _ _ h => h) (by rfl) hHeld ?hy7_30 (some 68) (by rfl) ?rest7_30
             case hy7_30 => (intro W hSw; obtain ⟨⟨x0, x1⟩, x2⟩ := hSw; go_simp; (try with_reducible rfl))
             try simp only [Act.put, List.setIfInBounds_toArray, List.set_cons_succ, List.set_cons_zero]
             refine anyK_step (i := 6) (by kernel_rfl) rfl (fun KP hK => ?_)
             go_simp
             refine (impl_lastWriter cw (.slice (some ⟨br, or', none⟩) nr cr) k (tI O (d : Int)) (HWr.out.below HW3.out (Nat.le_refl _)) (HTr.out.below HW3.out (Nat.le_refl _)) HWb.out (by omega)).mono ?_
             rintro e u2 ⟨rfl, bb1⟩
             have HS2b := hid (show (fun W => (W.cell? ⟨gb, 0, none⟩ = some (.slice aw nw cw) ∧ W.cell? ⟨gb, 1, none⟩ = some (.slice (some ⟨br, or', none⟩) nr cr)) ∧ W.cell? ⟨g1, d, none⟩ = some (.int .i64 (tI O (d : Int)))) u2 from ⟨⟨(bb1.cell (p := ⟨gb, 0, none⟩) (World.block_lt_of_cell? _ _ HS2.out.1.1)).trans HS2.out.1.1, (bb1.cell (p := ⟨gb, 1, none⟩) (World.block_lt_of_cell? _ _ HS2.out.1.2)).trans HS2.out.1.2⟩, (bb1.cell (World.block_lt_of_cell? _ _ HS2.out.2)).trans HS2.out.2⟩)
             have HW4 := hid (HW3.out.trans (bb1.mono HW3.out.size))
             have bb2' := bb1
             clear bb1
             have HX3 := hid ((bb2'.block gb HG2.out).trans HX2.out)
             clear bb2'
             obtain ⟨nowW, hnow⟩ : ∃ x, lastW (trn O k) (tI O (d : Int)) (wrsOf ts y) = x := ⟨_, rfl⟩
             rw [hnow]
             have HNow := hid hnow
             clear hnow
             go_wp2_with fail
             clear hHeld
             refine hK.out _ _ HS2b.out (fun hHeld => ?_)
             clear hK KP
             try simp only [Act.put, List.setIfInBounds_toArray, List.set_cons_succ, List.set_cons_zero]
             by_cases hse : nowW = was
             · have hne : (nowW != was) = false := by simpa using hse
               have HN2 := hid (show ∀ d ∈ RL.take (t + 1), sameR ts O d y by
                intro d' hd'
                rw [HTk.out] at hd'
                rcases List.mem_append.1 hd' with hd' | hd'
                · exact HSt.out d' hd'
                · obtain rfl : d' = d := by simpa using hd'
                  exact HSm.out.2 (by rw [HNow.out, HWas.out]; exact hse))
               clear hse
               refine anyK_take2 (i := 8) (v := ?v8_31) rfl (by kernel_rfl) (by kernel_rfl) (by kernel_rfl) (by rfl) (fun _ _ _ h => h) (by rfl) hHeld ?hy8_31 (some 69) (by rfl) ?rest8_31
               case hy8_31 => (intro W hSw; obtain ⟨⟨x0, x1⟩, x2⟩ := hSw; go_simp; (try with_reducible rfl))
               try simp only [Act.put, List.setIfInBounds_toArray, List.set_cons_succ, List.set_cons_zero]
               refine anyK_done (by kernel_rfl) ?_ _
               clear hHeld
               go_wp2_with fail
               go_roundw
               case rel => exact ⟨t + 1, by omega, by go_num, HN2, HX3, HW4⟩
               case measure => simp [intOf]; omega
             · have hne : (nowW != was) = true := by simpa using hse
               have HF := hid (HNo.out d HMm.out (fun q => hse (by have := HSm.out.1 q; rwa [HNow.out, HWas.out] at this)))
               clear hse
               refine anyK_take2 (i := 8) (v := ?v8_32) rfl (by kernel_rfl) (by kernel_rfl) (by kernel_rfl) (by rfl) (fun _ _ _ h => h) (by rfl) hHeld ?hy8_32 (some 69) (by rfl) ?rest8_32
               case hy8_32 => (intro W hSw; obtain ⟨⟨x0, x1⟩, x2⟩ := hSw; go_simp; (try with_reducible rfl))
               try simp only [Act.put, List.setIfInBounds_toArray, List.set_cons_succ, List.set_cons_zero]
               refine anyK_done (by kernel_rfl) ?_ _
               clear hHeld
               go_wp2_with fail
               go_ret
               exact ⟨by rw [HF.out]; rfl, HB4.out.trans (HW4.out.mono HB4.out.size)⟩
           · have hlr' : ¬ (t : Int) < (nr : Int) := by omega
             have HN2 := hid (HNx.out (fun d hd => HSt.out d (by rw [List.take_of_length_le (by have := HRn.out; omega)]; exact hd)))
             go_wp2_with fail
             go_roundw
             case rel => exact ⟨i + 1, by omega, by go_num, HN2, HWA⟩
             case measure => simp [intOf]; omega
        · have hlm' : ¬ (i : Int) < (m : Int) := by omega
          have HT := hid (show V = true by
           rw [← HVV.out]
           exact serB_yes ⟨HOk.out, by rw [HL.out]; exact HIo.out, HKs.out.2 (fun j hj d hd => HSo.out j (by have := HKl.out; omega) d (by rw [← HL.out]; exact hd))⟩)
          go_wp2_with fail
          go_ret
          exact ⟨by rw [HT.out]; rfl, HB4.out.trans (HW0.out.mono HB4.out.size)⟩
end Go.Proofs.YtjcjoabblafboaaGreat
