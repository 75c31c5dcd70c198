/- Texts of this proof in one: Ho14 Gd14 En13 Eo13 Ep13 Eu13. -/
import Derived.Test.YtjcjoabblafboaaGreatMgf
import Derived.Test.YtjcjoabblafboaaGreatMgd
import Derived.Test.YtjcjoabblafboaaGreatMga
import Derived.Test.YtjcjoabblafboaaGreatMgb
/- The contract of the program's placesInSpans. Conditions: at most 20000 keys, which ascend, at most 2^20 spans; all are right. -/

namespace Go.Proofs.YtjcjoabblafboaaGreat
open Go.RowKit
set_option maxRecDepth 100000
theorem infoI14 : ∃ i, Tryz.prog.info? 3 = some i ∧ i.zero = some (.int .i64 0) ∧ i.size = 1 ∧ i.bytes = 8 := by
 have := Tryz.infoI
 cases hh : Tryz.prog.info? 3 with
 | none => rw [hh] at this; cases this
 | some i => rw [hh] at this; simp at this; exact ⟨i, rfl, this.1, this.2.1, this.2.2⟩
theorem range'_snoc (a m : Nat) : List.range' a (m + 1) = List.range' a m ++ [a + m] := by
 rw [List.range'_concat]; simp
set_option maxHeartbeats 12800000 in
theorem impl_placesInSpans {a : Option Addr} {n : Nat} (c : Nat) {ks : List Im} {a' : Option Addr} {n' : Nat} (c' : Nat) {rs : List (Im × Im)} {w : World} (h : ReadsM w a ks) (hl : ks.length = n) (hn : n ≤ 20000) (ok : ∀ x ∈ ks, okM x = true) (asc : ks.Pairwise (fun x y => cmpM x y < 0)) (h' : ReadsM w a' (fl2 rs)) (hl' : rs.length = n') (hn' : n' ≤ 1048576) (oR : ∀ p ∈ rs, spB p = true) :
 Calls Tryz.prog 105 #[.slice a n c, .slice a' n' c'] w fun e w' => ∃ (b : Option Addr) (k cc : Nat), e = .returned (.slice b k cc) ∧ (plS ks rs).length = k ∧ w'.ownsRow w.heap.size 3 1 (.slice b k cc) k (ins (nI (plS ks rs))) ∧ Below w.heap.size w w' := by
 have HK := hid h
 have HL := hid hl
 have HOK := hid ok
 have HAs := hid asc
 have HS := hid h'
 have HOR := hid oR
 have HL' := hid hl'
 clear h hl ok asc h' oR hl'
 obtain ⟨i0, hinf, hz0, hz1, hz2⟩ := infoI14
 go_enter Tryz.func105, Tryz.ntmps105
 go_wp2_with fail
 refine (clone_spans c' HS.out HL'.out hn').mono ?_
 rintro e w1 ⟨b1, cc1, ss, rfl, hs1, hr1, o1, be1⟩
 have HSs := hid hs1
 have HRs := hid hr1
 have O1 := hid o1
 have B1 := hid be1
 have HLs := hid (show ss.length = n' by rw [← HL'.out, ← hs1, List.length_map])
 have hspB : ∀ s ∈ ss, spB (spE s) = true := fun s hs => HOR.out _ (by rw [← hs1]; exact List.mem_map.2 ⟨s, hs, rfl⟩)
 have HBs := hid hspB
 clear hs1 hr1 o1 be1 hspB
 go_wp2_with fail
 refine (sort_spans ss HLs.out w1 O1.out (fun blk e s hs => by
  subst e
  have hb := (O1.out.lt blk rfl).1
  have q1 := HRs.out s.1 (mem_un2.2 ⟨s, hs, .inl rfl⟩)
  have q2 := HRs.out s.2 (mem_un2.2 ⟨s, hs, .inr rfl⟩)
  have q3 := spB_ok (HBs.out s hs)
  exact ⟨good_of q1.rd q1.fl q3.1 B1.out hb, good_of q2.rd q2.fl q3.2.1 B1.out hb⟩) (fun s hs => (spB_ok (HBs.out s hs)).1) (by omega)).mono ?_
 rintro e w2 ⟨rfl, d, hp2, hs2, o2, g2⟩
 have B2 := hid (B1.out.grown g2 B1.out.size (fun r e => (O1.out.lt r e).1))
 have HLd := hid (show d.length = n' by rw [hp2.length_eq, HLs.out])
 have HPr := hid (show (d.map spE).Perm rs by rw [← HSs.out]; exact hp2.map spE)
 have HSo := hid (show (d.map spE).Pairwise (fun x y => cmpM x.1 y.1 ≤ 0) by rw [List.pairwise_map]; exact hs2)
 have HDB := hid (show ∀ p ∈ d.map spE, spB p = true by
  intro p hp
  obtain ⟨s, hs, rfl⟩ := List.mem_map.1 hp
  exact HBs.out s (hp2.mem_iff.1 hs))
 have HRM := hid (show ReadsM w2 b1 (fl2 (d.map spE)) by
  rw [← un2_e]
  refine own_readsM (by rw [← fS_un2]; exact o2) (fun q hq => ?_) (by rw [un2_len, HLd.out]; omega)
  obtain ⟨s, hs, e⟩ := mem_un2.1 hq
  exact (HRs.out q (mem_un2.2 ⟨s, hp2.mem_iff.1 hs, e⟩)).below B2.out (Nat.le_refl _))
 have HK2 := hid (HK.out.below B2.out (Nat.le_refl _))
 obtain ⟨R, hR⟩ : ∃ R, d.map spE = R := ⟨_, rfl⟩
 rw [hR] at HPr HSo HDB HRM
 have HRl := hid (show R.length = n' by rw [← hR, List.length_map]; exact HLd.out)
 clear hp2 hs2 o2 g2 hR HLd HRs HSs O1 B1 HLs HBs HK HS
 go_wp2_with fail
 go_loopw [6, 7, 20] (fun s6 s7 s20 wr => ∃ (j nx : Nat) (b : Option Addr) (k cc : Nat) (P : List Nat), j ≤ n' ∧ s20 = .int .i64 j ∧ s7 = .int .i64 nx ∧ s6 = .slice b k cc ∧ nx ≤ n ∧ k ≤ nx ∧ Hid (P.length = k) ∧ Hid (Far ks R j nx P) ∧ Hid (wr.ownsRow w2.heap.size 3 1 (.slice b k cc) k (ins (nI P))) ∧ Hid (Below w2.heap.size w2 wr)) (fun _ _ i _ => n' - (intOf i).toNat)
 case atStart => exact ⟨0, 0, none, 0, 0, [], Nat.zero_le _, rfl, rfl, rfl, Nat.zero_le _, Nat.le_refl _, hid rfl, hid (Far.start _ _), hid (World.ownsRow_nil _ _ _ _), hid (Below.refl _ _)⟩
 case round =>
  obtain ⟨j, nx, b, k, cc, P, hj, rfl, rfl, rfl, hnx, hk, HPl, HFa, HO, HB⟩ := hrel
  by_cases hlt : j < n'
  · have hlt' : (j : Int) < (n' : Int) := by omega
    have hj0 : (0 : Int) ≤ (j : Int) := by omega
    have hl2 : (fl2 R).length = n' * 2 := by rw [fl2_len, HRl.out]
    obtain ⟨bb, off, p1, d1, rfl, bx, q1, _, _, hf1⟩ := HRM.out.at (k := j * 2) (by omega)
    obtain ⟨bb', off', p2, d2, e', by', q2, _, _, hf2⟩ := HRM.out.at (k := j * 2 + 1) (by omega)
    obtain ⟨rfl, rfl⟩ : bb = bb' ∧ off = off' := by simpa using e'
    have hat := fl2_at R j
    rw [hat.1] at bx q1 hf1
    rw [hat.2] at by' q2 hf2
    have hjR : j < R.length := by have := HRl.out; omega
    have hspj : spB (R.getD j sp0) = true := by
     rw [show R.getD j sp0 = R[j] by simp [List.getD, hjR]]; exact HDB.out _ (List.getElem_mem hjR)
    have HSt := hid (fun (f e : Nat) (q : SpanAt ks (R.getD j sp0) f e) => HFa.out.step hjR HOK.out HDB.out HSo.out q)
    have HSa := hid (fun (f i2 e : Nat) (q1 : LB ks (R.getD j sp0).1 f) (q2 : LB ks (R.getD j sp0).2 i2) (he : e = if i2 < ks.length ∧ cmpM (ks.getD i2 im0) (R.getD j sp0).2 = 0 then i2 + 1 else i2) => span_at HOK.out HAs.out hspj q1 q2 he)
    obtain ⟨ok1, ok2, -⟩ := spB_ok hspj
    generalize R.getD j sp0 = pp at *
    obtain ⟨⟨K1, N1, F1, Z1⟩, K2, N2, F2, Z2⟩ := pp
    simp only at bx by' q1 q2 hf1 hf2 ok1 ok2 HSt HSa
    obtain ⟨m1, hm1⟩ : ∃ m, Z1.length = m := ⟨_, rfl⟩
    obtain ⟨m2, hm2⟩ : ∃ m, Z2.length = m := ⟨_, rfl⟩
    have HM := hid (And.intro hm1 hm2)
    rw [hm1] at bx q1
    rw [hm2] at by' q2
    rw [show off + j * 2 * 4 = off + j * 8 by omega] at bx
    rw [show off + (j * 2 + 1) * 4 = off + j * 8 + 4 by omega] at by'
    obtain ⟨x0, x1, x2, x3⟩ := bx.below HB.out (Nat.le_refl _)
    obtain ⟨x4, x5, x6, x7⟩ := by'.below HB.out (Nat.le_refl _)
    have bA := Below.alloc1 wr (.cells #[.int .i64 K1, .int .i64 N1, .float .f64 F1, .slice p1 m1 d1, .int .i64 K2, .int .i64 N2, .float .f64 F2, .slice p2 m2 d2] 74)
    have HBA := hid (HB.out.trans (bA.mono HB.out.size))
    have HOA := hid (owns_below bA (Nat.le_refl _) HO.out)
    have HQ1 := hid q1
    have HQ2 := hid q2
    have hst := fun w a m => run_store Tryz.prog w a (.float .f64 F1) m rfl
    have hst2 := fun w a m => run_store Tryz.prog w a (.float .f64 F2) m rfl
    have HRA := hid (heap_alloc_new wr (.cells #[.int .i64 K1, .int .i64 N1, .float .f64 F1, .slice p1 m1 d1, .int .i64 K2, .int .i64 N2, .float .f64 F2, .slice p2 m2 d2] 74))
    have HZA := hid (alloc_size wr (.cells #[.int .i64 K1, .int .i64 N1, .float .f64 F1, .slice p1 m1 d1, .int .i64 K2, .int .i64 N2, .float .f64 F2, .slice p2 m2 d2] 74))
    clear bx by' q1 q2 hm1 hm2 hat hl2 e' bA hjR hspj HO HFa
    go_wp2_with fail
    clear x0 x1 x2 x3 x4 x5 x6 x7
    refine (search_items c K1 N1 F1 d1 (HK2.out.below HBA.out (Nat.le_refl _)) HL.out (by omega) HOK.out HAs.out (HQ1.out.below HBA.out (Nat.le_refl _)) hf1 HM.out.1 ok1).mono ?_
    rintro e w3 ⟨f, rfl, lb1, be3⟩
    have HLB1 := hid lb1
    have hfn : f ≤ n := by have := lb1.le; have := HL.out; omega
    have HB3 := hid (HBA.out.trans (be3.mono HBA.out.size))
    have HO3 := hid (owns_below be3 (Nat.le_refl _) HOA.out)
    have hr3 := (be3.block wr.heap.size (by have := HZA.out; omega)).trans HRA.out
    have y4 := cell_of_row _ _ 4 _ _ _ hr3
    have y5 := cell_of_row _ _ 5 _ _ _ hr3
    have y6 := cell_of_row _ _ 6 _ _ _ hr3
    have y7 := cell_of_row _ _ 7 _ _ _ hr3
    generalize decide (f < n ∧ cmpM (ks.getD f im0) ⟨K1, N1, F1, Z1⟩ = 0) = hasFrom
    clear lb1 be3 hr3 HBA HOA HRA HZA
    go_wp2_with fail
    clear y4 y5 y6 y7
    refine (search_items c K2 N2 F2 d2 (HK2.out.below HB3.out (Nat.le_refl _)) HL.out (by omega) HOK.out HAs.out (HQ2.out.below HB3.out (Nat.le_refl _)) hf2 HM.out.2 ok2).mono ?_
    rintro e w4 ⟨i2, rfl, lb2, be4⟩
    have hi2n : i2 ≤ n := by have := lb2.le; have := HL.out; omega
    obtain ⟨hasTo, hTo⟩ : ∃ t, decide (i2 < n ∧ cmpM (ks.getD i2 im0) ⟨K2, N2, F2, Z2⟩ = 0) = t := ⟨_, rfl⟩
    rw [hTo]
    obtain ⟨en, hen, hsp⟩ : ∃ en, (if hasTo = true then i2 + 1 else i2) = en ∧ SpanAt ks (⟨K1, N1, F1, Z1⟩, ⟨K2, N2, F2, Z2⟩) f en := by
     refine ⟨_, rfl, HSa.out f i2 _ HLB1.out lb2 ?_⟩
     rw [← hTo]
     by_cases q : i2 < n ∧ cmpM (ks.getD i2 im0) ⟨K2, N2, F2, Z2⟩ = 0
     · rw [decide_eq_true q, if_pos rfl, if_pos (by rw [HL.out]; exact q)]
     · rw [decide_eq_false q, if_neg (by simp), if_neg (by rw [HL.out]; exact q)]
    have HST := hid (HSt.out f en hsp)
    have henn : en ≤ n := by have := hsp.en; have := HL.out; omega
    have HEn := hid hen
    have HB4 := hid (HB3.out.trans (be4.mono HB3.out.size))
    have HO4 := hid (owns_below be4 (Nat.le_refl _) HO3.out)
    clear lb2 be4 hTo hsp HB3 HO3 HLB1 HSt HSa hen
    obtain ⟨mx, hmx⟩ : ∃ mx, max nx f = mx := ⟨_, rfl⟩
    have hmx1 : max (nx : Int) (f : Int) = (mx : Int) := by omega
    rw [hmx] at HST
    have hmxn : mx ≤ n := by omega
    have hkx : k ≤ mx := by omega
    have HMx := hid hmx
    clear hmx
    have hgo : hasTo = true ∨ hasTo = false := by cases hasTo <;> simp
    cases hasTo with
    | true =>
     have he1 : (i2 : Int) + 1 = (en : Int) := by have := HEn.out; simp at this; omega
     go_wp2_with fail
     clear hmx1
     go_loopw [6, 7] (fun s6 s7 wq => ∃ (cur : Nat) (b' : Option Addr) (k' cc' : Nat), s7 = .int .i64 cur ∧ s6 = .slice b' k' cc' ∧ mx ≤ cur ∧ (cur ≤ en ∨ cur = mx) ∧ cur ≤ n ∧ Hid (k' = k + (cur - mx)) ∧ k' ≤ cur ∧ Hid (wq.ownsRow w2.heap.size 3 1 (.slice b' k' cc') k' (ins (nI (P ++ List.range' mx (cur - mx))))) ∧ Hid (Below w2.heap.size w2 wq)) (fun _ s _ => en - (intOf s).toNat)
     case atStart => exact ⟨mx, b, k, cc, rfl, rfl, Nat.le_refl _, .inr rfl, hmxn, hid (by omega), hkx, hid (by rw [Nat.sub_self]; simpa using HO4.out), HB4⟩
     case round =>
      obtain ⟨cur, b', k', cc', rfl, rfl, hmc, hce, hcn, HKe, hkc, HOw, HBw⟩ := hrel
      obtain ⟨wo, hwo⟩ : ∃ wo, wo = wr := ⟨_, rfl⟩
      subst hwo
      by_cases hlc : cur < en
      · have hlc' : (cur : Int) < (en : Int) := by omega
        have bA := Below.alloc1 wo (.cells #[.int .i64 cur] 3)
        have HA1 := hid (heap_alloc_new wo (.cells #[.int .i64 cur] 3))
        have OA := hid (owns_below bA (Nat.le_refl _) HOw.out)
        have BA := hid (HBw.out.trans (bA.mono HBw.out.size))
        clear bA HOw
        go_wp2_with (at_builtin; refine wpList_append_row rfl _ _ 29 rfl w2.heap.size 3 i0 (.int .i64 0) 1 8 Tryz.underlying29 hinf hz0 hz1 hz2 rfl (by decide) _ k' _ rfl OA.out (some ⟨wo.heap.size, 0, none⟩) 1 1 [.int .i64 cur] rfl rfl (.inr ⟨_, rfl, World.news_of_block HA1.out⟩) (fun e => by cases e) ?q1 ?q2 ?q3 ?q4 ?_)
        case q1 => simp [Value.oneCell']
        case q2 => unfold maxLen; omega
        case q3 => omega
        case q4 => exact BA.out.size
        intro a5 c5 w5 o5 hg5
        have O5 := hid (show w5.ownsRow w2.heap.size 3 1 (.slice a5 (k' + 1) c5) (k' + 1) (ins (nI (P ++ List.range' mx (cur + 1 - mx)))) by
         rw [show cur + 1 - mx = (cur - mx) + 1 by omega, range'_snoc, show mx + (cur - mx) = cur by omega, ← List.append_assoc, nI_app, ins_append]
         exact o5)
        have B5 := hid (BA.out.grown hg5 BA.out.size (fun r e => (OA.out.lt r e).1))
        clear o5 hg5
        go_wp2_with fail
        go_roundw
        case rel => exact ⟨cur + 1, a5, k' + 1, c5, by go_num, rfl, by omega, .inl (by omega), by omega, hid (by have := HKe.out; omega), by omega, O5, B5⟩
        case measure => simp [intOf]; omega
      · have hlc' : ¬ (cur : Int) < (en : Int) := by omega
        have HFn := hid (show Far ks R (j + 1) cur (P ++ List.range' mx (cur - mx)) by
         have hm := HMx.out
         by_cases q : mx < en
         · have : cur = en := by omega
           subst this
           exact HST.out.2 q
         · have : cur = mx := by omega
           subst this
           rw [Nat.sub_self]
           simpa using HST.out.1 (by omega))
        have HPn := hid (show (P ++ List.range' mx (cur - mx)).length = k' by rw [List.length_append, HPl.out, List.length_range', HKe.out])
        go_wp2_with fail
        go_roundw
        case rel => exact ⟨j + 1, cur, b', k', cc', P ++ List.range' mx (cur - mx), by omega, by go_num, rfl, rfl, hcn, hkc, HPn, HFn, HOw, HBw⟩
        case measure => simp [intOf]; omega
    | false =>
     obtain rfl : i2 = en := by have := HEn.out; simpa using this
     go_wp2_with fail
     clear hmx1
     go_loopw [6, 7] (fun s6 s7 wq => ∃ (cur : Nat) (b' : Option Addr) (k' cc' : Nat), s7 = .int .i64 cur ∧ s6 = .slice b' k' cc' ∧ mx ≤ cur ∧ (cur ≤ i2 ∨ cur = mx) ∧ cur ≤ n ∧ Hid (k' = k + (cur - mx)) ∧ k' ≤ cur ∧ Hid (wq.ownsRow w2.heap.size 3 1 (.slice b' k' cc') k' (ins (nI (P ++ List.range' mx (cur - mx))))) ∧ Hid (Below w2.heap.size w2 wq)) (fun _ s _ => i2 - (intOf s).toNat)
     case atStart => exact ⟨mx, b, k, cc, rfl, rfl, Nat.le_refl _, .inr rfl, hmxn, hid (by omega), hkx, hid (by rw [Nat.sub_self]; simpa using HO4.out), HB4⟩
     case round =>
      obtain ⟨cur, b', k', cc', rfl, rfl, hmc, hce, hcn, HKe, hkc, HOw, HBw⟩ := hrel
      obtain ⟨wo, hwo⟩ : ∃ wo, wo = wr := ⟨_, rfl⟩
      subst hwo
      by_cases hlc : cur < i2
      · have hlc' : (cur : Int) < (i2 : Int) := by omega
        have bA := Below.alloc1 wo (.cells #[.int .i64 cur] 3)
        have HA1 := hid (heap_alloc_new wo (.cells #[.int .i64 cur] 3))
        have OA := hid (owns_below bA (Nat.le_refl _) HOw.out)
        have BA := hid (HBw.out.trans (bA.mono HBw.out.size))
        clear bA HOw
        go_wp2_with (at_builtin; refine wpList_append_row rfl _ _ 29 rfl w2.heap.size 3 i0 (.int .i64 0) 1 8 Tryz.underlying29 hinf hz0 hz1 hz2 rfl (by decide) _ k' _ rfl OA.out (some ⟨wo.heap.size, 0, none⟩) 1 1 [.int .i64 cur] rfl rfl (.inr ⟨_, rfl, World.news_of_block HA1.out⟩) (fun e => by cases e) ?q1 ?q2 ?q3 ?q4 ?_)
        case q1 => simp [Value.oneCell']
        case q2 => unfold maxLen; omega
        case q3 => omega
        case q4 => exact BA.out.size
        intro a5 c5 w5 o5 hg5
        have O5 := hid (show w5.ownsRow w2.heap.size 3 1 (.slice a5 (k' + 1) c5) (k' + 1) (ins (nI (P ++ List.range' mx (cur + 1 - mx)))) by
         rw [show cur + 1 - mx = (cur - mx) + 1 by omega, range'_snoc, show mx + (cur - mx) = cur by omega, ← List.append_assoc, nI_app, ins_append]
         exact o5)
        have B5 := hid (BA.out.grown hg5 BA.out.size (fun r e => (OA.out.lt r e).1))
        clear o5 hg5
        go_wp2_with fail
        go_roundw
        case rel => exact ⟨cur + 1, a5, k' + 1, c5, by go_num, rfl, by omega, .inl (by omega), by omega, hid (by have := HKe.out; omega), by omega, O5, B5⟩
        case measure => simp [intOf]; omega
      · have hlc' : ¬ (cur : Int) < (i2 : Int) := by omega
        have HFn := hid (show Far ks R (j + 1) cur (P ++ List.range' mx (cur - mx)) by
         have hm := HMx.out
         by_cases q : mx < i2
         · have : cur = i2 := by omega
           subst this
           exact HST.out.2 q
         · have : cur = mx := by omega
           subst this
           rw [Nat.sub_self]
           simpa using HST.out.1 (by omega))
        have HPn := hid (show (P ++ List.range' mx (cur - mx)).length = k' by rw [List.length_append, HPl.out, List.length_range', HKe.out])
        go_wp2_with fail
        go_roundw
        case rel => exact ⟨j + 1, cur, b', k', cc', P ++ List.range' mx (cur - mx), by omega, by go_num, rfl, rfl, hcn, hkc, HPn, HFn, HOw, HBw⟩
        case measure => simp [intOf]; omega
  · have hlt' : ¬ (j : Int) < (n' : Int) := by omega
    obtain rfl : j = n' := by omega
    have hfa := HFa.out
    rw [← HRl.out] at hfa
    have HE := hid (hfa.done HPr.out)
    clear hfa
    go_wp2_with fail
    go_ret
    refine ⟨b, k, cc, rfl, ?_, ?_, B2.out.trans (HB.out.mono B2.out.size)⟩
    · rw [← HE.out]; exact HPl.out
    · rw [← HE.out]; exact owns_lower HO.out B2.out.size
end Go.Proofs.YtjcjoabblafboaaGreat
/- The contract of the specification's l14reads. Conditions: texts of at most 2^21 bytes, at most 2^21 reads. -/



namespace Go.Proofs.YtjcjoabblafboaaGreat
open Go.RowKit
set_option maxRecDepth 100000
def rdsB (t : Tk) (x : Im) : Bool := t.rs.any (fun p => inM p x)
abbrev ddV (t : Tk) (x y : Value) : Value := .agg #[.int .i64 t.xid, .int .i64 t.begun, .int .i64 t.ended, x, y]
set_option maxHeartbeats 6400000 in
theorem spec_l14reads (t : Tk) (x : Im) {a1 : Option Addr} (c1 : Nat) (y : Value) {ax : Option Addr} (cx : Nat) {w : World} (h : ReadsM w a1 (fl2 t.rs)) (hx : Reads w ax x.Z.length x.Z) (hfx : x.F < 18446744073709551616) (hnx : x.Z.length ≤ 2097152) (hs : ∀ i, ((fl2 t.rs).getD i im0).Z.length ≤ 2097152) (hn : t.rs.length ≤ 2097152) :
 Calls Tryz.prog 51 #[ddV t (.slice a1 t.rs.length c1) y, imV x (.slice ax x.Z.length cx)] w fun e w' => e = .returned (.bool (rdsB t x)) ∧ Below w.heap.size w w' := by
 obtain ⟨xi, be, en, al, rs, ws, inn, ou⟩ := t
 obtain ⟨KX, NX, FX, ZX⟩ := x
 simp only at h hx hfx hnx hs hn
 obtain ⟨n, hN⟩ : ∃ n, rs.length = n := ⟨_, rfl⟩
 obtain ⟨m, hM⟩ : ∃ m, ZX.length = m := ⟨_, rfl⟩
 simp only [hN, hM] at hx hnx hn ⊢
 have HN := hid hN
 have HM := hid hM
 have hst := fun w a m => run_store Tryz.prog w a (.float .f64 FX) m rfl
 have hB := two w (.cells #[.int .i64 xi, .int .i64 be, .int .i64 en, .slice a1 n c1, y] 68) (.cells #[.int .i64 KX, .int .i64 NX, .float .f64 FX, .slice ax m cx] 72)
 obtain ⟨R1, R2, z⟩ := two_rows13 w (.cells #[.int .i64 xi, .int .i64 be, .int .i64 en, .slice a1 n c1, y] 68) (.cells #[.int .i64 KX, .int .i64 NX, .float .f64 FX, .slice ax m cx] 72)
 have HB := hid hB
 have HRM := hid h
 have HRX := hid hx
 have HR1 := hid R1
 have HR2 := hid R2
 have HZ := hid z
 obtain ⟨V, hV⟩ : ∃ V, rdsB ⟨xi, be, en, al, rs, ws, inn, ou⟩ ⟨KX, NX, FX, ZX⟩ = V := ⟨_, rfl⟩
 rw [hV]
 have HV := hid (show V = rs.any (fun p => inM p ⟨KX, NX, FX, ZX⟩) by rw [← hV]; rfl)
 clear hB R1 R2 z h hx hN hM hV
 go_enter Tryz.func51, Tryz.ntmps51
 go_wp2_with fail
 obtain ⟨w1, hw1⟩ : ∃ w1, ((w.alloc (.cells #[.int .i64 xi, .int .i64 be, .int .i64 en, .slice a1 n c1, y] 68)).alloc (.cells #[.int .i64 KX, .int .i64 NX, .float .f64 FX, .slice ax m cx] 72)) = w1 := ⟨_, rfl⟩
 rw [hw1] at HB HR1 HR2 HZ
 try rw [hw1]
 clear hw1
 have HS1 := hid (show w.heap.size + 2 ≤ w1.heap.size by have := HZ.out; omega)
 · skip
   go_loopw [5] (fun i wr => ∃ k : Nat, k ≤ n ∧ i = .int .i64 k ∧ Hid (∀ i, i < k → inM (rs.getD i sp0) ⟨KX, NX, FX, ZX⟩ = false) ∧ Hid (Below w1.heap.size w1 wr)) (fun i _ => n - (intOf i).toNat)
   case atStart => exact ⟨0, Nat.zero_le _, rfl, hid (fun i hi => by omega), hid (Below.refl _ _)⟩
   case round =>
    obtain ⟨k, hk, rfl, HNo, HW⟩ := hrel
    have r1 := (HW.out.block w.heap.size (by have := HS1.out; omega)).trans HR1.out
    have r2 := (HW.out.block (w.heap.size + 1) (by have := HS1.out; omega)).trans HR2.out
    have k4 : wr.cell? ⟨w.heap.size, 3, none⟩ = some (.slice a1 n c1) := by rw [cell_of_row _ _ _ _ _ _ r1]; rfl
    have HBW := hid (HB.out.trans (HW.out.mono HB.out.size))
    by_cases hlt : k < n
    · have hlt' : (k : Int) < (n : Int) := by omega
      have hk0 : (0 : Int) ≤ (k : Int) := by omega
      have hl2 : (fl2 rs).length = n * 2 := by rw [fl2_len, HN.out]
      obtain ⟨b, off, p1, d1, rfl, bx, q1, _, _, hf1⟩ := HRM.out.at (k := k * 2) (by omega)
      obtain ⟨b', off', p2, d2, e', by', q2, _, _, hf2⟩ := HRM.out.at (k := k * 2 + 1) (by omega)
      obtain ⟨rfl, rfl⟩ : b = b' ∧ off = off' := by simpa using e'
      have hz1 := hs (k * 2)
      have hz2 := hs (k * 2 + 1)
      have hat := fl2_at rs k
      rw [hat.1] at bx q1 hf1 hz1
      rw [hat.2] at by' q2 hf2 hz2
      have HIn := hid (show inM (rs.getD k sp0) ⟨KX, NX, FX, ZX⟩ = inSp (rs.getD k sp0).1.K (rs.getD k sp0).1.N (rs.getD k sp0).1.F (rs.getD k sp0).1.Z.length (rs.getD k sp0).1.Z (rs.getD k sp0).2.K (rs.getD k sp0).2.N (rs.getD k sp0).2.F (rs.getD k sp0).2.Z.length (rs.getD k sp0).2.Z KX NX FX m ZX by unfold inM; simp only [HM.out])
      have HOne := hid (fun q => any_one (rs := rs) (x := ⟨KX, NX, FX, ZX⟩) (i := k) (by have := HN.out; omega) q)
      have HNx := hid (fun (q : inM (rs.getD k sp0) ⟨KX, NX, FX, ZX⟩ = false) i (hi : i < k + 1) => show inM (rs.getD i sp0) ⟨KX, NX, FX, ZX⟩ = false from by
       by_cases hc : i < k
       · exact HNo.out i hc
       · have : i = k := by omega
         subst this; exact q)
      generalize rs.getD k sp0 = pp at *
      obtain ⟨⟨K1, N1, F1, Z1⟩, K2, N2, F2, Z2⟩ := pp
      simp only at bx by' q1 q2 hf1 hf2 hz1 hz2 HIn
      obtain ⟨m1, hm1⟩ : ∃ m, Z1.length = m := ⟨_, rfl⟩
      obtain ⟨m2, hm2⟩ : ∃ m, Z2.length = m := ⟨_, rfl⟩
      rw [hm1] at bx q1 hz1 HIn
      rw [hm2] at by' q2 hz2 HIn
      rw [show off + k * 2 * 4 = off + k * 8 by omega] at bx
      rw [show off + (k * 2 + 1) * 4 = off + k * 8 + 4 by omega] at by'
      have bD := (Still.drew wr).below wr.heap.size
      have BX := hid ((bx.below HBW.out (Nat.le_refl _)).below bD (Nat.le_refl _))
      have BY := hid ((by'.below HBW.out (Nat.le_refl _)).below bD (Nat.le_refl _))
      have BK := hid (show Box4 wr.drew (w.heap.size + 1) 0 KX NX FX (.slice ax m cx) from Box4.below (w := wr) ⟨by rw [cell_of_row _ _ _ _ _ _ r2]; rfl, by rw [cell_of_row _ _ _ _ _ _ r2]; rfl, by rw [cell_of_row _ _ _ _ _ _ r2]; rfl, by rw [cell_of_row _ _ _ _ _ _ r2]; rfl⟩ bD (Nat.le_refl _))
      have BT := hid (show wr.drew.cell? ⟨w.heap.size, 3, none⟩ = some (.slice (some ⟨b, off, none⟩) n c1) from k4)
      have Q1 := hid ((q1.below HBW.out (Nat.le_refl _)).below bD (Nat.le_refl _))
      have Q2 := hid ((q2.below HBW.out (Nat.le_refl _)).below bD (Nat.le_refl _))
      have QX := hid ((HRX.out.below HBW.out (Nat.le_refl _)).below bD (Nat.le_refl _))
      have HFs := hid (And.intro hf1 hf2)
      have HZs := hid (And.intro hz1 hz2)
      have HWD := hid (HW.out.trans (bD.mono HW.out.size))
      clear bx by' q1 q2 hf1 hf2 hz1 hz2 hm1 hm2 hat hl2 e' r1 r2 bD
      go_wp2
      clear k4
      refine region_K 99 (fun W => W.cell? ⟨w.heap.size, 3, none⟩ = some (.slice (some ⟨b, off, none⟩) n c1) ∧ Box4 W b (off + k * 8) K1 N1 F1 (.slice p1 m1 d1) ∧ Box4 W b (off + k * 8 + 4) K2 N2 F2 (.slice p2 m2 d2) ∧ Box4 W (w.heap.size + 1) 0 KX NX FX (.slice ax m cx)) (by kernel_rfl) ?_ (fun hHeld => ?_)
      · exact ⟨BT.out, BX.out, BY.out, BK.out⟩
      generalize wr.drew = v0 at *
      refine anyK_take2 (i := 0) (v := ?v0) rfl (by kernel_rfl) (by kernel_rfl) (by kernel_rfl) (by rfl) (fun _ _ _ h => h) (by rfl) hHeld ?hy0 (some 13) (by rfl) ?rest0
      case hy0 => (intro W hSw; obtain ⟨x0, ⟨x1, x2, x3, x4⟩, ⟨x5, x6, x7, x8⟩, ⟨x9, x10, x11, x12⟩⟩ := hSw; go_simp; (try with_reducible rfl))
      try simp only [Act.put, List.setIfInBounds_toArray, List.set_cons_succ, List.set_cons_zero]
      refine anyK_take2 (i := 1) (v := ?v1) rfl (by kernel_rfl) (by kernel_rfl) (by kernel_rfl) (by rfl) (fun _ _ _ h => h) (by rfl) hHeld ?hy1 (some 14) (by rfl) ?rest1
      case hy1 => (intro W hSw; obtain ⟨x0, ⟨x1, x2, x3, x4⟩, ⟨x5, x6, x7, x8⟩, ⟨x9, x10, x11, x12⟩⟩ := hSw; go_simp; (try with_reducible rfl))
      try simp only [Act.put, List.setIfInBounds_toArray, List.set_cons_succ, List.set_cons_zero]
      refine anyK_take2 (i := 2) (v := ?v2) rfl (by kernel_rfl) (by kernel_rfl) (by kernel_rfl) (by rfl) (fun _ _ _ h => h) (by rfl) hHeld ?hy2 (some 15) (by rfl) ?rest2
      case hy2 => (intro W hSw; obtain ⟨x0, ⟨x1, x2, x3, x4⟩, ⟨x5, x6, x7, x8⟩, ⟨x9, x10, x11, x12⟩⟩ := hSw; go_simp; (try with_reducible rfl))
      try simp only [Act.put, List.setIfInBounds_toArray, List.set_cons_succ, List.set_cons_zero]
      refine anyK_take2 (i := 3) (v := ?v3) rfl (by kernel_rfl) (by kernel_rfl) (by kernel_rfl) (by rfl) (fun _ _ _ h => h) (by rfl) hHeld ?hy3 (some 16) (by rfl) ?rest3
      case hy3 => (intro W hSw; obtain ⟨x0, ⟨x1, x2, x3, x4⟩, ⟨x5, x6, x7, x8⟩, ⟨x9, x10, x11, x12⟩⟩ := hSw; go_simp; (try with_reducible rfl))
      try simp only [Act.put, List.setIfInBounds_toArray, List.set_cons_succ, List.set_cons_zero]
      refine anyK_take2 (i := 4) (v := ?v4) rfl (by kernel_rfl) (by kernel_rfl) (by kernel_rfl) (by rfl) (fun _ _ _ h => h) (by rfl) hHeld ?hy4 (some 17) (by rfl) ?rest4
      case hy4 => (intro W hSw; obtain ⟨x0, ⟨x1, x2, x3, x4⟩, ⟨x5, x6, x7, x8⟩, ⟨x9, x10, x11, x12⟩⟩ := hSw; go_simp; (try with_reducible rfl))
      try simp only [Act.put, List.setIfInBounds_toArray, List.set_cons_succ, List.set_cons_zero]
      refine anyK_take2 (i := 5) (v := ?v5) rfl (by kernel_rfl) (by kernel_rfl) (by kernel_rfl) (by rfl) (fun _ _ _ h => h) (by rfl) hHeld ?hy5 (some 18) (by rfl) ?rest5
      case hy5 => (intro W hSw; obtain ⟨x0, ⟨x1, x2, x3, x4⟩, ⟨x5, x6, x7, x8⟩, ⟨x9, x10, x11, x12⟩⟩ := hSw; go_simp; (try with_reducible rfl))
      try simp only [Act.put, List.setIfInBounds_toArray, List.set_cons_succ, List.set_cons_zero]
      refine anyK_take2 (i := 6) (v := ?v6) rfl (by kernel_rfl) (by kernel_rfl) (by kernel_rfl) (by rfl) (fun _ _ _ h => h) (by rfl) hHeld ?hy6 (some 19) (by rfl) ?rest6
      case hy6 => (intro W hSw; obtain ⟨x0, ⟨x1, x2, x3, x4⟩, ⟨x5, x6, x7, x8⟩, ⟨x9, x10, x11, x12⟩⟩ := hSw; go_simp; (try with_reducible rfl))
      try simp only [Act.put, List.setIfInBounds_toArray, List.set_cons_succ, List.set_cons_zero]
      refine anyK_take2 (i := 7) (v := ?v7) rfl (by kernel_rfl) (by kernel_rfl) (by kernel_rfl) (by rfl) (fun _ _ _ h => h) (by rfl) hHeld ?hy7 (some 20) (by rfl) ?rest7
      case hy7 => (intro W hSw; obtain ⟨x0, ⟨x1, x2, x3, x4⟩, ⟨x5, x6, x7, x8⟩, ⟨x9, x10, x11, x12⟩⟩ := hSw; go_simp; (try with_reducible rfl))
      try simp only [Act.put, List.setIfInBounds_toArray, List.set_cons_succ, List.set_cons_zero]
      refine anyK_take2 (i := 8) (v := ?v8) rfl (by kernel_rfl) (by kernel_rfl) (by kernel_rfl) (by rfl) (fun _ _ _ h => h) (by rfl) hHeld ?hy8 (some 21) (by rfl) ?rest8
      case hy8 => (intro W hSw; obtain ⟨x0, ⟨x1, x2, x3, x4⟩, ⟨x5, x6, x7, x8⟩, ⟨x9, x10, x11, x12⟩⟩ := hSw; go_simp; (try with_reducible rfl))
      try simp only [Act.put, List.setIfInBounds_toArray, List.set_cons_succ, List.set_cons_zero]
      refine anyK_take2 (i := 9) (v := ?v9) rfl (by kernel_rfl) (by kernel_rfl) (by kernel_rfl) (by rfl) (fun _ _ _ h => h) (by rfl) hHeld ?hy9 (some 22) (by rfl) ?rest9
      case hy9 => (intro W hSw; obtain ⟨x0, ⟨x1, x2, x3, x4⟩, ⟨x5, x6, x7, x8⟩, ⟨x9, x10, x11, x12⟩⟩ := hSw; go_simp; (try with_reducible rfl))
      try simp only [Act.put, List.setIfInBounds_toArray, List.set_cons_succ, List.set_cons_zero]
      refine anyK_take2 (i := 10) (v := ?v10) rfl (by kernel_rfl) (by kernel_rfl) (by kernel_rfl) (by rfl) (fun _ _ _ h => h) (by rfl) hHeld ?hy10 (some 23) (by rfl) ?rest10
      case hy10 => (intro W hSw; obtain ⟨x0, ⟨x1, x2, x3, x4⟩, ⟨x5, x6, x7, x8⟩, ⟨x9, x10, x11, x12⟩⟩ := hSw; go_simp; (try with_reducible rfl))
      try simp only [Act.put, List.setIfInBounds_toArray, List.set_cons_succ, List.set_cons_zero]
      refine anyK_take2 (i := 11) (v := ?v11) rfl (by kernel_rfl) (by kernel_rfl) (by kernel_rfl) (by rfl) (fun _ _ _ h => h) (by rfl) hHeld ?hy11 (some 24) (by rfl) ?rest11
      case hy11 => (intro W hSw; obtain ⟨x0, ⟨x1, x2, x3, x4⟩, ⟨x5, x6, x7, x8⟩, ⟨x9, x10, x11, x12⟩⟩ := hSw; go_simp; (try with_reducible rfl))
      try simp only [Act.put, List.setIfInBounds_toArray, List.set_cons_succ, List.set_cons_zero]
      refine anyK_take2 (i := 12) (v := ?v12) rfl (by kernel_rfl) (by kernel_rfl) (by kernel_rfl) (by rfl) (fun _ _ _ h => h) (by rfl) hHeld ?hy12 (some 25) (by rfl) ?rest12
      case hy12 => (intro W hSw; obtain ⟨x0, ⟨x1, x2, x3, x4⟩, ⟨x5, x6, x7, x8⟩, ⟨x9, x10, x11, x12⟩⟩ := hSw; go_simp; (try with_reducible rfl))
      try simp only [Act.put, List.setIfInBounds_toArray, List.set_cons_succ, List.set_cons_zero]
      refine anyK_step (i := 13) (by kernel_rfl) rfl (fun KP hK => ?_)
      go_simp
      refine (spec_InSpan K1 N1 K2 N2 KX NX F1 F2 FX d1 d2 cx HFs.out.1 HFs.out.2 hfx Q1.out Q2.out QX.out HZs.out.1 HZs.out.2 hnx).mono ?_
      rintro e u ⟨rfl, b1⟩
      rw [← HIn.out]
      have HW2 := hid (HWD.out.trans (b1.mono HWD.out.size))
      have hHeld2 := (show u.cell? ⟨w.heap.size, 3, none⟩ = some (.slice (some ⟨b, off, none⟩) n c1) ∧ Box4 u b (off + k * 8) K1 N1 F1 (.slice p1 m1 d1) ∧ Box4 u b (off + k * 8 + 4) K2 N2 F2 (.slice p2 m2 d2) ∧ Box4 u (w.heap.size + 1) 0 KX NX FX (.slice ax m cx) from ⟨(b1.cell (p := ⟨w.heap.size, 3, none⟩) (World.block_lt_of_cell? v0 _ BT.out)).trans BT.out, BX.out.below b1 (Nat.le_refl _), BY.out.below b1 (Nat.le_refl _), BK.out.below b1 (Nat.le_refl _)⟩)
      have HH2 := hid hHeld2
      clear b1 hHeld2
      go_wp2_with fail
      clear hHeld
      refine hK.out _ _ HH2.out (fun hHeld => ?_)
      clear hK KP
      try simp only [Act.put, List.setIfInBounds_toArray, List.set_cons_succ, List.set_cons_zero]
      refine anyK_done (by kernel_rfl) ?_ _
      clear hHeld
      cases hin : inM (⟨K1, N1, F1, Z1⟩, ⟨K2, N2, F2, Z2⟩) ⟨KX, NX, FX, ZX⟩ with
      | true =>
       have HT := hid (show V = true by rw [HV.out, HOne.out hin])
       have HBF := hid (HB.out.trans (HW2.out.mono HB.out.size))
       clear hin
       go_wp2_with fail
       go_ret
       exact ⟨by rw [HT.out]; rfl, HBF.out⟩
      | false =>
       have HN2 := hid (HNx.out hin)
       clear hin
       go_wp2_with fail
       go_roundw
       case rel => exact ⟨k + 1, by omega, by go_num, HN2, HW2⟩
       case measure => simp [intOf]; omega
    · have hlt' : ¬ (k : Int) < (n : Int) := by omega
      have HE := hid (show V = false by
       rw [HV.out, any_none (fun i hi => HNo.out i (by have := HN.out; omega))])
      go_wp2_with fail
      go_ret
      exact ⟨by rw [HE.out]; rfl, HBW.out⟩
end Go.Proofs.YtjcjoabblafboaaGreat
/- The contracts of the specification's l13items and l13spans. Conditions: at most 100000 of them, texts of at most 2^21 bytes. -/


namespace Go.Proofs.YtjcjoabblafboaaGreat
open Go.RowKit
set_option maxRecDepth 100000
end Go.Proofs.YtjcjoabblafboaaGreat
/- The contract of the specification's l13copy. Conditions: at most 2^20 tracks, reads and writes, texts of at most 2^21 bytes. -/


namespace Go.Proofs.YtjcjoabblafboaaGreat
open Go.RowKit
set_option maxRecDepth 100000
end Go.Proofs.YtjcjoabblafboaaGreat
/- Marks of tracks that are the call's own; EdgeBegin, plain, and the contract of the specification's. Conditions: at most 2^20 tracks, reads and writes, texts of at most 2^21 bytes. -/


namespace Go.Proofs.YtjcjoabblafboaaGreat
open Go.RowKit
set_option maxRecDepth 100000
def newT (xid now : Int) : Tk := ⟨xid, now, 0, false, [], [], false, false⟩
open Classical in
noncomputable def beginS (ts : List Tk) (xid now : Int) : List Tk := if tracksB ts = true ∧ tracksB (ts ++ [newT xid now]) = true then ts ++ [newT xid now] else []
open Classical in
noncomputable def beginC (ts : List Tk) (xid now : Int) : Int := if tracksB ts = true ∧ tracksB (ts ++ [newT xid now]) = true then 0 else 1
end Go.Proofs.YtjcjoabblafboaaGreat
/- The contract of the specification's l13has. Conditions: texts of at most 2^21 bytes, at most 2^21 items. -/


namespace Go.Proofs.YtjcjoabblafboaaGreat
open Go.RowKit
set_option maxRecDepth 100000
def hasM (ws : List Im) (x : Im) : Bool := ws.any (fun e => decide (cmpM e x = 0))
theorem hasM_none {ws : List Im} {x : Im} (h : ∀ i, i < ws.length → decide (cmpM (ws.getD i im0) x = 0) = false) : hasM ws x = false := by
 unfold hasM
 rw [List.any_eq_false]
 intro p hp
 obtain ⟨i, hi, rfl⟩ := List.getElem_of_mem hp
 have := h i hi
 rw [show ws.getD i im0 = ws[i] by simp [List.getD, hi]] at this
 rw [this]; simp
theorem hasM_one {ws : List Im} {x : Im} {i : Nat} (hi : i < ws.length) (h : decide (cmpM (ws.getD i im0) x = 0) = true) : hasM ws x = true := by
 unfold hasM
 rw [List.any_eq_true]
 refine ⟨ws[i], List.getElem_mem hi, ?_⟩
 rw [show ws.getD i im0 = ws[i] by simp [List.getD, hi]] at h
 exact h
set_option maxHeartbeats 6400000 in
theorem spec_l13has {ad : Option Addr} {n : Nat} (cap : Nat) {ws : List Im} {KX NX : Int} {FX : Nat} {ZX : List Int} {ax : Option Addr} {m : Nat} (cx : Nat) {w : World} (h : ReadsM w ad ws) (hl : ws.length = n) (hn : n ≤ 2097152) (hM : ZX.length = m) (hx : Reads w ax m ZX) (hfx : FX < 18446744073709551616) (hnx : m ≤ 2097152) (hs : ∀ i, (ws.getD i im0).Z.length ≤ 2097152) :
 Calls Tryz.prog 52 #[.slice ad n cap, .agg #[.int .i64 KX, .int .i64 NX, .float .f64 FX, .slice ax m cx]] w fun e w' => e = .returned (.bool (hasM ws ⟨KX, NX, FX, ZX⟩)) ∧ Below w.heap.size w w' := by
 have hst := fun w a m => run_store Tryz.prog w a (.float .f64 FX) m rfl
 have hB := Below.alloc1 w (.cells #[.int .i64 KX, .int .i64 NX, .float .f64 FX, .slice ax m cx] 72)
 have R1 := heap_alloc_new w (.cells #[.int .i64 KX, .int .i64 NX, .float .f64 FX, .slice ax m cx] 72)
 have z := alloc_size w (.cells #[.int .i64 KX, .int .i64 NX, .float .f64 FX, .slice ax m cx] 72)
 have HRM := hid h
 have HRX := hid hx
 obtain ⟨V, hV⟩ : ∃ V, hasM ws ⟨KX, NX, FX, ZX⟩ = V := ⟨_, rfl⟩
 rw [hV]
 have HV := hid hV
 have HM := hid hM
 have HL := hid hl
 have HS := hid hs
 have HB := hid hB
 have HR1 := hid R1
 have HZ := hid z
 clear hB R1 z h hx hV hM hl hs
 go_enter Tryz.func52, Tryz.ntmps52
 go_wp2_with fail
 obtain ⟨w1, hw1⟩ : ∃ w1, w.alloc (.cells #[.int .i64 KX, .int .i64 NX, .float .f64 FX, .slice ax m cx] 72) = w1 := ⟨_, rfl⟩
 rw [hw1] at HB HR1 HZ
 try rw [hw1]
 clear hw1
 go_loopw [5] (fun i wr => ∃ k : Nat, k ≤ n ∧ i = .int .i64 k ∧ Hid (∀ i, i < k → decide (cmpM (ws.getD i im0) ⟨KX, NX, FX, ZX⟩ = 0) = false) ∧ Hid (Below w1.heap.size w1 wr)) (fun i _ => n - (intOf i).toNat)
 case atStart => exact ⟨0, Nat.zero_le _, rfl, hid (fun i hi => by omega), hid (Below.refl _ _)⟩
 case round =>
  obtain ⟨k, hk, rfl, HNo, HW⟩ := hrel
  have HBW := hid (HB.out.trans (HW.out.mono HB.out.size))
  by_cases hlt : k < n
  · have hlt' : (k : Int) < (n : Int) := by omega
    have hk0 : (0 : Int) ≤ (k : Int) := by omega
    have r1 := (HW.out.block w.heap.size (by have := HZ.out; omega)).trans HR1.out
    obtain ⟨b, off, p1, d1, rfl, bx, q1, _, _, hf1⟩ := HRM.out.at (k := k) (by have := HL.out; omega)
    have hz1 := HS.out k
    have HOne := hid (fun q => hasM_one (ws := ws) (x := ⟨KX, NX, FX, ZX⟩) (i := k) (by have := HL.out; omega) q)
    have HNx := hid (fun (q : decide (cmpM (ws.getD k im0) ⟨KX, NX, FX, ZX⟩ = 0) = false) i (hi : i < k + 1) => show decide (cmpM (ws.getD i im0) ⟨KX, NX, FX, ZX⟩ = 0) = false from by
     by_cases hc : i < k
     · exact HNo.out i hc
     · have : i = k := by omega
       subst this; exact q)
    generalize ws.getD k im0 = pp at *
    obtain ⟨K1, N1, F1, Z1⟩ := pp
    simp only at bx q1 hf1 hz1
    have HCm := hid (show cmpM ⟨K1, N1, F1, Z1⟩ ⟨KX, NX, FX, ZX⟩ = cmpI K1 N1 F1 Z1.length Z1 KX NX FX m ZX by unfold cmpM; simp only [HM.out])
    obtain ⟨m1, hm1⟩ : ∃ m, Z1.length = m := ⟨_, rfl⟩
    rw [hm1] at bx q1 hz1 HCm
    have bD := (Still.drew wr).below wr.heap.size
    have BX := hid ((bx.below HBW.out (Nat.le_refl _)).below bD (Nat.le_refl _))
    have BK := hid (show Box4 wr.drew w.heap.size 0 KX NX FX (.slice ax m cx) from Box4.below (w := wr) ⟨by rw [cell_of_row _ _ _ _ _ _ r1]; rfl, by rw [cell_of_row _ _ _ _ _ _ r1]; rfl, by rw [cell_of_row _ _ _ _ _ _ r1]; rfl, by rw [cell_of_row _ _ _ _ _ _ r1]; rfl⟩ bD (Nat.le_refl _))
    have Q1 := hid ((q1.below HBW.out (Nat.le_refl _)).below bD (Nat.le_refl _))
    have QX := hid ((HRX.out.below HBW.out (Nat.le_refl _)).below bD (Nat.le_refl _))
    have HWD := hid (HW.out.trans (bD.mono HW.out.size))
    clear bx q1 hm1 r1 bD
    go_wp2
    refine region_K 99 (fun W => Box4 W b (off + k * 4) K1 N1 F1 (.slice p1 m1 d1) ∧ Box4 W w.heap.size 0 KX NX FX (.slice ax m cx)) (by kernel_rfl) ?_ (fun hHeld => ?_)
    · exact ⟨BX.out, BK.out⟩
    generalize wr.drew = v0 at *
    refine anyK_take2 (i := 0) (v := ?v0) rfl (by kernel_rfl) (by kernel_rfl) (by kernel_rfl) (by rfl) (fun _ _ _ h => h) (by rfl) hHeld ?hy0 (some 12) (by rfl) ?rest0
    case hy0 => (intro W hSw; obtain ⟨⟨x1, x2, x3, x4⟩, ⟨x5, x6, x7, x8⟩⟩ := hSw; go_simp; (try with_reducible rfl))
    try simp only [Act.put, List.setIfInBounds_toArray, List.set_cons_succ, List.set_cons_zero]
    refine anyK_take2 (i := 1) (v := ?v1) rfl (by kernel_rfl) (by kernel_rfl) (by kernel_rfl) (by rfl) (fun _ _ _ h => h) (by rfl) hHeld ?hy1 (some 13) (by rfl) ?rest1
    case hy1 => (intro W hSw; obtain ⟨⟨x1, x2, x3, x4⟩, ⟨x5, x6, x7, x8⟩⟩ := hSw; go_simp; (try with_reducible rfl))
    try simp only [Act.put, List.setIfInBounds_toArray, List.set_cons_succ, List.set_cons_zero]
    refine anyK_take2 (i := 2) (v := ?v2) rfl (by kernel_rfl) (by kernel_rfl) (by kernel_rfl) (by rfl) (fun _ _ _ h => h) (by rfl) hHeld ?hy2 (some 14) (by rfl) ?rest2
    case hy2 => (intro W hSw; obtain ⟨⟨x1, x2, x3, x4⟩, ⟨x5, x6, x7, x8⟩⟩ := hSw; go_simp; (try with_reducible rfl))
    try simp only [Act.put, List.setIfInBounds_toArray, List.set_cons_succ, List.set_cons_zero]
    refine anyK_take2 (i := 3) (v := ?v3) rfl (by kernel_rfl) (by kernel_rfl) (by kernel_rfl) (by rfl) (fun _ _ _ h => h) (by rfl) hHeld ?hy3 (some 15) (by rfl) ?rest3
    case hy3 => (intro W hSw; obtain ⟨⟨x1, x2, x3, x4⟩, ⟨x5, x6, x7, x8⟩⟩ := hSw; go_simp; (try with_reducible rfl))
    try simp only [Act.put, List.setIfInBounds_toArray, List.set_cons_succ, List.set_cons_zero]
    refine anyK_take2 (i := 4) (v := ?v4) rfl (by kernel_rfl) (by kernel_rfl) (by kernel_rfl) (by rfl) (fun _ _ _ h => h) (by rfl) hHeld ?hy4 (some 16) (by rfl) ?rest4
    case hy4 => (intro W hSw; obtain ⟨⟨x1, x2, x3, x4⟩, ⟨x5, x6, x7, x8⟩⟩ := hSw; go_simp; (try with_reducible rfl))
    try simp only [Act.put, List.setIfInBounds_toArray, List.set_cons_succ, List.set_cons_zero]
    refine anyK_step (i := 5) (by kernel_rfl) rfl (fun KP hK => ?_)
    go_simp
    refine (spec_ItemCompare K1 N1 KX NX F1 FX d1 cx hf1 hfx Q1.out QX.out hz1 hnx).mono ?_
    rintro e u ⟨rfl, b1⟩
    rw [← HCm.out]
    obtain ⟨C, hC⟩ : ∃ C, cmpM ⟨K1, N1, F1, Z1⟩ ⟨KX, NX, FX, ZX⟩ = C := ⟨_, rfl⟩
    rw [hC] at HOne HNx ⊢
    have HW2 := hid (HWD.out.trans (b1.mono HWD.out.size))
    have HH2 := hid (show Box4 u b (off + k * 4) K1 N1 F1 (.slice p1 m1 d1) ∧ Box4 u w.heap.size 0 KX NX FX (.slice ax m cx) from ⟨BX.out.below b1 (Nat.le_refl _), BK.out.below b1 (Nat.le_refl _)⟩)
    clear b1 hC
    go_wp2_with fail
    clear hHeld
    refine hK.out _ _ HH2.out (fun hHeld => ?_)
    clear hK KP
    try simp only [Act.put, List.setIfInBounds_toArray, List.set_cons_succ, List.set_cons_zero]
    refine anyK_take2 (i := 6) (v := ?v6) rfl (by kernel_rfl) (by kernel_rfl) (by kernel_rfl) (by rfl) (fun _ _ _ h => h) (by rfl) hHeld ?hy6 (some 18) (by rfl) ?rest6
    case hy6 => (intro W hSw; obtain ⟨⟨x1, x2, x3, x4⟩, ⟨x5, x6, x7, x8⟩⟩ := hSw; go_simp; (try with_reducible rfl))
    try simp only [Act.put, List.setIfInBounds_toArray, List.set_cons_succ, List.set_cons_zero]
    refine anyK_done (by kernel_rfl) ?_ _
    clear hHeld
    by_cases h0 : C = 0
    · have HT := hid (show V = true by rw [← HV.out]; exact HOne.out (decide_eq_true h0))
      have HBF := hid (HB.out.trans (HW2.out.mono HB.out.size))
      have hq : (C == 0) = true := by simpa using h0
      clear h0
      go_wp2_with fail
      go_ret
      exact ⟨by rw [HT.out]; rfl, HBF.out⟩
    · have HN2 := hid (HNx.out (decide_eq_false h0))
      have hq : (C == 0) = false := by simpa using h0
      clear h0
      go_wp2_with fail
      go_roundw
      case rel => exact ⟨k + 1, by omega, by go_num, HN2, HW2⟩
      case measure => simp [intOf]; omega
  · have hlt' : ¬ (k : Int) < (n : Int) := by omega
    have hke : k = n := by omega
    subst hke
    have HF := hid (show V = false by rw [← HV.out]; exact hasM_none (fun i hi => HNo.out i (by have := HL.out; omega)))
    go_wp2_with fail
    go_ret
    exact ⟨by rw [HF.out]; rfl, HBW.out⟩
end Go.Proofs.YtjcjoabblafboaaGreat
