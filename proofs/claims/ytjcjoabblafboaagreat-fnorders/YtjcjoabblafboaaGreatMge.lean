/- Texts of this proof in one: Ha14 Hj14 Hk14. -/
import Derived.Test.YtjcjoabblafboaaGreatMgd
import Derived.Test.YtjcjoabblafboaaGreatMgb
import Derived.Test.YtjcjoabblafboaaGreatMga
/- Deeds that are right, plain, and the contract of the specification's DeedsOk. Conditions: texts of at most 2^21 bytes. -/




namespace Go.Proofs.YtjcjoabblafboaaGreat
open Go.RowKit
set_option maxRecDepth 100000
def deedB (t : Tk) : Bool := decide (1 ≤ t.begun) && (decide (t.begun < t.ended) && (decide (t.rs.length ≤ 200) && (decide (t.ws.length ≤ 200) && (t.rs.all spB && t.ws.all okM))))
def tmL (ts : List Tk) : List Int := ts.flatMap (fun t => [t.begun, t.ended])
def okDs (ts : List Tk) : Prop := ts.length ≤ 100 ∧ (∀ i, i < ts.length → deedB (ts.getD i tk0) = true) ∧ (tmL ts).Nodup
open Classical in
noncomputable def deedsB (ts : List Tk) : Bool := decide (okDs ts)
theorem deedsB_yes {ts : List Tk} (h : okDs ts) : deedsB ts = true := by simp [deedsB, h]
theorem deedsB_no {ts : List Tk} (h : ¬ okDs ts) : deedsB ts = false := by simp [deedsB, h]
theorem deedsB_ok {ts : List Tk} (h : deedsB ts = true) : okDs ts := by simpa [deedsB] using h
theorem deedsB_bad {ts : List Tk} {i : Nat} (hi : i < ts.length) (h : deedB (ts.getD i tk0) = false) : deedsB ts = false := deedsB_no (fun q => by rw [q.2.1 i hi] at h; cases h)
theorem tmL_len : ∀ ts : List Tk, (tmL ts).length = 2 * ts.length
 | [] => rfl
 | t :: ts => by
  have := tmL_len ts
  unfold tmL at *
  rw [List.flatMap_cons, List.length_append, this]
  simp; omega
theorem tmL_app (a b : List Tk) : tmL (a ++ b) = tmL a ++ tmL b := by simp [tmL]
theorem take_tk (ts : List Tk) {k : Nat} (h : k < ts.length) : ts.take (k + 1) = ts.take k ++ [ts.getD k tk0] := by
 rw [List.take_succ_eq_append_getElem h, List.getD_eq_getElem?_getD, List.getElem?_eq_getElem h]; rfl
theorem tmL_succ (ts : List Tk) {k : Nat} (h : k < ts.length) : tmL (ts.take (k + 1)) = tmL (ts.take k) ++ [(ts.getD k tk0).begun] ++ [(ts.getD k tk0).ended] := by
 rw [take_tk ts h, tmL_app]
 simp [tmL]
theorem tmL_dup {ts : List Tk} {k : Nat} (h : k < ts.length) {x : Int} (hx : x ∈ tmL (ts.take k)) (he : x = (ts.getD k tk0).begun ∨ x = (ts.getD k tk0).ended) : deedsB ts = false := by
 refine deedsB_no (fun q => ?_)
 have h1 : (tmL ts).Nodup := q.2.2
 rw [← List.take_append_drop (k + 1) ts, tmL_app, tmL_succ ts h, List.append_assoc (tmL (ts.take k))] at h1
 have h2 := (List.nodup_append.1 (List.nodup_append.1 h1).1).2.2
 rcases he with rfl | rfl
 · exact h2 _ hx _ (by simp) rfl
 · exact h2 _ hx _ (by simp) rfl
theorem nodup_snoc2 {l : List Int} {a b : Int} (h : l.Nodup) (ha : a ∉ l) (hb : b ∉ l) (hab : a ≠ b) : (l ++ [a] ++ [b]).Nodup := by
 rw [List.append_assoc, List.nodup_append]
 refine ⟨h, by simp [hab], fun x hx y hy e => ?_⟩
 subst e
 simp at hy
 rcases hy with rfl | rfl
 · exact ha hx
 · exact hb hx
theorem deedB_lt {t : Tk} (h : deedB t = true) : 1 ≤ t.begun ∧ t.begun < t.ended := by
 unfold deedB at h
 rw [Bool.and_eq_true, Bool.and_eq_true, decide_eq_true_iff, decide_eq_true_iff] at h
 exact ⟨h.1, h.2.1⟩
theorem mem_at14 {l : List Int} {x : Int} (h : x ∈ l) : ∃ i, i < l.length ∧ l.getD i 0 = x := by
 obtain ⟨i, hi, rfl⟩ := List.getElem_of_mem h
 exact ⟨i, hi, by simp [List.getD, hi]⟩
theorem at_mem14 {l : List Int} {i : Nat} (h : i < l.length) : l.getD i 0 ∈ l := by
 rw [show l.getD i 0 = l[i] by simp [List.getD, h]]
 exact List.getElem_mem h
set_option maxHeartbeats 12800000 in
theorem spec_DeedsOk {ad : Option Addr} {n : Nat} (cap : Nat) {ts : List Tk} {w : World} (h : ReadsV w ad ts) (hl : ts.length = n) (hsm : smT ts) :
 Calls Tryz.prog 8 #[.slice ad n cap] w fun e w' => e = .returned (.bool (deedsB ts)) ∧ Below w.heap.size w w' := by
 by_cases hbig : 100 < n
 · have q : (100 : Int) < (n : Int) := by omega
   have HV := hid (deedsB_no (ts := ts) (fun q => by have := q.1; omega))
   go_enter Tryz.func8, Tryz.ntmps8
   go_wp2
   go_ret
   exact ⟨by rw [HV.out]; rfl, Below.refl _ _⟩
 have q : ¬ (100 : Int) < (n : Int) := by omega
 obtain ⟨V, hV⟩ : ∃ V, deedsB ts = V := ⟨_, rfl⟩
 rw [hV]
 have HVV := hid hV
 clear hV
 obtain ⟨i0, hinf, hz0, hz1, hz2⟩ : ∃ i, Tryz.prog.info? 3 = some i ∧ i.zero = some (.int .i64 0) ∧ i.size = 1 ∧ i.bytes = 8 := by
  have := Tryz.infoI
  cases hh : Tryz.prog.info? 3 with
  | none => rw [hh] at this; cases this
  | some i => rw [hh] at this; simp at this; exact ⟨i, rfl, this.1, this.2.1, this.2.2⟩
 go_enter Tryz.func8, Tryz.ntmps8
 go_wp2
 go_loopw [3, 4] (fun s3 i wr => ∃ (k : Nat) (a : Option Addr) (p c : Nat), k ≤ n ∧ i = .int .i64 k ∧ s3 = .slice a p c ∧ p = 2 * k ∧ Hid (∀ i, i < k → deedB (ts.getD i tk0) = true) ∧ Hid ((tmL (ts.take k)).Nodup) ∧ Hid (wr.ownsRow w.heap.size 3 1 (.slice a p c) p (ins (tmL (ts.take k)))) ∧ Hid (Below w.heap.size w wr)) (fun _ i _ => n - (intOf i).toNat)
 case atStart => exact ⟨0, none, 0, 0, Nat.zero_le _, rfl, rfl, rfl, hid (fun i hi => by omega), hid (by simp [tmL]), hid (World.ownsRow_nil _ _ _ _), hid (Below.refl _ _)⟩
 case round =>
  obtain ⟨i, a, p, c, hi, rfl, rfl, hp, HA, HD, HO, HB⟩ := hrel
  have HP := hid hp
  have hp2 : p ≤ 200 := by omega
  clear hp
  by_cases hlt : i < n
  · have hlt' : (i : Int) < (n : Int) := by omega
    have hi0 : (0 : Int) ≤ (i : Int) := by omega
    obtain ⟨b, off, a1, c1, a2, c2, rfl, bx0, r1, hm1, r2, hm2⟩ := h.at (k := i) (by omega)
    unfold maxLen at hm1 hm2
    have bx := bx0.below HB.out (Nat.le_refl _)
    have HBad := hid (fun q => HVV.out.symm.trans (deedsB_bad (ts := ts) (i := i) (by omega) q))
    have HDup := hid (fun (x : Int) (hx : x ∈ tmL (ts.take i)) (q : x = (ts.getD i tk0).begun ∨ x = (ts.getD i tk0).ended) => HVV.out.symm.trans (tmL_dup (ts := ts) (k := i) (by omega) hx q))
    have HNx := hid (fun (q1 : deedB (ts.getD i tk0) = true) => And.intro (show (ts.getD i tk0).begun < (ts.getD i tk0).ended from (deedB_lt q1).2) (fun j (hj : j < i + 1) => show deedB (ts.getD j tk0) = true from by
     by_cases hc : j < i
     · exact HA.out j hc
     · have : j = i := by omega
       subst this; exact q1))
    have HSu := hid (tmL_succ ts (k := i) (by omega))
    have HTL := hid (show (tmL (ts.take i)).length = p by rw [tmL_len, List.length_take, HP.out, hl]; omega)
    obtain ⟨sm1, sm2⟩ := hsm i
    have HR1 := hid r1
    have HR2 := hid r2
    have HSM := hid (And.intro sm1 sm2)
    generalize ts.getD i tk0 = t at *
    obtain ⟨xi, be, en, al, rs, ws, inn, ou⟩ := t
    simp only at bx HR1 HR2 HSM hm1 hm2 HDup HNx HSu
    obtain ⟨L, hL⟩ : ∃ L, tmL (ts.take i) = L := ⟨_, rfl⟩
    rw [hL] at HD HO HDup HSu HTL
    clear hL
    obtain ⟨n1, hn1⟩ : ∃ n1, rs.length = n1 := ⟨_, rfl⟩
    obtain ⟨n2, hn2⟩ : ∃ n2, ws.length = n2 := ⟨_, rfl⟩
    have HN1 := hid hn1
    have HN2 := hid hn2
    have HTr := hid (show deedB ⟨xi, be, en, al, rs, ws, inn, ou⟩ = (decide (1 ≤ be) && (decide (be < en) && (decide (n1 ≤ 200) && (decide (n2 ≤ 200) && (rs.all spB && ws.all okM))))) by unfold deedB; simp only [hn1, hn2])
    rw [HTr.out] at HBad HNx
    simp only [hn1] at bx hm1
    simp only [hn2] at bx hm2
    have bA := Below.alloc1 wr (.cells #[.int .i64 xi, .int .i64 be, .int .i64 en, .slice a1 n1 c1, .slice a2 n2 c2] 68)
    have RA := hid (heap_alloc_new wr (.cells #[.int .i64 xi, .int .i64 be, .int .i64 en, .slice a1 n1 c1, .slice a2 n2 c2] 68))
    have ZA := hid (alloc_size wr (.cells #[.int .i64 xi, .int .i64 be, .int .i64 en, .slice a1 n1 c1, .slice a2 n2 c2] 68))
    have HBA := hid (HB.out.trans (bA.mono HB.out.size))
    have HOA := hid (owns_below bA (Nat.le_refl _) HO.out)
    obtain ⟨c0, c1', c2', c4, c5⟩ := bx
    simp only at c0 c1' c2'
    clear bx0 r1 r2 sm1 sm2 hn1 hn2 bA HTr HO
    by_cases k2 : 1 ≤ be
    · have k2' : ¬ be < 1 := by omega
      rw [decide_eq_true k2, Bool.true_and] at HBad HNx
      by_cases k3 : be < en
      · have k3' : ¬ en ≤ be := by omega
        rw [decide_eq_true k3, Bool.true_and] at HBad HNx
        by_cases k4 : n1 ≤ 200
        · have k4' : ¬ (200 : Int) < (n1 : Int) := by omega
          rw [decide_eq_true k4, Bool.true_and] at HBad HNx
          by_cases k6 : n2 ≤ 200
          · have k6' : ¬ (200 : Int) < (n2 : Int) := by omega
            rw [decide_eq_true k6, Bool.true_and] at HBad HNx
            clear k2 k3
            go_wp2_with fail
            clear c0 c1' c2' c4 c5
            obtain ⟨g, hg⟩ : ∃ g, wr.heap.size = g := ⟨_, rfl⟩
            generalize wr.alloc (.cells #[.int .i64 xi, .int .i64 be, .int .i64 en, .slice a1 n1 c1, .slice a2 n2 c2] 68) = W at *
            rw [hg] at RA
            try simp only [hg]
            have HG := hid (show g < W.heap.size ∧ w.heap.size ≤ g by have := ZA.out; have := HB.out.size; omega)
            clear hg ZA
            have cellsG : ∀ U : World, U.heap[g]? = W.heap[g]? → U.cell? ⟨g, 1, none⟩ = some (.int .i64 be) ∧ U.cell? ⟨g, 2, none⟩ = some (.int .i64 en) ∧ U.cell? ⟨g, 3, none⟩ = some (.slice a1 n1 c1) ∧ U.cell? ⟨g, 4, none⟩ = some (.slice a2 n2 c2) := fun U e => by
             have r := e.trans RA.out
             refine ⟨?_, ?_, ?_, ?_⟩ <;> (rw [cell_of_row _ _ _ _ _ _ r]; rfl)
            have HCG := hid cellsG
            obtain ⟨g1, g2, g4, g5⟩ := cellsG W rfl
            clear cellsG
            clear g1 g2 g4 g5
            go_loopw [6] (fun s wq => ∃ q : Nat, q ≤ n1 ∧ s = .int .i64 q ∧ Hid (∀ j, j < q → spB (rs.getD j sp0) = true) ∧ Hid (Below W.heap.size W wq)) (fun s _ => n1 - (intOf s).toNat)
            case atStart => exact ⟨0, Nat.zero_le _, rfl, hid (fun j hj => by omega), hid (Below.refl _ _)⟩
            case round =>
             obtain ⟨q, hq, rfl, HSp, HWq⟩ := hrel
             have HBq := hid (HBA.out.trans (HWq.out.mono HBA.out.size))
             obtain ⟨-, -, g4, g5⟩ := HCG.out wr (HWq.out.block g HG.out.1)
             by_cases hqn : q < n1
             · have hqn' : (q : Int) < (n1 : Int) := by omega
               have hq0 : (0 : Int) ≤ (q : Int) := by omega
               have hl2 : (fl2 rs).length = n1 * 2 := by rw [fl2_len, HN1.out]
               obtain ⟨bb, oo, p1, d1, rfl, bx, q1, _, _, hf1⟩ := HR1.out.at (k := q * 2) (by omega)
               obtain ⟨bb', oo', p2, d2, e', by', q2, _, _, hf2⟩ := HR1.out.at (k := q * 2 + 1) (by omega)
               obtain ⟨rfl, rfl⟩ : bb = bb' ∧ oo = oo' := by simpa using e'
               have hz1 := HSM.out.1 (q * 2)
               have hz2 := HSM.out.1 (q * 2 + 1)
               have hat := fl2_at rs q
               rw [hat.1] at bx q1 hf1 hz1
               rw [hat.2] at by' q2 hf2 hz2
               have HNo := hid (fun e => HBad.out (by rw [all_sp_no (rs := rs) (i := q) (by have := HN1.out; omega) e, Bool.false_and]))
               have HSn := hid (fun (e : spB (rs.getD q sp0) = true) j (hj : j < q + 1) => show spB (rs.getD j sp0) = true from by
                by_cases hc : j < q
                · exact HSp.out j hc
                · have : j = q := by omega
                  subst this; exact e)
               have BX := (bx.below HBq.out (Nat.le_refl _))
               have BY := (by'.below HBq.out (Nat.le_refl _))
               have Q1 := hid (q1.below HBq.out (Nat.le_refl _))
               have Q2 := hid (q2.below HBq.out (Nat.le_refl _))
               rw [show oo + q * 2 * 4 = oo + q * 8 by omega] at BX
               rw [show oo + (q * 2 + 1) * 4 = oo + q * 8 + 4 by omega] at BY
               have HCall := hid (fun W' (r1 : Reads W' p1 (rs.getD q sp0).1.Z.length (rs.getD q sp0).1.Z) (r2 : Reads W' p2 (rs.getD q sp0).2.Z.length (rs.getD q sp0).2.Z) => spec_SpanOk (rs.getD q sp0).1 (rs.getD q sp0).2 d1 d2 r1 r2 hf1 hf2 hz1 hz2)
               obtain ⟨S, hS⟩ : ∃ S, spB (rs.getD q sp0) = S := ⟨_, rfl⟩
               have HPair := hid (show spB ((rs.getD q sp0).1, (rs.getD q sp0).2) = S from hS)
               rw [hS] at HNo HSn
               clear bx by' q1 q2 hf1 hf2 hz1 hz2 hat hl2 e' hS
               generalize rs.getD q sp0 = pp at *
               obtain ⟨⟨K1, N1, F1, Z1⟩, K2, N2, F2, Z2⟩ := pp
               simp only at BX BY Q1 Q2 HCall HPair
               obtain ⟨x0, x1, x2, x3⟩ := BX
               obtain ⟨x4, x5, x6, x7⟩ := BY
               try simp only at x0 x1 x2 x3 x4 x5 x6 x7
               go_wp2_with fail
               clear x0 x1 x2 x3 x4 x5 x6 x7 g4 g5
               refine (HCall.out _ Q1.out Q2.out).mono ?_
               rintro e w1 ⟨rfl, b1⟩
               rw [HPair.out]
               have HW1 := hid (HWq.out.trans (b1.mono HWq.out.size))
               have HB1 := hid (HBq.out.trans (b1.mono HBq.out.size))
               clear b1
               cases S with
               | false =>
                have HF := hid (HNo.out rfl)
                go_wp2_with fail
                go_ret
                exact ⟨by rw [HF.out]; rfl, HB1.out⟩
               | true =>
                have HS2 := hid (HSn.out rfl)
                go_wp2_with fail
                go_roundw
                case rel => exact ⟨q + 1, by omega, by go_num, HS2, HW1⟩
                case measure => simp [intOf]; omega
             · have hqn' : ¬ (q : Int) < (n1 : Int) := by omega
               have HSA := hid (all_sp (rs := rs) (fun j hj => HSp.out j (by have := HN1.out; omega)))
               rw [HSA.out, Bool.true_and] at HBad HNx
               go_wp2_with fail
               clear g4 g5
               go_loopw [7] (fun s wq => ∃ q : Nat, q ≤ n2 ∧ s = .int .i64 q ∧ Hid (∀ j, j < q → okM (ws.getD j im0) = true) ∧ Hid (Below W.heap.size W wq)) (fun s _ => n2 - (intOf s).toNat)
               case atStart => exact ⟨0, Nat.zero_le _, rfl, hid (fun j hj => by omega), HWq⟩
               case round =>
                clear HBq HWq HSp
                obtain ⟨r, hr, rfl, HOk, HWq⟩ := hrel
                have HBq := hid (HBA.out.trans (HWq.out.mono HBA.out.size))
                obtain ⟨-, -, g4, g5⟩ := HCG.out _ (HWq.out.block g HG.out.1)
                by_cases hrn : r < n2
                · have hrn' : (r : Int) < (n2 : Int) := by omega
                  have hr0 : (0 : Int) ≤ (r : Int) := by omega
                  obtain ⟨bb, oo, p1, d1, rfl, bx, q1, _, _, hf1⟩ := HR2.out.at (k := r) (by have := HN2.out; omega)
                  have hz1 := HSM.out.2 r
                  have HNo := hid (fun e => HBad.out (all_im_no (ws := ws) (i := r) (by have := HN2.out; omega) e))
                  have HSn := hid (fun (e : okM (ws.getD r im0) = true) j (hj : j < r + 1) => show okM (ws.getD j im0) = true from by
                   by_cases hc : j < r
                   · exact HOk.out j hc
                   · have : j = r := by omega
                     subst this; exact e)
                  have BX := (bx.below HBq.out (Nat.le_refl _))
                  have HCall := hid (fun W' => spec_KeyOk (ws.getD r im0).K (ws.getD r im0).N (ws.getD r im0).F p1 (ws.getD r im0).Z.length d1 hf1 hz1 W')
                  obtain ⟨S, hS⟩ : ∃ S, okM (ws.getD r im0) = S := ⟨_, rfl⟩
                  have HPair := hid (show okK (ws.getD r im0).K (ws.getD r im0).N (ws.getD r im0).F (ws.getD r im0).Z.length = S from hS)
                  rw [hS] at HNo HSn
                  clear bx q1 hf1 hz1 hS
                  generalize ws.getD r im0 = pp at *
                  obtain ⟨K1, N1, F1, Z1⟩ := pp
                  simp only at BX HCall HPair
                  obtain ⟨x0, x1, x2, x3⟩ := BX
                  try simp only at x0 x1 x2 x3
                  go_wp2_with fail
                  clear x0 x1 x2 x3 g4 g5
                  refine (HCall.out _).mono ?_
                  rintro e w1 ⟨rfl, b1⟩
                  rw [HPair.out]
                  have HW1 := hid (HWq.out.trans (b1.mono HWq.out.size))
                  have HB1 := hid (HBq.out.trans (b1.mono HBq.out.size))
                  clear b1
                  cases S with
                  | false =>
                   have HF := hid (HNo.out rfl)
                   go_wp2_with fail
                   go_ret
                   exact ⟨by rw [HF.out]; rfl, HB1.out⟩
                  | true =>
                   have HS2 := hid (HSn.out rfl)
                   go_wp2_with fail
                   go_roundw
                   case rel => exact ⟨r + 1, by omega, by go_num, HS2, HW1⟩
                   case measure => simp [intOf]; omega
                · have hrn' : ¬ (r : Int) < (n2 : Int) := by omega
                  have HWA := hid (all_im (ws := ws) (fun j hj => HOk.out j (by have := HN2.out; omega)))
                  have HNy := hid (HNx.out HWA.out)
                  go_wp2_with fail
                  clear g4 g5
                  go_loopw [8] (fun s wq => ∃ q : Nat, q ≤ p ∧ s = .int .i64 q ∧ Hid (∀ j, j < q → L.getD j 0 ≠ be ∧ L.getD j 0 ≠ en) ∧ Hid (Below W.heap.size W wq)) (fun s _ => p - (intOf s).toNat)
                  case atStart => exact ⟨0, Nat.zero_le _, rfl, hid (fun j hj => by omega), HWq⟩
                  case round =>
                   clear HBq HWq HOk
                   obtain ⟨v, hv, rfl, HDf, HWq⟩ := hrel
                   obtain ⟨wo, hwo⟩ : ∃ wo, wo = wr := ⟨_, rfl⟩
                   subst hwo
                   have HBq := hid (HBA.out.trans (HWq.out.mono HBA.out.size))
                   have HOq := hid (owns_below HWq.out (Nat.le_refl _) HOA.out)
                   obtain ⟨g1, g2, -, -⟩ := HCG.out _ (HWq.out.block g HG.out.1)
                   by_cases hvi : v < p
                   · have hvi' : (v : Int) < (p : Int) := by omega
                     have hv0 : (0 : Int) ≤ (v : Int) := by omega
                     obtain ⟨ab, hcell⟩ : ∃ ab, a = some ⟨ab, 0, none⟩ ∧ wo.cell? ⟨ab, v, none⟩ = some (.int .i64 (L.getD v 0)) := by
                      rcases HOq.out.2 with ⟨e, h0⟩ | ⟨gb, cp, cur, e, _⟩
                      · omega
                      · obtain ⟨rfl, -, -⟩ := Value.slice.inj e
                        refine ⟨gb, rfl, ?_⟩
                        have := HOq.out.cellAt v (by omega)
                        rw [getD_ins] at this
                        rw [this, List.getD_eq_getElem?_getD, List.getElem?_eq_getElem (by have := HTL.out; omega)]
                        rfl
                     obtain ⟨rfl, hcl⟩ := hcell
                     have HDp := hid (fun e => HDup.out (L.getD v 0) (at_mem14 (by have := HTL.out; omega)) e)
                     have HDn := hid (fun (e : L.getD v 0 ≠ be ∧ L.getD v 0 ≠ en) j (hj : j < v + 1) => show L.getD j 0 ≠ be ∧ L.getD j 0 ≠ en from by
                      by_cases hc : j < v
                      · exact HDf.out j hc
                      · have : j = v := by omega
                        subst this; exact e)
                     generalize L.getD v 0 = xv at *
                     by_cases hx1 : xv = be
                     · have HF := hid (HDp.out (.inl hx1))
                       have hq8 : (xv == be) = true := by simpa using hx1
                       clear hx1
                       go_wp2_with fail
                       go_quiet (fail)
                       go_wp2_with fail
                       go_ret
                       exact ⟨by rw [HF.out]; rfl, by first | exact bel_dN HBq.out _ | exact HBq.out.trans ((Still.drew _).below _)⟩
                     · have hq8 : (xv == be) = false := by simpa using hx1
                       by_cases hx2 : xv = en
                       · have HF := hid (HDp.out (.inr hx2))
                         have hq9 : (xv == en) = true := by simpa using hx2
                         clear hx1 hx2
                         go_wp2_with fail
                         go_quiet (fail)
                         go_wp2_with fail
                         go_ret
                         exact ⟨by rw [HF.out]; rfl, by first | exact bel_dN HBq.out _ | exact HBq.out.trans ((Still.drew _).below _)⟩
                       · have HS2 := hid (HDn.out ⟨hx1, hx2⟩)
                         have hq9 : (xv == en) = false := by simpa using hx2
                         clear hx1 hx2
                         go_wp2_with fail
                         go_quiet (fail)
                         go_wp2_with fail
                         go_roundw
                         case rel => exact ⟨v + 1, by omega, by go_num, HS2, by first | exact hid (bel_dN HWq.out _) | exact hid (HWq.out.trans ((Still.drew _).below _))⟩
                         case measure => simp [intOf]; omega
                   · have hvi' : ¬ (v : Int) < (p : Int) := by omega
                     have HNd := hid (show (L ++ [be] ++ [en]).Nodup from nodup_snoc2 HD.out (fun q => by obtain ⟨j, hj, e⟩ := mem_at14 q; exact (HDf.out j (by have := HTL.out; omega)).1 e) (fun q => by obtain ⟨j, hj, e⟩ := mem_at14 q; exact (HDf.out j (by have := HTL.out; omega)).2 e) (by have := HNy.out.1; omega))
                     have HNz := hid HNy.out.2
                     obtain ⟨s, hs⟩ : ∃ s, wo.heap.size = s := ⟨_, rfl⟩
                     have HS := hid hs
                     have bA := Below.alloc1 wo (.cells #[.int .i64 be] 3)
                     have HA1 := hid (heap_alloc_new wo (.cells #[.int .i64 be] 3))
                     have OA := hid (owns_below bA (Nat.le_refl _) HOq.out)
                     have BA := hid (HBq.out.trans (bA.mono HBq.out.size))
                     have ZA := hid (alloc_size wo (.cells #[.int .i64 be] 3))
                     have CA := hid ((bA.block g (by have := HG.out; have := HWq.out.size; omega)).trans (HWq.out.block g HG.out.1))
                     clear bA hs
                     go_wp2_with (at_builtin; refine wpList_append_row rfl _ _ 29 rfl w.heap.size 3 i0 (.int .i64 0) 1 8 Tryz.underlying29 hinf hz0 hz1 hz2 rfl (by decide) _ p (ins L) rfl OA.out (some ⟨wo.heap.size, 0, none⟩) 1 1 [.int .i64 be] rfl rfl (.inr ⟨_, rfl, World.news_of_block HA1.out⟩) (fun e => by cases e) ?k1 ?k2 ?k3 ?k4 ?_)
                     case k1 => simp [Value.oneCell']
                     case k2 => unfold maxLen; omega
                     case k3 => omega
                     case k4 => have := ZA.out; have := HBq.out.size; omega
                     intro a5 c5 w5 o5 hg5
                     have O5 := hid (show w5.ownsRow w.heap.size 3 1 (.slice a5 (p + 1) c5) (p + 1) (ins (L ++ [be])) by rw [ins_append]; exact o5)
                     have B5 := hid (BA.out.grown hg5 (by have := BA.out.size; omega) (fun r e => (OA.out.lt r e).1))
                     have hne : ∀ r, Value.ownBlock (.slice a p c) = some r → r ≠ g := fun r e e' => by
                      subst e'
                      have q1 := (OA.out.lt r e)
                      rcases OA.out.2 with ⟨ee, _⟩ | ⟨gb, cp, cur, ee, _, hcur, _⟩
                      · rw [ee] at e; cases e
                      · rw [ee] at e
                        cases e
                        have q2 := CA.out.trans RA.out
                        rw [hcur] at q2
                        cases q2
                     have C5 := hid ((hg5.block g (by have := HG.out; have := HWq.out.size; have := ZA.out; omega) (fun e => hne g e.symm rfl)).trans CA.out)
                     clear hg5 o5 hne g1 g2
                     obtain ⟨g1, g2, -, -⟩ := HCG.out _ C5.out
                     clear g1
                     have bA := Below.alloc1 w5 (.cells #[.int .i64 en] 3)
                     have HA2 := hid (heap_alloc_new w5 (.cells #[.int .i64 en] 3))
                     have OA2 := hid (owns_below bA (Nat.le_refl _) O5.out)
                     have BA2 := hid (B5.out.trans (bA.mono B5.out.size))
                     have ZA2 := hid (alloc_size w5 (.cells #[.int .i64 en] 3))
                     clear bA
                     go_wp2_with (at_builtin; refine wpList_append_row rfl _ _ 29 rfl w.heap.size 3 i0 (.int .i64 0) 1 8 Tryz.underlying29 hinf hz0 hz1 hz2 rfl (by decide) _ (p + 1) (ins (L ++ [be])) rfl OA2.out (some ⟨w5.heap.size, 0, none⟩) 1 1 [.int .i64 en] rfl rfl (.inr ⟨_, rfl, World.news_of_block HA2.out⟩) (fun e => by cases e) ?m1 ?m2 ?m3 ?m4 ?_)
                     case m1 => simp [Value.oneCell']
                     case m2 => unfold maxLen; omega
                     case m3 => omega
                     case m4 => have := ZA2.out; have := B5.out.size; omega
                     intro a6 c6 w6 o6 hg6
                     have O6 := hid (show w6.ownsRow w.heap.size 3 1 (.slice a6 (p + 1 + 1) c6) (p + 1 + 1) (ins (tmL (ts.take (i + 1)))) by rw [HSu.out, ins_append]; exact o6)
                     have B6 := hid (BA2.out.grown hg6 (by have := BA2.out.size; omega) (fun r e => (OA2.out.lt r e).1))
                     have HNd2 := hid (show (tmL (ts.take (i + 1))).Nodup by rw [HSu.out]; exact HNd.out)
                     clear o6 hg6 g2
                     go_wp2_with fail
                     go_roundw
                     case rel => exact ⟨i + 1, a6, p + 1 + 1, c6, by omega, by go_num, rfl, by have := HP.out; omega, HNz, HNd2, O6, B6⟩
                     case measure => simp [intOf]; omega
          · have k6' : (200 : Int) < (n2 : Int) := by omega
            have HF := hid (HBad.out (by rw [decide_eq_false k6, Bool.false_and]))
            clear k2 k3
            go_wp2_with fail
            go_ret
            exact ⟨by rw [HF.out]; rfl, HBA.out⟩
        · have k4' : (200 : Int) < (n1 : Int) := by omega
          have HF := hid (HBad.out (by rw [decide_eq_false k4, Bool.false_and]))
          clear k2 k3
          go_wp2_with fail
          go_ret
          exact ⟨by rw [HF.out]; rfl, HBA.out⟩
      · have k3' : en ≤ be := by omega
        have HF := hid (HBad.out (by rw [decide_eq_false k3, Bool.false_and]))
        clear k2 k3
        go_wp2_with fail
        go_ret
        exact ⟨by rw [HF.out]; rfl, HBA.out⟩
    · have k2' : be < 1 := by omega
      have HF := hid (HBad.out (by rw [decide_eq_false k2, Bool.false_and]))
      clear k2
      go_wp2_with fail
      go_ret
      exact ⟨by rw [HF.out]; rfl, HBA.out⟩
  · have hlt' : ¬ (i : Int) < (n : Int) := by omega
    have HT := hid (show V = true from HVV.out.symm.trans (deedsB_yes ⟨by omega, fun j hj => HA.out j (by omega), by have := HD.out; rwa [List.take_of_length_le (by omega)] at this⟩))
    go_wp2_with fail
    go_ret
    exact ⟨by rw [HT.out]; rfl, HB.out⟩
end Go.Proofs.YtjcjoabblafboaaGreat
/- The keys that deeds write, ascending, each once: plain, and the contract of the program's writtenKeys. Conditions: at most 100 deeds of at most 200 writes that are keys. -/



namespace Go.Proofs.YtjcjoabblafboaaGreat
open Go.RowKit
set_option maxRecDepth 100000
theorem getD_q (d : List Qi) {i : Nat} (h : i < d.length) : d.getD i qi0 ∈ d := by
 rw [show d.getD i qi0 = d[i] by simp [List.getD, h]]; exact List.getElem_mem h
theorem mem_q {d : List Qi} {x : Qi} (h : x ∈ d) : ∃ i, i < d.length ∧ d.getD i qi0 = x := by
 obtain ⟨i, hi, rfl⟩ := List.getElem_of_mem h
 exact ⟨i, hi, by simp [List.getD, hi]⟩
theorem cpQ_sub {d : List Qi} {m : Nat} (hm : m ≤ d.length) : ∀ y ∈ cpQ d m, y ∈ d := by
 intro y hy
 unfold cpQ at hy
 obtain ⟨i, hi, rfl⟩ := List.mem_map.1 hy
 rw [List.mem_filter, List.mem_range] at hi
 exact getD_q d (by omega)
theorem sorted_at {d : List Qi} (hs : d.Pairwise (fun x y => cmpM x.e y.e ≤ 0)) {i j : Nat} (hij : i < j) (hj : j < d.length) : cmpM (d.getD i qi0).e (d.getD j qi0).e ≤ 0 := by
 have := (List.pairwise_iff_getElem.1 hs) i j (by omega) hj hij
 simpa [List.getD, hj, show i < d.length by omega] using this
theorem cpQ_good {d : List Qi} (ok : ∀ q ∈ d, okM q.e = true) (hs : d.Pairwise (fun x y => cmpM x.e y.e ≤ 0)) : ∀ m, m ≤ d.length →
 (cpQ d m).Pairwise (fun x y => cmpM x.e y.e < 0) ∧ (∀ i, i < m → ∃ y ∈ cpQ d m, cmpM y.e (d.getD i qi0).e = 0) ∧ ∀ y ∈ cpQ d m, cmpM y.e (d.getD (m - 1) qi0).e ≤ 0
 | 0, _ => ⟨by unfold cpQ; simp, fun i hi => by omega, fun y hy => by unfold cpQ at hy; simp at hy⟩
 | m + 1, hm => by
  obtain ⟨h1, h2, h3⟩ := cpQ_good ok hs m (by omega)
  have om := ok _ (getD_q d (i := m) (by omega))
  rw [cpQ_succ, Nat.add_sub_cancel]
  have hle : ∀ y ∈ cpQ d m, cmpM y.e (d.getD m qi0).e ≤ 0 := by
   intro y hy
   have oy := ok _ (cpQ_sub (by omega) y hy)
   by_cases m0 : m = 0
   · subst m0; unfold cpQ at hy; simp at hy
   · exact cmpM_le_trans oy (ok _ (getD_q d (i := m - 1) (by omega))) om (h3 y hy) (sorted_at hs (by omega) (by omega))
  by_cases hk : kpQ d m = true
  · rw [if_pos hk]
    refine ⟨?_, ?_, ?_⟩
    · rw [List.pairwise_append]
      refine ⟨h1, List.pairwise_singleton _ _, fun y hy z hz => ?_⟩
      obtain rfl : z = d.getD m qi0 := by simpa using hz
      have oy := ok _ (cpQ_sub (by omega) y hy)
      unfold kpQ at hk
      rw [Bool.or_eq_true, decide_eq_true_iff, decide_eq_true_iff] at hk
      have m0 : m ≠ 0 := fun e => by subst e; unfold cpQ at hy; simp at hy
      have hne : cmpM (d.getD m qi0).e (d.getD (m - 1) qi0).e ≠ 0 := hk.resolve_left m0
      have op := ok _ (getD_q d (i := m - 1) (by omega))
      have h5 := sorted_at hs (i := m - 1) (j := m) (by omega) (by omega)
      have h6 := cmpM_anti op om
      exact cmpM_le_lt oy op om (h3 y hy) (by omega)
    · intro i hi
      by_cases e : i = m
      · subst e; exact ⟨_, by simp, cmpM_self om⟩
      · obtain ⟨y, hy, e⟩ := h2 i (by omega)
        exact ⟨y, List.mem_append.2 (.inl hy), e⟩
    · intro y hy
      rcases List.mem_append.1 hy with hy | hy
      · exact hle y hy
      · obtain rfl : y = d.getD m qi0 := by simpa using hy
        rw [cmpM_self om]; omega
  · rw [if_neg hk, List.append_nil]
    refine ⟨h1, ?_, hle⟩
    intro i hi
    by_cases e : i = m
    · subst e
      unfold kpQ at hk
      rw [Bool.or_eq_true, decide_eq_true_iff, decide_eq_true_iff] at hk
      have m0 : i ≠ 0 := fun e => hk (.inl e)
      have hz : cmpM (d.getD i qi0).e (d.getD (i - 1) qi0).e = 0 := by
       by_cases q : cmpM (d.getD i qi0).e (d.getD (i - 1) qi0).e = 0
       · exact q
       · exact absurd (.inr q) hk
      obtain ⟨y, hy, e⟩ := h2 (i - 1) (by omega)
      have oy := ok _ (cpQ_sub (by omega) y hy)
      have op := ok _ (getD_q d (i := i - 1) (by omega))
      refine ⟨y, hy, ?_⟩
      rw [cmpM_eq oy op om e]
      have := cmpM_anti om op
      omega
    · exact h2 i (by omega)
structure KeysOf (ts : List Tk) (ks : List Im) : Prop where
 ok : ∀ x ∈ ks, okM x = true
 asc : ks.Pairwise (fun x y => cmpM x y < 0)
 cov : ∀ t ∈ ts, ∀ x ∈ t.ws, ∃ y ∈ ks, cmpM y x = 0
 frm : ∀ y ∈ ks, ∃ t ∈ ts, y ∈ t.ws
theorem keys_of {ts : List Tk} {q d : List Qi} (hq : q.map (·.e) = ts.flatMap (·.ws)) (ok : ∀ x ∈ q, okM x.e = true) (hp : d.Perm q) (hs : d.Pairwise (fun x y => cmpM x.e y.e ≤ 0)) : KeysOf ts ((cpQ d d.length).map (·.e)) := by
 have okd : ∀ x ∈ d, okM x.e = true := fun x hx => ok x (hp.mem_iff.1 hx)
 obtain ⟨h1, h2, -⟩ := cpQ_good okd hs d.length (Nat.le_refl _)
 refine ⟨?_, ?_, ?_, ?_⟩
 · intro x hx
   obtain ⟨y, hy, rfl⟩ := List.mem_map.1 hx
   exact okd _ (cpQ_sub (Nat.le_refl _) y hy)
 · rw [List.pairwise_map]; exact h1
 · intro t ht x hx
   have : x ∈ q.map (·.e) := by rw [hq]; exact List.mem_flatMap.2 ⟨t, ht, hx⟩
   obtain ⟨y, hy, rfl⟩ := List.mem_map.1 this
   obtain ⟨i, hi, e⟩ := mem_q (hp.mem_iff.2 hy)
   obtain ⟨z, hz, e2⟩ := h2 i hi
   rw [e] at e2
   exact ⟨z.e, List.mem_map.2 ⟨z, hz, rfl⟩, e2⟩
 · intro y hy
   obtain ⟨z, hz, rfl⟩ := List.mem_map.1 hy
   have h5 : z ∈ q := hp.mem_iff.1 (cpQ_sub (Nat.le_refl _) z hz)
   have : z.e ∈ ts.flatMap (·.ws) := by rw [← hq]; exact List.mem_map.2 ⟨z, h5, rfl⟩
   exact List.mem_flatMap.1 this
def RdV (w : World) (ad : Option Addr) (ts : List Tk) : Prop := ∀ k, k < ts.length → ∃ b off a c a' c', ad = some ⟨b, off, none⟩ ∧ Box5 w b (off + k * 5) (ts.getD k tk0) (.slice a (ts.getD k tk0).rs.length c) (.slice a' (ts.getD k tk0).ws.length c') ∧ ReadsM w a (fl2 (ts.getD k tk0).rs) ∧ ReadsM w a' (ts.getD k tk0).ws ∧ (a = none → c = 0) ∧ (a' = none → c' = 0)
theorem RdV.below {w w' : World} {ad : Option Addr} {ts : List Tk} (h : RdV w ad ts) {B : Nat} (hb : Below B w w') (hB : w.heap.size ≤ B) : RdV w' ad ts := by
 intro k hk
 obtain ⟨b, off, a, c, a', c', e, q, r1, r2, n1, n2⟩ := h k hk
 exact ⟨b, off, a, c, a', c', e, q.below hb hB, r1.below hb hB, r2.below hb hB, n1, n2⟩
theorem own_nil14 {w : World} {base : Nat} {e : TypeId} {s n m c : Nat} {a : Option Addr} {xs : List Value} (o : w.ownsRow base e s (.slice a m c) n xs) : a = none → c = 0 := by
 intro h
 rcases o.2 with ⟨q, _⟩ | ⟨g, cp, cur, q, _⟩
 · obtain ⟨-, -, rfl⟩ := Value.slice.inj q; rfl
 · obtain ⟨rfl, -, -⟩ := Value.slice.inj q; cases h
structure RdQ (w : World) (q : Qi) : Prop where
 rd : Reads w q.a q.e.Z.length q.e.Z
 fl : q.e.F < 18446744073709551616
 nil : q.a = none → q.c = 0
 max : q.e.Z.length ≤ maxLen
theorem RdQ.below {w w' : World} {q : Qi} (h : RdQ w q) {B : Nat} (hb : Below B w w') (hB : w.heap.size ≤ B) : RdQ w' q := ⟨h.rd.below hb hB, h.fl, h.nil, h.max⟩
theorem ReadsM.qs {w : World} {ad : Option Addr} : ∀ {es : List Im}, ReadsM w ad es → ∃ qs : List Qi, qs.map (·.e) = es ∧ (∀ q ∈ qs, RdQ w q) ∧ (es.length = 0 ∨ ∃ b off, ad = some ⟨b, off, none⟩ ∧ ∀ j u, (fQ qs)[j]? = some u → w.cell? ⟨b, off + j, none⟩ = some u) := by
 intro es h
 have hex : ∀ k, ∃ q : Qi, k < es.length → ∃ b off, ad = some ⟨b, off, none⟩ ∧ q.e = es.getD k im0 ∧ Box4 w b (off + k * 4) q.e.K q.e.N q.e.F (.slice q.a q.e.Z.length q.c) ∧ RdQ w q := by
  intro k
  by_cases hk : k < es.length
  · obtain ⟨b, off, a, c, e, bx, r, hnl, hmx, hf⟩ := h.at hk
    exact ⟨⟨es.getD k im0, a, c⟩, fun _ => ⟨b, off, e, rfl, bx, r, hf, hnl, hmx⟩⟩
  · exact ⟨qi0, fun q => absurd q hk⟩
 obtain ⟨f, hf⟩ := Classical.axiomOfChoice hex
 have hl : ((List.range es.length).map f).length = es.length := by simp
 refine ⟨(List.range es.length).map f, ?_, ?_, ?_⟩
 · apply List.ext_getElem?
   intro i
   by_cases hi : i < es.length
   · obtain ⟨b, off, _, e, _⟩ := hf i hi
     simp [hi, e, List.getD]
   · simp [hi]
 · intro q hq
   obtain ⟨i, hi, rfl⟩ := List.mem_map.1 hq
   obtain ⟨b, off, _, _, _, r⟩ := hf i (List.mem_range.1 hi)
   exact r
 · by_cases h0 : es.length = 0
   · exact .inl h0
   · obtain ⟨b, off, rfl, -⟩ := hf 0 (by omega)
     refine .inr ⟨b, off, rfl, fun j u hu => ?_⟩
     have hj : j < es.length * 4 := by
      by_cases q : j < (fQ ((List.range es.length).map f)).length
      · rwa [fQ_len, hl] at q
      · rw [List.getElem?_eq_none (by omega)] at hu; cases hu
     have h4 := flat_at encQ 4 encQ_len ((List.range es.length).map f) j (by rw [hl]; exact hj)
     have hq : j / 4 < es.length := by omega
     rw [show ((List.range es.length).map f).getD (j / 4) default = f (j / 4) by simp [List.getD, hq]] at h4
     obtain ⟨b', off', e', _, bx, _⟩ := hf (j / 4) hq
     obtain ⟨rfl, rfl⟩ : b = b' ∧ off = off' := by simpa using e'
     have hu' : (encQ (f (j / 4)))[j % 4]? = some u := by rw [← h4]; exact hu
     have hm : j % 4 < 4 := Nat.mod_lt _ (by omega)
     have hsum : j = j / 4 * 4 + j % 4 := by omega
     generalize j % 4 = r at *
     rw [hsum, ← Nat.add_assoc]
     rcases r with _ | _ | _ | _ | r
     · exact bx.c0.trans hu'
     · exact bx.c1.trans hu'
     · exact bx.c2.trans hu'
     · exact bx.c3.trans hu'
     · omega
theorem own_readsM {w : World} {base : Nat} {t : TypeId} {s n c : Nat} {a : Option Addr} {qs : List Qi} (o : w.ownsRow base t s (.slice a n c) n (fQ qs)) (h : ∀ q ∈ qs, RdQ w q) (hn : qs.length * 4 = n * s) : ReadsM w a (qs.map (·.e)) := by
 refine ⟨?_⟩
 rcases o.2 with ⟨e, h0⟩ | ⟨g, cap, cur, e, _⟩
 · left
   rw [List.length_map]
   rw [h0, Nat.zero_mul] at hn
   omega
 · obtain ⟨rfl, -, rfl⟩ := Value.slice.inj e
   right
   refine ⟨g, 0, rfl, fun i hi => ?_⟩
   rw [List.length_map] at hi
   have hq := h _ (getD_q qs hi)
   have hm : (qs.map (·.e)).getD i im0 = (qs.getD i qi0).e := by simp [List.getD, hi]
   rw [hm]
   obtain ⟨rest, hrow, _⟩ := owns_blk o
   have bx := own_two hrow hi
   rw [Nat.zero_add]
   exact ⟨_, bx, ⟨_, _, rfl, hq.rd, hq.nil, hq.max⟩, hq.fl⟩
end Go.Proofs.YtjcjoabblafboaaGreat
/- The contract of the program's writtenKeys. Conditions: the deeds are right. -/

namespace Go.Proofs.YtjcjoabblafboaaGreat
open Go.RowKit
set_option maxRecDepth 100000
theorem Tryz.infoIm14 : (Tryz.prog.info? 72).map (fun i => (i.zero, i.size, i.bytes)) = some (some (.agg #[.int .i64 0, .int .i64 0, .float .f64 0, .slice none 0 0]), 4, 48) := by kernel_rfl
theorem fQ_one (l : List Qi) : ∀ u ∈ fQ l, u.oneCell' = true := by
 intro u hu
 obtain ⟨q, _, hq⟩ := List.mem_flatMap.1 hu
 exact encQ_one q u hq
theorem good_of {w wr : World} {blk : Nat} {q : Qi} (h : Reads w q.a q.e.Z.length q.e.Z) (hf : q.e.F < 18446744073709551616) (hok : okM q.e = true) (hb : Below w.heap.size w wr) (hle : w.heap.size ≤ blk) : GoodQ wr blk q := by
 refine ⟨h.below hb (Nat.le_refl _), fun a e hn => ?_, hf, hok⟩
 rcases h.cells with h0 | ⟨b, off, e', hc⟩
 · exact absurd h0 hn
 · rw [e] at e'
   obtain rfl := Option.some.inj e'
   have := World.block_lt_of_cell? w _ (hc 0 (by omega))
   simp only at this ⊢
   omega
theorem readsM_nil {w : World} {es : List Im} (h : ReadsM w none es) : es.length = 0 := by
 rcases h.cells with h0 | ⟨b, off, e, _⟩
 · exact h0
 · cases e
set_option maxHeartbeats 1600000 in
theorem compact_nil (c : Nat) (w : World) : Calls Tryz.prog 144 #[.slice none 0 c, .func (.func 145) #[] #[]] w fun e w' => e = .returned (.slice none 0 c) ∧ w' = w := by
 go_enter Tryz.func144, Tryz.ntmps144
 go_wp2_with fail
 go_ret
 exact ⟨rfl, rfl⟩
theorem take_flat (ts : List Tk) {k : Nat} (h : k < ts.length) : (ts.take (k + 1)).flatMap (·.ws) = (ts.take k).flatMap (·.ws) ++ (ts.getD k tk0).ws := by
 rw [take_tk ts h, List.flatMap_append]; simp
theorem okDs_at {ts : List Tk} (h : okDs ts) {k : Nat} (hk : k < ts.length) : (ts.getD k tk0).rs.length ≤ 200 ∧ (ts.getD k tk0).ws.length ≤ 200 ∧ (∀ p ∈ (ts.getD k tk0).rs, spB p = true) ∧ ∀ x ∈ (ts.getD k tk0).ws, okM x = true := by
 have := h.2.1 k hk
 unfold deedB at this
 simp only [Bool.and_eq_true, decide_eq_true_iff, List.all_eq_true] at this
 exact ⟨this.2.2.1, this.2.2.2.1, this.2.2.2.2.1, this.2.2.2.2.2⟩
theorem okDs_flat {ts : List Tk} (h : okDs ts) : ∀ x ∈ ts.flatMap (·.ws), okM x = true := by
 intro x hx
 obtain ⟨t, ht, hx⟩ := List.mem_flatMap.1 hx
 obtain ⟨i, hi, rfl⟩ := List.getElem_of_mem ht
 have := (okDs_at h hi).2.2.2
 rw [show ts.getD i tk0 = ts[i] by simp [List.getD, hi]] at this
 exact this x hx
set_option maxHeartbeats 6400000 in
theorem impl_writtenKeys {a : Option Addr} {n : Nat} (c : Nat) {ts : List Tk} {w : World} (h : RdV w a ts) (hl : ts.length = n) (hok : okDs ts) :
 Calls Tryz.prog 104 #[.slice a n c] w fun e w' => ∃ (b : Option Addr) (k c' : Nat) (ks : List Qi), e = .returned (.slice b k c') ∧ ks.length = k ∧ k ≤ 20000 ∧ KeysOf ts (ks.map (·.e)) ∧ w'.ownsRow w.heap.size 72 4 (.slice b k c') k (fQ ks) ∧ (∀ q ∈ ks, RdQ w q) ∧ Below w.heap.size w w' := by
 have hn : n ≤ 100 := by have := hok.1; omega
 have HR := hid h
 have HL := hid hl
 have HK := hid hok
 clear h hl hok
 obtain ⟨i0, hinf, hz0, hz1, hz2⟩ : ∃ i, Tryz.prog.info? 72 = some i ∧ i.zero = some (.agg #[.int .i64 0, .int .i64 0, .float .f64 0, .slice none 0 0]) ∧ i.size = 4 ∧ i.bytes = 48 := by
  have := Tryz.infoIm14
  cases hh : Tryz.prog.info? 72 with
  | none => rw [hh] at this; cases this
  | some i => rw [hh] at this; simp at this; exact ⟨i, rfl, this.1, this.2.1, this.2.2⟩
 go_enter Tryz.func104, Tryz.ntmps104
 go_wp2_with fail
 go_loopw [3, 8] (fun s3 s8 wr => ∃ (k : Nat) (b : Option Addr) (p c' : Nat) (Q : List Qi), k ≤ n ∧ s8 = .int .i64 k ∧ s3 = .slice b p c' ∧ p ≤ 200 * k ∧ Hid (Q.length = p) ∧ Hid (Q.map (·.e) = (ts.take k).flatMap (·.ws)) ∧ Hid (∀ q ∈ Q, RdQ w q) ∧ Hid (wr.ownsRow w.heap.size 72 4 (.slice b p c') p (fQ Q)) ∧ Hid (Below w.heap.size w wr)) (fun _ i _ => n - (intOf i).toNat)
 case atStart => exact ⟨0, none, 0, 0, [], Nat.zero_le _, rfl, rfl, by omega, hid rfl, hid (by simp), hid (fun q hq => by cases hq), hid (World.ownsRow_nil _ _ _ _), hid (Below.refl _ _)⟩
 case round =>
  obtain ⟨k, b, p, c', Q, hk, rfl, rfl, hp, HQl, HQm, HQr, HO, HB⟩ := hrel
  by_cases hlt : k < n
  · have hlt' : (k : Int) < (n : Int) := by omega
    have hk0 : (0 : Int) ≤ (k : Int) := by omega
    obtain ⟨bb, off, a1, c1, a2, c2, rfl, bx, r1, r2, nl1, nl2⟩ := HR.out k (by have := HL.out; omega)
    obtain ⟨y0, y1, y2, y4, y5⟩ := bx.below HB.out (Nat.le_refl _)
    have hsz := okDs_at HK.out (k := k) (by have := HL.out; omega)
    obtain ⟨qs, hqs, hqr, hqc⟩ := r2.qs
    have HTf := hid (take_flat ts (k := k) (by have := HL.out; omega))
    have hnl := fun e : a2 = none => by subst e; exact readsM_nil r2
    generalize ts.getD k tk0 = t at *
    obtain ⟨xi, be, en, al, rs, ws, inn, ou⟩ := t
    simp only at y0 y1 y2 y4 y5 hsz hqs hqc HTf hnl
    obtain ⟨n1, hn1⟩ : ∃ m, rs.length = m := ⟨_, rfl⟩
    obtain ⟨n2, hn2⟩ : ∃ m, ws.length = m := ⟨_, rfl⟩
    rw [hn1] at y4
    rw [hn2] at y5 hqc hnl
    have hw2 : n2 ≤ 200 := by have := hsz.2.1; omega
    have HQn := hid (show qs.length = n2 by rw [← hn2, ← hqs, List.length_map])
    have bA := Below.alloc1 wr (.cells #[.int .i64 xi, .int .i64 be, .int .i64 en, .slice a1 n1 c1, .slice a2 n2 c2] 68)
    have HBA := hid (HB.out.trans (bA.mono HB.out.size))
    have OA := hid (owns_below bA (Nat.le_refl _) HO.out)
    have HNw := hid (show (a2 = none ∧ c2 = 0) ∨ ∃ p, a2 = some p ∧ ∀ j u, (fQ qs)[j]? = some u → (wr.alloc (.cells #[.int .i64 xi, .int .i64 be, .int .i64 en, .slice a1 n1 c1, .slice a2 n2 c2] 68)).cell? (p.add j) = some u by
     cases a2 with
     | none => exact .inl ⟨rfl, nl2 rfl⟩
     | some pp =>
      refine .inr ⟨pp, rfl, fun j u hu => ?_⟩
      rcases hqc with h0 | ⟨b', off', e', hc⟩
      · have : fQ qs = [] := by
         have := fQ_len qs
         rw [HQn.out, h0] at this
         exact List.length_eq_zero_iff.1 (by omega)
        rw [this] at hu; cases hu
      · obtain rfl := Option.some.inj e'
        have hcell := hc j u hu
        have ea : (⟨b', off', none⟩ : Addr).add j = ⟨b', off' + j, none⟩ := by simp [Addr.add]
        rw [ea]
        exact (HBA.out.cell (p := ⟨b', off' + j, none⟩) (World.block_lt_of_cell? w _ hcell)).trans hcell)
    have HQs := hid (And.intro hqs hqr)
    clear bx r1 r2 bA hn1 hn2 hqs hqr hqc hsz HO
    go_wp2_with (at_builtin; refine wpList_append_row rfl _ _ 66 rfl w.heap.size 72 i0 (.agg #[.int .i64 0, .int .i64 0, .float .f64 0, .slice none 0 0]) 4 48 Tryz.underlying66 hinf hz0 hz1 hz2 rfl (by decide) _ p (fQ Q) rfl OA.out a2 n2 c2 (fQ qs) rfl ?k0 HNw.out hnl (fQ_one qs) ?k2 ?k3 ?k4 ?_)
    case k0 => rw [fQ_len, HQn.out]
    case k2 => unfold maxLen; omega
    case k3 => omega
    case k4 => exact HBA.out.size
    intro a5 c5 w5 o5 hg5
    have O5 := hid (show w5.ownsRow w.heap.size 72 4 (.slice a5 (p + n2) c5) (p + n2) (fQ (Q ++ qs)) by rw [fQ_app]; exact o5)
    have B5 := hid (HBA.out.grown hg5 HBA.out.size (fun r e => (OA.out.lt r e).1))
    clear o5 hg5 y0 y1 y2 y4 y5
    go_wp2_with fail
    go_roundw
    case rel =>
     refine ⟨k + 1, a5, p + n2, c5, Q ++ qs, by omega, by go_num, rfl, by omega, hid (by rw [List.length_append, HQl.out, HQn.out]), hid ?_, hid ?_, O5, B5⟩
     · rw [List.map_append, HQm.out, HQs.out.1, HTf.out]
     · intro q hq
       rcases List.mem_append.1 hq with hq | hq
       · exact HQr.out q hq
       · exact HQs.out.2 q hq
    case measure => simp [intOf]; omega
  · have hlt' : ¬ (k : Int) < (n : Int) := by omega
    obtain rfl : k = n := by omega
    have hqm := HQm.out
    rw [List.take_of_length_le (by have := HL.out; omega)] at hqm
    have hqok : ∀ q ∈ Q, okM q.e = true := fun q hq => okDs_flat HK.out q.e (by rw [← hqm]; exact List.mem_map.2 ⟨q, hq, rfl⟩)
    have HQk := hid (And.intro hqm hqok)
    clear hqm hqok
    go_wp2_with fail
    refine (sort_items Q HQl.out wr HO.out (fun blk e q hq => good_of (HQr.out q hq).rd (HQr.out q hq).fl (HQk.out.2 q hq) HB.out (by subst e; exact (HO.out.lt blk rfl).1)) HQk.out.2 (by omega)).mono ?_
    rintro e w1 ⟨rfl, d, hp1, hs1, o1, g1⟩
    have B1 := hid (HB.out.grown g1 HB.out.size (fun r e => (HO.out.lt r e).1))
    have HP := hid hp1
    have HS := hid hs1
    have O1 := hid o1
    have HDl := hid (show d.length = p by rw [hp1.length_eq, HQl.out])
    have HKs := hid (keys_of (d := d) HQk.out.1 HQk.out.2 hp1 hs1)
    have HDr := hid (fun q (hq : q ∈ d) => HQr.out q (hp1.mem_iff.1 hq))
    have HDk := hid (fun q (hq : q ∈ d) => HQk.out.2 q (hp1.mem_iff.1 hq))
    clear hp1 hs1 o1 g1 HO HB
    go_wp2_with fail
    cases b with
    | none =>
     have hp0 : p = 0 := by
      rcases O1.out.2 with ⟨_, q⟩ | ⟨_, _, _, q, _⟩
      · exact q
      · cases q
     subst hp0
     refine (compact_nil c' w1).mono ?_
     rintro e w2 ⟨rfl, rfl⟩
     have HDn := hid (show d = [] from List.length_eq_zero_iff.1 HDl.out)
     go_wp2_with fail
     go_ret
     refine ⟨none, 0, c', [], rfl, rfl, by omega, ?_, ?_, (fun q hq => by cases hq), B1.out⟩
     · have := HKs.out; rw [HDn.out] at this; exact this
     · have := O1.out; rw [HDn.out] at this; exact this
    | some ad =>
     obtain ⟨g, rfl⟩ : ∃ g, ad = ⟨g, 0, none⟩ := by
      rcases O1.out.2 with ⟨q, _⟩ | ⟨g, _, _, q, _⟩
      · cases q
      · obtain ⟨q1, -, -⟩ := Value.slice.inj q
        exact ⟨g, Option.some.inj q1⟩
     have hgl := (O1.out.lt g rfl)
     refine (compact_items (base := w.heap.size) (g := g) (c := c') (n := p) d HDl.out O1.out (fun i hi => good_of (HDr.out _ (getD_q d (by have := HDl.out; omega))).rd (HDr.out _ (getD_q d (by have := HDl.out; omega))).fl (HDk.out _ (getD_q d (by have := HDl.out; omega))) B1.out hgl.1) (by omega)).mono ?_
     rintro e w2 ⟨m, rfl, hm, o2, k2⟩
     have B2 := hid (show Below w.heap.size w w2 from B1.out.grown (row := some g) ⟨k2.os, k2.tape, k2.output, k2.size, fun i hi hne => k2.block i hi (fun e => hne (by rw [e]))⟩ B1.out.size (fun r e => by cases e; exact hgl.1))
     have O2 := hid o2
     have HM := hid hm
     have HKs2 := hid (show KeysOf ts ((cpQ d p).map (·.e)) by have := HKs.out; rwa [HDl.out] at this)
     clear o2 k2 hm hgl
     go_wp2_with fail
     go_ret
     refine ⟨some ⟨g, 0, none⟩, m, c', cpQ d p, rfl, HM.out, ?_, HKs2.out, O2.out, fun q hq => HDr.out q (cpQ_sub (by have := HDl.out; omega) q hq), B2.out⟩
     have := cpQ_le d p
     have := HM.out
     omega
end Go.Proofs.YtjcjoabblafboaaGreat
