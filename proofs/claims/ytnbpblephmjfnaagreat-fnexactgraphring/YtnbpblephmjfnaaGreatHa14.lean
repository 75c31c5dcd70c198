/- Deeds that are right, plain, and the contract of the specification's DeedsOk. Conditions: texts of at most 2^21 bytes. -/
import Derived.Test.YtnbpblephmjfnaaGreatMgc
import Derived.Test.YtnbpblephmjfnaaGreatNi
namespace Go.Proofs.YtnbpblephmjfnaaGreat
open Go.RowKit
set_option maxRecDepth 100000
def deedB (t : Tk) : Bool := decide (1 ≤ t.begun) && (decide (t.begun < t.ended) && (decide (t.rs.length ≤ 200) && (decide (t.ws.length ≤ 200) && (t.rs.all spB && t.ws.all okM))))
def tmL (ts : List Tk) : List Int := ts.flatMap (fun t => [t.begun, t.ended])
def okDs (ts : List Tk) : Prop := ts.length ≤ 100 ∧ (∀ i, i < ts.length → deedB (ts.getD i tk0) = true) ∧ (tmL ts).Nodup
open Classical in
noncomputable def deedsB (ts : List Tk) : Bool := decide (okDs ts)
theorem deedsB_yes {ts : List Tk} (h : okDs ts) : deedsB ts = true := by simp [deedsB, h]
theorem deedsB_no {ts : List Tk} (h : ¬ okDs ts) : deedsB ts = false := by simp [deedsB, h]
theorem deedsB_ok {ts : List Tk} (h : deedsB ts = true) : okDs ts := by simpa [deedsB] using h
theorem deedsB_bad {ts : List Tk} {i : Nat} (hi : i < ts.length) (h : deedB (ts.getD i tk0) = false) : deedsB ts = false := deedsB_no (fun q => by rw [q.2.1 i hi] at h; cases h)
theorem tmL_len : ∀ ts : List Tk, (tmL ts).length = 2 * ts.length
 | [] => rfl
 | t :: ts => by
  have := tmL_len ts
  unfold tmL at *
  rw [List.flatMap_cons, List.length_append, this]
  simp; omega
theorem tmL_app (a b : List Tk) : tmL (a ++ b) = tmL a ++ tmL b := by simp [tmL]
theorem take_tk (ts : List Tk) {k : Nat} (h : k < ts.length) : ts.take (k + 1) = ts.take k ++ [ts.getD k tk0] := by
 rw [List.take_succ_eq_append_getElem h, List.getD_eq_getElem?_getD, List.getElem?_eq_getElem h]; rfl
theorem tmL_succ (ts : List Tk) {k : Nat} (h : k < ts.length) : tmL (ts.take (k + 1)) = tmL (ts.take k) ++ [(ts.getD k tk0).begun] ++ [(ts.getD k tk0).ended] := by
 rw [take_tk ts h, tmL_app]
 simp [tmL]
theorem tmL_dup {ts : List Tk} {k : Nat} (h : k < ts.length) {x : Int} (hx : x ∈ tmL (ts.take k)) (he : x = (ts.getD k tk0).begun ∨ x = (ts.getD k tk0).ended) : deedsB ts = false := by
 refine deedsB_no (fun q => ?_)
 have h1 : (tmL ts).Nodup := q.2.2
 rw [← List.take_append_drop (k + 1) ts, tmL_app, tmL_succ ts h, List.append_assoc (tmL (ts.take k))] at h1
 have h2 := (List.nodup_append.1 (List.nodup_append.1 h1).1).2.2
 rcases he with rfl | rfl
 · exact h2 _ hx _ (by simp) rfl
 · exact h2 _ hx _ (by simp) rfl
theorem nodup_snoc2 {l : List Int} {a b : Int} (h : l.Nodup) (ha : a ∉ l) (hb : b ∉ l) (hab : a ≠ b) : (l ++ [a] ++ [b]).Nodup := by
 rw [List.append_assoc, List.nodup_append]
 refine ⟨h, by simp [hab], fun x hx y hy e => ?_⟩
 subst e
 simp at hy
 rcases hy with rfl | rfl
 · exact ha hx
 · exact hb hx
theorem deedB_lt {t : Tk} (h : deedB t = true) : 1 ≤ t.begun ∧ t.begun < t.ended := by
 unfold deedB at h
 rw [Bool.and_eq_true, Bool.and_eq_true, decide_eq_true_iff, decide_eq_true_iff] at h
 exact ⟨h.1, h.2.1⟩
theorem mem_at14 {l : List Int} {x : Int} (h : x ∈ l) : ∃ i, i < l.length ∧ l.getD i 0 = x := by
 obtain ⟨i, hi, rfl⟩ := List.getElem_of_mem h
 exact ⟨i, hi, by simp [List.getD, hi]⟩
theorem at_mem14 {l : List Int} {i : Nat} (h : i < l.length) : l.getD i 0 ∈ l := by
 rw [show l.getD i 0 = l[i] by simp [List.getD, h]]
 exact List.getElem_mem h
set_option maxHeartbeats 12800000 in
theorem spec_DeedsOk {ad : Option Addr} {n : Nat} (cap : Nat) {ts : List Tk} {w : World} (h : ReadsV w ad ts) (hl : ts.length = n) (hsm : smT ts) :
 Calls Tryz.prog 8 #[.slice ad n cap] w fun e w' => e = .returned (.bool (deedsB ts)) ∧ Below w.heap.size w w' := by
 by_cases hbig : 100 < n
 · have q : (100 : Int) < (n : Int) := by omega
   have HV := hid (deedsB_no (ts := ts) (fun q => by have := q.1; omega))
   go_enter Tryz.func8, Tryz.ntmps8
   go_wp2
   go_ret
   exact ⟨by rw [HV.out]; rfl, Below.refl _ _⟩
 have q : ¬ (100 : Int) < (n : Int) := by omega
 obtain ⟨V, hV⟩ : ∃ V, deedsB ts = V := ⟨_, rfl⟩
 rw [hV]
 have HVV := hid hV
 clear hV
 obtain ⟨i0, hinf, hz0, hz1, hz2⟩ : ∃ i, Tryz.prog.info? 3 = some i ∧ i.zero = some (.int .i64 0) ∧ i.size = 1 ∧ i.bytes = 8 := by
  have := Tryz.infoI
  cases hh : Tryz.prog.info? 3 with
  | none => rw [hh] at this; cases this
  | some i => rw [hh] at this; simp at this; exact ⟨i, rfl, this.1, this.2.1, this.2.2⟩
 go_enter Tryz.func8, Tryz.ntmps8
 go_wp2
 go_loopw [3, 4] (fun s3 i wr => ∃ (k : Nat) (a : Option Addr) (p c : Nat), k ≤ n ∧ i = .int .i64 k ∧ s3 = .slice a p c ∧ p = 2 * k ∧ Hid (∀ i, i < k → deedB (ts.getD i tk0) = true) ∧ Hid ((tmL (ts.take k)).Nodup) ∧ Hid (wr.ownsRow w.heap.size 3 1 (.slice a p c) p (ins (tmL (ts.take k)))) ∧ Hid (Below w.heap.size w wr)) (fun _ i _ => n - (intOf i).toNat)
 case atStart => exact ⟨0, none, 0, 0, Nat.zero_le _, rfl, rfl, rfl, hid (fun i hi => by omega), hid (by simp [tmL]), hid (World.ownsRow_nil _ _ _ _), hid (Below.refl _ _)⟩
 case round =>
  obtain ⟨i, a, p, c, hi, rfl, rfl, hp, HA, HD, HO, HB⟩ := hrel
  have HP := hid hp
  have hp2 : p ≤ 200 := by omega
  clear hp
  by_cases hlt : i < n
  · have hlt' : (i : Int) < (n : Int) := by omega
    have hi0 : (0 : Int) ≤ (i : Int) := by omega
    obtain ⟨b, off, a1, c1, a2, c2, rfl, bx0, r1, hm1, r2, hm2⟩ := h.at (k := i) (by omega)
    unfold maxLen at hm1 hm2
    have bx := bx0.below HB.out (Nat.le_refl _)
    have HBad := hid (fun q => HVV.out.symm.trans (deedsB_bad (ts := ts) (i := i) (by omega) q))
    have HDup := hid (fun (x : Int) (hx : x ∈ tmL (ts.take i)) (q : x = (ts.getD i tk0).begun ∨ x = (ts.getD i tk0).ended) => HVV.out.symm.trans (tmL_dup (ts := ts) (k := i) (by omega) hx q))
    have HNx := hid (fun (q1 : deedB (ts.getD i tk0) = true) => And.intro (show (ts.getD i tk0).begun < (ts.getD i tk0).ended from (deedB_lt q1).2) (fun j (hj : j < i + 1) => show deedB (ts.getD j tk0) = true from by
     by_cases hc : j < i
     · exact HA.out j hc
     · have : j = i := by omega
       subst this; exact q1))
    have HSu := hid (tmL_succ ts (k := i) (by omega))
    have HTL := hid (show (tmL (ts.take i)).length = p by rw [tmL_len, List.length_take, HP.out, hl]; omega)
    obtain ⟨sm1, sm2⟩ := hsm i
    have HR1 := hid r1
    have HR2 := hid r2
    have HSM := hid (And.intro sm1 sm2)
    generalize ts.getD i tk0 = t at *
    obtain ⟨xi, be, en, al, rs, ws, inn, ou⟩ := t
    simp only at bx HR1 HR2 HSM hm1 hm2 HDup HNx HSu
    obtain ⟨L, hL⟩ : ∃ L, tmL (ts.take i) = L := ⟨_, rfl⟩
    rw [hL] at HD HO HDup HSu HTL
    clear hL
    obtain ⟨n1, hn1⟩ : ∃ n1, rs.length = n1 := ⟨_, rfl⟩
    obtain ⟨n2, hn2⟩ : ∃ n2, ws.length = n2 := ⟨_, rfl⟩
    have HN1 := hid hn1
    have HN2 := hid hn2
    have HTr := hid (show deedB ⟨xi, be, en, al, rs, ws, inn, ou⟩ = (decide (1 ≤ be) && (decide (be < en) && (decide (n1 ≤ 200) && (decide (n2 ≤ 200) && (rs.all spB && ws.all okM))))) by unfold deedB; simp only [hn1, hn2])
    rw [HTr.out] at HBad HNx
    simp only [hn1] at bx hm1
    simp only [hn2] at bx hm2
    have bA := Below.alloc1 wr (.cells #[.int .i64 xi, .int .i64 be, .int .i64 en, .slice a1 n1 c1, .slice a2 n2 c2] 68)
    have RA := hid (heap_alloc_new wr (.cells #[.int .i64 xi, .int .i64 be, .int .i64 en, .slice a1 n1 c1, .slice a2 n2 c2] 68))
    have ZA := hid (alloc_size wr (.cells #[.int .i64 xi, .int .i64 be, .int .i64 en, .slice a1 n1 c1, .slice a2 n2 c2] 68))
    have HBA := hid (HB.out.trans (bA.mono HB.out.size))
    have HOA := hid (owns_below bA (Nat.le_refl _) HO.out)
    obtain ⟨c0, c1', c2', c4, c5⟩ := bx
    simp only at c0 c1' c2'
    clear bx0 r1 r2 sm1 sm2 hn1 hn2 bA HTr HO
    by_cases k2 : 1 ≤ be
    · have k2' : ¬ be < 1 := by omega
      rw [decide_eq_true k2, Bool.true_and] at HBad HNx
      by_cases k3 : be < en
      · have k3' : ¬ en ≤ be := by omega
        rw [decide_eq_true k3, Bool.true_and] at HBad HNx
        by_cases k4 : n1 ≤ 200
        · have k4' : ¬ (200 : Int) < (n1 : Int) := by omega
          rw [decide_eq_true k4, Bool.true_and] at HBad HNx
          by_cases k6 : n2 ≤ 200
          · have k6' : ¬ (200 : Int) < (n2 : Int) := by omega
            rw [decide_eq_true k6, Bool.true_and] at HBad HNx
            clear k2 k3
            go_wp2_with fail
            clear c0 c1' c2' c4 c5
            obtain ⟨g, hg⟩ : ∃ g, wr.heap.size = g := ⟨_, rfl⟩
            generalize wr.alloc (.cells #[.int .i64 xi, .int .i64 be, .int .i64 en, .slice a1 n1 c1, .slice a2 n2 c2] 68) = W at *
            rw [hg] at RA
            try simp only [hg]
            have HG := hid (show g < W.heap.size ∧ w.heap.size ≤ g by have := ZA.out; have := HB.out.size; omega)
            clear hg ZA
            have cellsG : ∀ U : World, U.heap[g]? = W.heap[g]? → U.cell? ⟨g, 1, none⟩ = some (.int .i64 be) ∧ U.cell? ⟨g, 2, none⟩ = some (.int .i64 en) ∧ U.cell? ⟨g, 3, none⟩ = some (.slice a1 n1 c1) ∧ U.cell? ⟨g, 4, none⟩ = some (.slice a2 n2 c2) := fun U e => by
             have r := e.trans RA.out
             refine ⟨?_, ?_, ?_, ?_⟩ <;> (rw [cell_of_row _ _ _ _ _ _ r]; rfl)
            have HCG := hid cellsG
            obtain ⟨g1, g2, g4, g5⟩ := cellsG W rfl
            clear cellsG
            clear g1 g2 g4 g5
            go_loopw [6] (fun s wq => ∃ q : Nat, q ≤ n1 ∧ s = .int .i64 q ∧ Hid (∀ j, j < q → spB (rs.getD j sp0) = true) ∧ Hid (Below W.heap.size W wq)) (fun s _ => n1 - (intOf s).toNat)
            case atStart => exact ⟨0, Nat.zero_le _, rfl, hid (fun j hj => by omega), hid (Below.refl _ _)⟩
            case round =>
             obtain ⟨q, hq, rfl, HSp, HWq⟩ := hrel
             have HBq := hid (HBA.out.trans (HWq.out.mono HBA.out.size))
             obtain ⟨-, -, g4, g5⟩ := HCG.out wr (HWq.out.block g HG.out.1)
             by_cases hqn : q < n1
             · have hqn' : (q : Int) < (n1 : Int) := by omega
               have hq0 : (0 : Int) ≤ (q : Int) := by omega
               have hl2 : (fl2 rs).length = n1 * 2 := by rw [fl2_len, HN1.out]
               obtain ⟨bb, oo, p1, d1, rfl, bx, q1, _, _, hf1⟩ := HR1.out.at (k := q * 2) (by omega)
               obtain ⟨bb', oo', p2, d2, e', by', q2, _, _, hf2⟩ := HR1.out.at (k := q * 2 + 1) (by omega)
               obtain ⟨rfl, rfl⟩ : bb = bb' ∧ oo = oo' := by simpa using e'
               have hz1 := HSM.out.1 (q * 2)
               have hz2 := HSM.out.1 (q * 2 + 1)
               have hat := fl2_at rs q
               rw [hat.1] at bx q1 hf1 hz1
               rw [hat.2] at by' q2 hf2 hz2
               have HNo := hid (fun e => HBad.out (by rw [all_sp_no (rs := rs) (i := q) (by have := HN1.out; omega) e, Bool.false_and]))
               have HSn := hid (fun (e : spB (rs.getD q sp0) = true) j (hj : j < q + 1) => show spB (rs.getD j sp0) = true from by
                by_cases hc : j < q
                · exact HSp.out j hc
                · have : j = q := by omega
                  subst this; exact e)
               have BX := (bx.below HBq.out (Nat.le_refl _))
               have BY := (by'.below HBq.out (Nat.le_refl _))
               have Q1 := hid (q1.below HBq.out (Nat.le_refl _))
               have Q2 := hid (q2.below HBq.out (Nat.le_refl _))
               rw [show oo + q * 2 * 4 = oo + q * 8 by omega] at BX
               rw [show oo + (q * 2 + 1) * 4 = oo + q * 8 + 4 by omega] at BY
               have HCall := hid (fun W' (r1 : Reads W' p1 (rs.getD q sp0).1.Z.length (rs.getD q sp0).1.Z) (r2 : Reads W' p2 (rs.getD q sp0).2.Z.length (rs.getD q sp0).2.Z) => spec_SpanOk (rs.getD q sp0).1 (rs.getD q sp0).2 d1 d2 r1 r2 hf1 hf2 hz1 hz2)
               obtain ⟨S, hS⟩ : ∃ S, spB (rs.getD q sp0) = S := ⟨_, rfl⟩
               have HPair := hid (show spB ((rs.getD q sp0).1, (rs.getD q sp0).2) = S from hS)
               rw [hS] at HNo HSn
               clear bx by' q1 q2 hf1 hf2 hz1 hz2 hat hl2 e' hS
               generalize rs.getD q sp0 = pp at *
               obtain ⟨⟨K1, N1, F1, Z1⟩, K2, N2, F2, Z2⟩ := pp
               simp only at BX BY Q1 Q2 HCall HPair
               obtain ⟨x0, x1, x2, x3⟩ := BX
               obtain ⟨x4, x5, x6, x7⟩ := BY
               try simp only at x0 x1 x2 x3 x4 x5 x6 x7
               go_wp2_with fail
               clear x0 x1 x2 x3 x4 x5 x6 x7 g4 g5
               refine (HCall.out _ Q1.out Q2.out).mono ?_
               rintro e w1 ⟨rfl, b1⟩
               rw [HPair.out]
               have HW1 := hid (HWq.out.trans (b1.mono HWq.out.size))
               have HB1 := hid (HBq.out.trans (b1.mono HBq.out.size))
               clear b1
               cases S with
               | false =>
                have HF := hid (HNo.out rfl)
                go_wp2_with fail
                go_ret
                exact ⟨by rw [HF.out]; rfl, HB1.out⟩
               | true =>
                have HS2 := hid (HSn.out rfl)
                go_wp2_with fail
                go_roundw
                case rel => exact ⟨q + 1, by omega, by go_num, HS2, HW1⟩
                case measure => simp [intOf]; omega
             · have hqn' : ¬ (q : Int) < (n1 : Int) := by omega
               have HSA := hid (all_sp (rs := rs) (fun j hj => HSp.out j (by have := HN1.out; omega)))
               rw [HSA.out, Bool.true_and] at HBad HNx
               go_wp2_with fail
               clear g4 g5
               go_loopw [7] (fun s wq => ∃ q : Nat, q ≤ n2 ∧ s = .int .i64 q ∧ Hid (∀ j, j < q → okM (ws.getD j im0) = true) ∧ Hid (Below W.heap.size W wq)) (fun s _ => n2 - (intOf s).toNat)
               case atStart => exact ⟨0, Nat.zero_le _, rfl, hid (fun j hj => by omega), HWq⟩
               case round =>
                clear HBq HWq HSp
                obtain ⟨r, hr, rfl, HOk, HWq⟩ := hrel
                have HBq := hid (HBA.out.trans (HWq.out.mono HBA.out.size))
                obtain ⟨-, -, g4, g5⟩ := HCG.out _ (HWq.out.block g HG.out.1)
                by_cases hrn : r < n2
                · have hrn' : (r : Int) < (n2 : Int) := by omega
                  have hr0 : (0 : Int) ≤ (r : Int) := by omega
                  obtain ⟨bb, oo, p1, d1, rfl, bx, q1, _, _, hf1⟩ := HR2.out.at (k := r) (by have := HN2.out; omega)
                  have hz1 := HSM.out.2 r
                  have HNo := hid (fun e => HBad.out (all_im_no (ws := ws) (i := r) (by have := HN2.out; omega) e))
                  have HSn := hid (fun (e : okM (ws.getD r im0) = true) j (hj : j < r + 1) => show okM (ws.getD j im0) = true from by
                   by_cases hc : j < r
                   · exact HOk.out j hc
                   · have : j = r := by omega
                     subst this; exact e)
                  have BX := (bx.below HBq.out (Nat.le_refl _))
                  have HCall := hid (fun W' => spec_KeyOk (ws.getD r im0).K (ws.getD r im0).N (ws.getD r im0).F p1 (ws.getD r im0).Z.length d1 hf1 hz1 W')
                  obtain ⟨S, hS⟩ : ∃ S, okM (ws.getD r im0) = S := ⟨_, rfl⟩
                  have HPair := hid (show okK (ws.getD r im0).K (ws.getD r im0).N (ws.getD r im0).F (ws.getD r im0).Z.length = S from hS)
                  rw [hS] at HNo HSn
                  clear bx q1 hf1 hz1 hS
                  generalize ws.getD r im0 = pp at *
                  obtain ⟨K1, N1, F1, Z1⟩ := pp
                  simp only at BX HCall HPair
                  obtain ⟨x0, x1, x2, x3⟩ := BX
                  try simp only at x0 x1 x2 x3
                  go_wp2_with fail
                  clear x0 x1 x2 x3 g4 g5
                  refine (HCall.out _).mono ?_
                  rintro e w1 ⟨rfl, b1⟩
                  rw [HPair.out]
                  have HW1 := hid (HWq.out.trans (b1.mono HWq.out.size))
                  have HB1 := hid (HBq.out.trans (b1.mono HBq.out.size))
                  clear b1
                  cases S with
                  | false =>
                   have HF := hid (HNo.out rfl)
                   go_wp2_with fail
                   go_ret
                   exact ⟨by rw [HF.out]; rfl, HB1.out⟩
                  | true =>
                   have HS2 := hid (HSn.out rfl)
                   go_wp2_with fail
                   go_roundw
                   case rel => exact ⟨r + 1, by omega, by go_num, HS2, HW1⟩
                   case measure => simp [intOf]; omega
                · have hrn' : ¬ (r : Int) < (n2 : Int) := by omega
                  have HWA := hid (all_im (ws := ws) (fun j hj => HOk.out j (by have := HN2.out; omega)))
                  have HNy := hid (HNx.out HWA.out)
                  go_wp2_with fail
                  clear g4 g5
                  go_loopw [8] (fun s wq => ∃ q : Nat, q ≤ p ∧ s = .int .i64 q ∧ Hid (∀ j, j < q → L.getD j 0 ≠ be ∧ L.getD j 0 ≠ en) ∧ Hid (Below W.heap.size W wq)) (fun s _ => p - (intOf s).toNat)
                  case atStart => exact ⟨0, Nat.zero_le _, rfl, hid (fun j hj => by omega), HWq⟩
                  case round =>
                   clear HBq HWq HOk
                   obtain ⟨v, hv, rfl, HDf, HWq⟩ := hrel
                   obtain ⟨wo, hwo⟩ : ∃ wo, wo = wr := ⟨_, rfl⟩
                   subst hwo
                   have HBq := hid (HBA.out.trans (HWq.out.mono HBA.out.size))
                   have HOq := hid (owns_below HWq.out (Nat.le_refl _) HOA.out)
                   obtain ⟨g1, g2, -, -⟩ := HCG.out _ (HWq.out.block g HG.out.1)
                   by_cases hvi : v < p
                   · have hvi' : (v : Int) < (p : Int) := by omega
                     have hv0 : (0 : Int) ≤ (v : Int) := by omega
                     obtain ⟨ab, hcell⟩ : ∃ ab, a = some ⟨ab, 0, none⟩ ∧ wo.cell? ⟨ab, v, none⟩ = some (.int .i64 (L.getD v 0)) := by
                      rcases HOq.out.2 with ⟨e, h0⟩ | ⟨gb, cp, cur, e, _⟩
                      · omega
                      · obtain ⟨rfl, -, -⟩ := Value.slice.inj e
                        refine ⟨gb, rfl, ?_⟩
                        have := HOq.out.cellAt v (by omega)
                        rw [getD_ins] at this
                        rw [this, List.getD_eq_getElem?_getD, List.getElem?_eq_getElem (by have := HTL.out; omega)]
                        rfl
                     obtain ⟨rfl, hcl⟩ := hcell
                     have HDp := hid (fun e => HDup.out (L.getD v 0) (at_mem14 (by have := HTL.out; omega)) e)
                     have HDn := hid (fun (e : L.getD v 0 ≠ be ∧ L.getD v 0 ≠ en) j (hj : j < v + 1) => show L.getD j 0 ≠ be ∧ L.getD j 0 ≠ en from by
                      by_cases hc : j < v
                      · exact HDf.out j hc
                      · have : j = v := by omega
                        subst this; exact e)
                     generalize L.getD v 0 = xv at *
                     by_cases hx1 : xv = be
                     · have HF := hid (HDp.out (.inl hx1))
                       have hq8 : (xv == be) = true := by simpa using hx1
                       clear hx1
                       go_wp2_with fail
                       go_quiet (fail)
                       go_wp2_with fail
                       go_ret
                       exact ⟨by rw [HF.out]; rfl, by first | exact bel_dN HBq.out _ | exact HBq.out.trans ((Still.drew _).below _)⟩
                     · have hq8 : (xv == be) = false := by simpa using hx1
                       by_cases hx2 : xv = en
                       · have HF := hid (HDp.out (.inr hx2))
                         have hq9 : (xv == en) = true := by simpa using hx2
                         clear hx1 hx2
                         go_wp2_with fail
                         go_quiet (fail)
                         go_wp2_with fail
                         go_ret
                         exact ⟨by rw [HF.out]; rfl, by first | exact bel_dN HBq.out _ | exact HBq.out.trans ((Still.drew _).below _)⟩
                       · have HS2 := hid (HDn.out ⟨hx1, hx2⟩)
                         have hq9 : (xv == en) = false := by simpa using hx2
                         clear hx1 hx2
                         go_wp2_with fail
                         go_quiet (fail)
                         go_wp2_with fail
                         go_roundw
                         case rel => exact ⟨v + 1, by omega, by go_num, HS2, by first | exact hid (bel_dN HWq.out _) | exact hid (HWq.out.trans ((Still.drew _).below _))⟩
                         case measure => simp [intOf]; omega
                   · have hvi' : ¬ (v : Int) < (p : Int) := by omega
                     have HNd := hid (show (L ++ [be] ++ [en]).Nodup from nodup_snoc2 HD.out (fun q => by obtain ⟨j, hj, e⟩ := mem_at14 q; exact (HDf.out j (by have := HTL.out; omega)).1 e) (fun q => by obtain ⟨j, hj, e⟩ := mem_at14 q; exact (HDf.out j (by have := HTL.out; omega)).2 e) (by have := HNy.out.1; omega))
                     have HNz := hid HNy.out.2
                     obtain ⟨s, hs⟩ : ∃ s, wo.heap.size = s := ⟨_, rfl⟩
                     have HS := hid hs
                     have bA := Below.alloc1 wo (.cells #[.int .i64 be] 3)
                     have HA1 := hid (heap_alloc_new wo (.cells #[.int .i64 be] 3))
                     have OA := hid (owns_below bA (Nat.le_refl _) HOq.out)
                     have BA := hid (HBq.out.trans (bA.mono HBq.out.size))
                     have ZA := hid (alloc_size wo (.cells #[.int .i64 be] 3))
                     have CA := hid ((bA.block g (by have := HG.out; have := HWq.out.size; omega)).trans (HWq.out.block g HG.out.1))
                     clear bA hs
                     go_wp2_with (at_builtin; refine wpList_append_row rfl _ _ 29 rfl w.heap.size 3 i0 (.int .i64 0) 1 8 Tryz.underlying29 hinf hz0 hz1 hz2 rfl (by decide) _ p (ins L) rfl OA.out (some ⟨wo.heap.size, 0, none⟩) 1 1 [.int .i64 be] rfl rfl (.inr ⟨_, rfl, World.news_of_block HA1.out⟩) (fun e => by cases e) ?k1 ?k2 ?k3 ?k4 ?_)
                     case k1 => simp [Value.oneCell']
                     case k2 => unfold maxLen; omega
                     case k3 => omega
                     case k4 => have := ZA.out; have := HBq.out.size; omega
                     intro a5 c5 w5 o5 hg5
                     have O5 := hid (show w5.ownsRow w.heap.size 3 1 (.slice a5 (p + 1) c5) (p + 1) (ins (L ++ [be])) by rw [ins_append]; exact o5)
                     have B5 := hid (BA.out.grown hg5 (by have := BA.out.size; omega) (fun r e => (OA.out.lt r e).1))
                     have hne : ∀ r, Value.ownBlock (.slice a p c) = some r → r ≠ g := fun r e e' => by
                      subst e'
                      have q1 := (OA.out.lt r e)
                      rcases OA.out.2 with ⟨ee, _⟩ | ⟨gb, cp, cur, ee, _, hcur, _⟩
                      · rw [ee] at e; cases e
                      · rw [ee] at e
                        cases e
                        have q2 := CA.out.trans RA.out
                        rw [hcur] at q2
                        cases q2
                     have C5 := hid ((hg5.block g (by have := HG.out; have := HWq.out.size; have := ZA.out; omega) (fun e => hne g e.symm rfl)).trans CA.out)
                     clear hg5 o5 hne g1 g2
                     obtain ⟨g1, g2, -, -⟩ := HCG.out _ C5.out
                     clear g1
                     have bA := Below.alloc1 w5 (.cells #[.int .i64 en] 3)
                     have HA2 := hid (heap_alloc_new w5 (.cells #[.int .i64 en] 3))
                     have OA2 := hid (owns_below bA (Nat.le_refl _) O5.out)
                     have BA2 := hid (B5.out.trans (bA.mono B5.out.size))
                     have ZA2 := hid (alloc_size w5 (.cells #[.int .i64 en] 3))
                     clear bA
                     go_wp2_with (at_builtin; refine wpList_append_row rfl _ _ 29 rfl w.heap.size 3 i0 (.int .i64 0) 1 8 Tryz.underlying29 hinf hz0 hz1 hz2 rfl (by decide) _ (p + 1) (ins (L ++ [be])) rfl OA2.out (some ⟨w5.heap.size, 0, none⟩) 1 1 [.int .i64 en] rfl rfl (.inr ⟨_, rfl, World.news_of_block HA2.out⟩) (fun e => by cases e) ?m1 ?m2 ?m3 ?m4 ?_)
                     case m1 => simp [Value.oneCell']
                     case m2 => unfold maxLen; omega
                     case m3 => omega
                     case m4 => have := ZA2.out; have := B5.out.size; omega
                     intro a6 c6 w6 o6 hg6
                     have O6 := hid (show w6.ownsRow w.heap.size 3 1 (.slice a6 (p + 1 + 1) c6) (p + 1 + 1) (ins (tmL (ts.take (i + 1)))) by rw [HSu.out, ins_append]; exact o6)
                     have B6 := hid (BA2.out.grown hg6 (by have := BA2.out.size; omega) (fun r e => (OA2.out.lt r e).1))
                     have HNd2 := hid (show (tmL (ts.take (i + 1))).Nodup by rw [HSu.out]; exact HNd.out)
                     clear o6 hg6 g2
                     go_wp2_with fail
                     go_roundw
                     case rel => exact ⟨i + 1, a6, p + 1 + 1, c6, by omega, by go_num, rfl, by have := HP.out; omega, HNz, HNd2, O6, B6⟩
                     case measure => simp [intOf]; omega
          · have k6' : (200 : Int) < (n2 : Int) := by omega
            have HF := hid (HBad.out (by rw [decide_eq_false k6, Bool.false_and]))
            clear k2 k3
            go_wp2_with fail
            go_ret
            exact ⟨by rw [HF.out]; rfl, HBA.out⟩
        · have k4' : (200 : Int) < (n1 : Int) := by omega
          have HF := hid (HBad.out (by rw [decide_eq_false k4, Bool.false_and]))
          clear k2 k3
          go_wp2_with fail
          go_ret
          exact ⟨by rw [HF.out]; rfl, HBA.out⟩
      · have k3' : en ≤ be := by omega
        have HF := hid (HBad.out (by rw [decide_eq_false k3, Bool.false_and]))
        clear k2 k3
        go_wp2_with fail
        go_ret
        exact ⟨by rw [HF.out]; rfl, HBA.out⟩
    · have k2' : be < 1 := by omega
      have HF := hid (HBad.out (by rw [decide_eq_false k2, Bool.false_and]))
      clear k2
      go_wp2_with fail
      go_ret
      exact ⟨by rw [HF.out]; rfl, HBA.out⟩
  · have hlt' : ¬ (i : Int) < (n : Int) := by omega
    have HT := hid (show V = true from HVV.out.symm.trans (deedsB_yes ⟨by omega, fun j hj => HA.out j (by omega), by have := HD.out; rwa [List.take_of_length_le (by omega)] at this⟩))
    go_wp2_with fail
    go_ret
    exact ⟨by rw [HT.out]; rfl, HB.out⟩
end Go.Proofs.YtnbpblephmjfnaaGreat