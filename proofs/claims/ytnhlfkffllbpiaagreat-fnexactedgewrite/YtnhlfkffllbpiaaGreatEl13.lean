/- Tracks that are right, plain, and the contract of the specification's TracksOk. Conditions: texts of at most 2^21 bytes. -/
import Derived.Test.YtnhlfkffllbpiaaGreatEk13
namespace Go.Proofs.YtnhlfkffllbpiaaGreat
open Go.RowKit
set_option maxRecDepth 100000
def trackB (t : Tk) : Bool := decide (1 ≤ t.xid ∧ t.xid ≤ 400) && (decide (1 ≤ t.begun) && (decide (t.ended = 0 ∨ t.begun < t.ended) && (decide (t.rs.length ≤ 6) && (decide (t.all = false ∨ t.rs.length = 0) && (decide (t.ws.length ≤ 200) && (t.rs.all spB && t.ws.all okM))))))
def okTs (ts : List Tk) : Prop := ts.length ≤ 64 ∧ ∀ i, i < ts.length → trackB (ts.getD i tk0) = true ∧ ∀ k, k < i → (ts.getD k tk0).xid ≠ (ts.getD i tk0).xid
open Classical in
noncomputable def tracksB (ts : List Tk) : Bool := decide (okTs ts)
theorem tracksB_yes {ts : List Tk} (h : okTs ts) : tracksB ts = true := by simp [tracksB, h]
theorem tracksB_no {ts : List Tk} (h : ¬ okTs ts) : tracksB ts = false := by simp [tracksB, h]
theorem tracksB_bad {ts : List Tk} {i : Nat} (hi : i < ts.length) (h : trackB (ts.getD i tk0) = false) : tracksB ts = false := tracksB_no (fun q => by rw [(q.2 i hi).1] at h; cases h)
theorem spec_in13 (n lo hi : Int) (w : World) : Calls Tryz.prog 44 #[.int .i64 n, .int .i64 lo, .int .i64 hi] w fun e w' => e = .returned (.bool (decide (lo ≤ n ∧ n ≤ hi))) ∧ w' = w := by
 by_cases h1 : lo ≤ n
 · by_cases h2 : n ≤ hi
   · rw [decide_eq_true ⟨h1, h2⟩]
     go_enter Tryz.func44, Tryz.ntmps44
     go_wp2
     go_ret
     exact ⟨rfl, rfl⟩
   · rw [decide_eq_false (fun q => h2 q.2)]
     go_enter Tryz.func44, Tryz.ntmps44
     go_wp2
     go_ret
     exact ⟨rfl, rfl⟩
 · rw [decide_eq_false (fun q => h1 q.1)]
   go_enter Tryz.func44, Tryz.ntmps44
   go_wp2
   go_ret
   exact ⟨rfl, rfl⟩
theorem all_sp {rs : List (Im × Im)} (h : ∀ i, i < rs.length → spB (rs.getD i sp0) = true) : rs.all spB = true := by
 rw [List.all_eq_true]
 intro p hp
 obtain ⟨i, hi, rfl⟩ := List.getElem_of_mem hp
 have := h i hi
 rwa [show rs.getD i sp0 = rs[i] by simp [List.getD, hi]] at this
theorem all_sp_no {rs : List (Im × Im)} {i : Nat} (hi : i < rs.length) (h : spB (rs.getD i sp0) = false) : rs.all spB = false := by
 rw [List.all_eq_false]
 refine ⟨rs[i], List.getElem_mem hi, ?_⟩
 rw [show rs.getD i sp0 = rs[i] by simp [List.getD, hi]] at h
 rw [h]; simp
theorem all_im {ws : List Im} (h : ∀ i, i < ws.length → okM (ws.getD i im0) = true) : ws.all okM = true := by
 rw [List.all_eq_true]
 intro p hp
 obtain ⟨i, hi, rfl⟩ := List.getElem_of_mem hp
 have := h i hi
 rwa [show ws.getD i im0 = ws[i] by simp [List.getD, hi]] at this
theorem all_im_no {ws : List Im} {i : Nat} (hi : i < ws.length) (h : okM (ws.getD i im0) = false) : ws.all okM = false := by
 rw [List.all_eq_false]
 refine ⟨ws[i], List.getElem_mem hi, ?_⟩
 rw [show ws.getD i im0 = ws[i] by simp [List.getD, hi]] at h
 rw [h]; simp
def smT (ts : List Tk) : Prop := ∀ i, (∀ j, ((fl2 (ts.getD i tk0).rs).getD j im0).Z.length ≤ 2097152) ∧ (∀ j, ((ts.getD i tk0).ws.getD j im0).Z.length ≤ 2097152)
set_option maxHeartbeats 12800000 in
theorem spec_TracksOk {ad : Option Addr} {n : Nat} (cap : Nat) {ts : List Tk} {w : World} (h : ReadsT w ad ts) (hl : ts.length = n) (hsm : smT ts) :
 Calls Tryz.prog 18 #[.slice ad n cap] w fun e w' => e = .returned (.bool (tracksB ts)) ∧ Below w.heap.size w w' := by
 by_cases hbig : 64 < n
 · have q : (64 : Int) < (n : Int) := by omega
   have HV := hid (tracksB_no (ts := ts) (fun q => by have := q.1; omega))
   go_enter Tryz.func18, Tryz.ntmps18
   go_wp2
   go_ret
   exact ⟨by rw [HV.out]; rfl, Below.refl _ _⟩
 have q : ¬ (64 : Int) < (n : Int) := by omega
 obtain ⟨V, hV⟩ : ∃ V, tracksB ts = V := ⟨_, rfl⟩
 rw [hV]
 have HVV := hid hV
 clear hV
 go_enter Tryz.func18, Tryz.ntmps18
 go_wp2
 go_loopw [3] (fun i wr => ∃ k : Nat, k ≤ n ∧ i = .int .i64 k ∧ Hid (∀ i, i < k → trackB (ts.getD i tk0) = true ∧ ∀ k, k < i → (ts.getD k tk0).xid ≠ (ts.getD i tk0).xid) ∧ Hid (Below w.heap.size w wr)) (fun i _ => n - (intOf i).toNat)
 case atStart => exact ⟨0, Nat.zero_le _, rfl, hid (fun i hi => by omega), hid (Below.refl _ _)⟩
 case round =>
  obtain ⟨i, hi, rfl, HA, HB⟩ := hrel
  by_cases hlt : i < n
  · have hlt' : (i : Int) < (n : Int) := by omega
    have hi0 : (0 : Int) ≤ (i : Int) := by omega
    obtain ⟨b, off, a1, c1, a2, c2, rfl, bx0, r1, hm1, r2, hm2⟩ := h.at (k := i) (by omega)
    unfold maxLen at hm1 hm2
    have bx := bx0.below HB.out (Nat.le_refl _)
    have HBad := hid (fun q => HVV.out.symm.trans (tracksB_bad (ts := ts) (i := i) (by omega) q))
    have HDup := hid (fun k (hk : k < i) (q : (ts.getD k tk0).xid = (ts.getD i tk0).xid) => HVV.out.symm.trans (tracksB_no (ts := ts) (fun o => (o.2 i (by omega)).2 k hk q)))
    have HNx := hid (fun (q1 : trackB (ts.getD i tk0) = true) (q2 : ∀ k, k < i → (ts.getD k tk0).xid ≠ (ts.getD i tk0).xid) j (hj : j < i + 1) => show trackB (ts.getD j tk0) = true ∧ ∀ k, k < j → (ts.getD k tk0).xid ≠ (ts.getD j tk0).xid from by
     by_cases hc : j < i
     · exact HA.out j hc
     · have : j = i := by omega
       subst this; exact ⟨q1, q2⟩)
    obtain ⟨sm1, sm2⟩ := hsm i
    have HR1 := hid r1
    have HR2 := hid r2
    have HSM := hid (And.intro sm1 sm2)
    generalize ts.getD i tk0 = t at *
    obtain ⟨xi, be, en, al, rs, ws, inn, ou⟩ := t
    simp only at bx HR1 HR2 HSM hm1 hm2 HDup HNx
    obtain ⟨n1, hn1⟩ : ∃ n1, rs.length = n1 := ⟨_, rfl⟩
    obtain ⟨n2, hn2⟩ : ∃ n2, ws.length = n2 := ⟨_, rfl⟩
    have HN1 := hid hn1
    have HN2 := hid hn2
    have HTr := hid (show trackB ⟨xi, be, en, al, rs, ws, inn, ou⟩ = (decide (1 ≤ xi ∧ xi ≤ 400) && (decide (1 ≤ be) && (decide (en = 0 ∨ be < en) && (decide (n1 ≤ 6) && (decide (al = false ∨ n1 = 0) && (decide (n2 ≤ 200) && (rs.all spB && ws.all okM))))))) by unfold trackB; simp only [hn1, hn2])
    rw [HTr.out] at HBad HNx
    simp only [hn1] at bx hm1
    simp only [hn2] at bx hm2
    have bA := Below.alloc1 wr (.cells #[.int .i64 xi, .int .i64 be, .int .i64 en, .bool al, .slice a1 n1 c1, .slice a2 n2 c2, .bool inn, .bool ou] 52)
    have RA := hid (heap_alloc_new wr (.cells #[.int .i64 xi, .int .i64 be, .int .i64 en, .bool al, .slice a1 n1 c1, .slice a2 n2 c2, .bool inn, .bool ou] 52))
    have ZA := hid (alloc_size wr (.cells #[.int .i64 xi, .int .i64 be, .int .i64 en, .bool al, .slice a1 n1 c1, .slice a2 n2 c2, .bool inn, .bool ou] 52))
    have HBA := hid (HB.out.trans (bA.mono HB.out.size))
    obtain ⟨c0, c1', c2', c3, c4, c5, c6, c7⟩ := bx
    simp only at c0 c1' c2' c3 c6 c7
    clear bx0 r1 r2 sm1 sm2 hn1 hn2 bA HTr
    go_wp2_with fail
    clear c0 c1' c2' c3 c4 c5 c6 c7
    generalize wr.alloc (.cells #[.int .i64 xi, .int .i64 be, .int .i64 en, .bool al, .slice a1 n1 c1, .slice a2 n2 c2, .bool inn, .bool ou] 52) = W at *
    obtain ⟨g, hg⟩ : ∃ g, wr.heap.size = g := ⟨_, rfl⟩
    rw [hg] at RA
    try simp only [hg]
    have HG := hid (show g < W.heap.size by have := ZA.out; omega)
    clear hg ZA
    have cellsG : ∀ U : World, U.heap[g]? = W.heap[g]? → (U.cell? ⟨g, 0, none⟩ = some (.int .i64 xi) ∧ U.cell? ⟨g, 1, none⟩ = some (.int .i64 be) ∧ U.cell? ⟨g, 2, none⟩ = some (.int .i64 en) ∧ U.cell? ⟨g, 3, none⟩ = some (.bool al)) ∧ U.cell? ⟨g, 4, none⟩ = some (.slice a1 n1 c1) ∧ U.cell? ⟨g, 5, none⟩ = some (.slice a2 n2 c2) := fun U e => by
     have r := e.trans RA.out
     refine ⟨⟨?_, ?_, ?_, ?_⟩, ?_, ?_⟩ <;> (rw [cell_of_row _ _ _ _ _ _ r]; rfl)
    have HCG := hid cellsG
    obtain ⟨⟨g0, g1, g2, g3⟩, g4, g5⟩ := cellsG W rfl
    clear cellsG
    refine (spec_in13 xi 1 400 W).mono ?_
    rintro e w1 ⟨rfl, e1⟩
    subst w1
    by_cases k1 : 1 ≤ xi ∧ xi ≤ 400
    · rw [decide_eq_true k1, Bool.true_and] at HBad HNx
      rw [decide_eq_true k1]
      clear k1
      by_cases k2 : 1 ≤ be
      · have k2' : ¬ be < 1 := by omega
        rw [decide_eq_true k2, Bool.true_and] at HBad HNx
        by_cases k3 : en = 0 ∨ be < en
        · rw [decide_eq_true k3, Bool.true_and] at HBad HNx
          have k3' : ((en != 0) = false) ∨ ((en != 0) = true ∧ ¬ en ≤ be) := by
           by_cases e0 : en = 0
           · exact .inl (by simpa using e0)
           · exact .inr ⟨by simpa using e0, by omega⟩
          by_cases k4 : n1 ≤ 6
          · have k4' : ¬ (6 : Int) < (n1 : Int) := by omega
            rw [decide_eq_true k4, Bool.true_and] at HBad HNx
            by_cases k5 : al = false ∨ n1 = 0
            · rw [decide_eq_true k5, Bool.true_and] at HBad HNx
              have k5' : (al = false) ∨ (al = true ∧ decide ((0 : Int) < (n1 : Int)) = false ∧ decide (0 < n1) = false) := by
               cases al with
               | false => exact .inl rfl
               | true =>
                rcases k5 with q | q
                · cases q
                · exact .inr ⟨rfl, decide_eq_false (by omega), decide_eq_false (by omega)⟩
              by_cases k6 : n2 ≤ 200
              · have k6' : ¬ (200 : Int) < (n2 : Int) := by omega
                rw [decide_eq_true k6, Bool.true_and] at HBad HNx
                clear k2 k3 k5
                have HK3 := hid k3'
                have HK5 := hid k5'
                clear k3' k5'
                have hgo : ∀ (Z : Prop), (((en != 0) = false) ∨ ((en != 0) = true ∧ ¬ en ≤ be)) → True := fun _ _ => trivial
                clear hgo
                rcases HK3.out with k3' | ⟨k3', k3a⟩ <;> rcases HK5.out with rfl | ⟨rfl, k5a, k5e⟩
                all_goals (
                 go_wp2_with fail
                 clear g0 g1 g2 g3 g4 g5
                 try clear k5a k5e
                 go_loopw [5] (fun s wq => ∃ q : Nat, q ≤ n1 ∧ s = .int .i64 q ∧ Hid (∀ j, j < q → spB (rs.getD j sp0) = true) ∧ Hid (Below W.heap.size W wq)) (fun s _ => n1 - (intOf s).toNat)
                 case atStart => exact ⟨0, Nat.zero_le _, rfl, hid (fun j hj => by omega), hid (Below.refl _ _)⟩
                 case round =>
                  obtain ⟨q, hq, rfl, HSp, HWq⟩ := hrel
                  have HBq := hid (HBA.out.trans (HWq.out.mono HBA.out.size))
                  obtain ⟨-, g4, g5⟩ := HCG.out wr (HWq.out.block g HG.out)
                  by_cases hqn : q < n1
                  · have hqn' : (q : Int) < (n1 : Int) := by omega
                    have hq0 : (0 : Int) ≤ (q : Int) := by omega
                    have hl2 : (fl2 rs).length = n1 * 2 := by rw [fl2_len, HN1.out]
                    obtain ⟨bb, oo, p1, d1, rfl, bx, q1, _, _, hf1⟩ := HR1.out.at (k := q * 2) (by omega)
                    obtain ⟨bb', oo', p2, d2, e', by', q2, _, _, hf2⟩ := HR1.out.at (k := q * 2 + 1) (by omega)
                    obtain ⟨rfl, rfl⟩ : bb = bb' ∧ oo = oo' := by simpa using e'
                    have hz1 := HSM.out.1 (q * 2)
                    have hz2 := HSM.out.1 (q * 2 + 1)
                    have hat := fl2_at rs q
                    rw [hat.1] at bx q1 hf1 hz1
                    rw [hat.2] at by' q2 hf2 hz2
                    have HNo := hid (fun e => HBad.out (by rw [all_sp_no (rs := rs) (i := q) (by have := HN1.out; omega) e, Bool.false_and]))
                    have HSn := hid (fun (e : spB (rs.getD q sp0) = true) j (hj : j < q + 1) => show spB (rs.getD j sp0) = true from by
                     by_cases hc : j < q
                     · exact HSp.out j hc
                     · have : j = q := by omega
                       subst this; exact e)
                    have BX := (bx.below HBq.out (Nat.le_refl _))
                    have BY := (by'.below HBq.out (Nat.le_refl _))
                    have Q1 := hid (q1.below HBq.out (Nat.le_refl _))
                    have Q2 := hid (q2.below HBq.out (Nat.le_refl _))
                    rw [show oo + q * 2 * 4 = oo + q * 8 by omega] at BX
                    rw [show oo + (q * 2 + 1) * 4 = oo + q * 8 + 4 by omega] at BY
                    have HCall := hid (fun W' (r1 : Reads W' p1 (rs.getD q sp0).1.Z.length (rs.getD q sp0).1.Z) (r2 : Reads W' p2 (rs.getD q sp0).2.Z.length (rs.getD q sp0).2.Z) => spec_SpanOk (rs.getD q sp0).1 (rs.getD q sp0).2 d1 d2 r1 r2 hf1 hf2 hz1 hz2)
                    obtain ⟨S, hS⟩ : ∃ S, spB (rs.getD q sp0) = S := ⟨_, rfl⟩
                    have HPair := hid (show spB ((rs.getD q sp0).1, (rs.getD q sp0).2) = S from hS)
                    rw [hS] at HNo HSn
                    clear bx by' q1 q2 hf1 hf2 hz1 hz2 hat hl2 e' hS
                    generalize rs.getD q sp0 = pp at *
                    obtain ⟨⟨K1, N1, F1, Z1⟩, K2, N2, F2, Z2⟩ := pp
                    simp only at BX BY Q1 Q2 HCall HPair
                    obtain ⟨x0, x1, x2, x3⟩ := BX
                    obtain ⟨x4, x5, x6, x7⟩ := BY
                    try simp only at x0 x1 x2 x3 x4 x5 x6 x7
                    go_wp2_with fail
                    clear x0 x1 x2 x3 x4 x5 x6 x7 g4 g5
                    refine (HCall.out _ Q1.out Q2.out).mono ?_
                    rintro e w1 ⟨rfl, b1⟩
                    rw [HPair.out]
                    have HW1 := hid (HWq.out.trans (b1.mono HWq.out.size))
                    have HB1 := hid (HBq.out.trans (b1.mono HBq.out.size))
                    clear b1
                    cases S with
                    | false =>
                     have HF := hid (HNo.out rfl)
                     go_wp2_with fail
                     go_ret
                     exact ⟨by rw [HF.out]; rfl, HB1.out⟩
                    | true =>
                     have HS2 := hid (HSn.out rfl)
                     go_wp2_with fail
                     go_roundw
                     case rel => exact ⟨q + 1, by omega, by go_num, HS2, HW1⟩
                     case measure => simp [intOf]; omega
                  · have hqn' : ¬ (q : Int) < (n1 : Int) := by omega
                    have HSA := hid (all_sp (rs := rs) (fun j hj => HSp.out j (by have := HN1.out; omega)))
                    rw [HSA.out, Bool.true_and] at HBad HNx
                    go_wp2_with fail
                    clear g4 g5
                    go_loopw [6] (fun s wq => ∃ q : Nat, q ≤ n2 ∧ s = .int .i64 q ∧ Hid (∀ j, j < q → okM (ws.getD j im0) = true) ∧ Hid (Below W.heap.size W wq)) (fun s _ => n2 - (intOf s).toNat)
                    case atStart => exact ⟨0, Nat.zero_le _, rfl, hid (fun j hj => by omega), HWq⟩
                    case round =>
                     clear HBq HWq HSp
                     obtain ⟨r, hr, rfl, HOk, HWq⟩ := hrel
                     have HBq := hid (HBA.out.trans (HWq.out.mono HBA.out.size))
                     obtain ⟨-, g4, g5⟩ := HCG.out _ (HWq.out.block g HG.out)
                     by_cases hrn : r < n2
                     · have hrn' : (r : Int) < (n2 : Int) := by omega
                       have hr0 : (0 : Int) ≤ (r : Int) := by omega
                       obtain ⟨bb, oo, p1, d1, rfl, bx, q1, _, _, hf1⟩ := HR2.out.at (k := r) (by have := HN2.out; omega)
                       have hz1 := HSM.out.2 r
                       have HNo := hid (fun e => HBad.out (all_im_no (ws := ws) (i := r) (by have := HN2.out; omega) e))
                       have HSn := hid (fun (e : okM (ws.getD r im0) = true) j (hj : j < r + 1) => show okM (ws.getD j im0) = true from by
                        by_cases hc : j < r
                        · exact HOk.out j hc
                        · have : j = r := by omega
                          subst this; exact e)
                       have BX := (bx.below HBq.out (Nat.le_refl _))
                       have HCall := hid (fun W' => spec_KeyOk (ws.getD r im0).K (ws.getD r im0).N (ws.getD r im0).F p1 (ws.getD r im0).Z.length d1 hf1 hz1 W')
                       obtain ⟨S, hS⟩ : ∃ S, okM (ws.getD r im0) = S := ⟨_, rfl⟩
                       have HPair := hid (show okK (ws.getD r im0).K (ws.getD r im0).N (ws.getD r im0).F (ws.getD r im0).Z.length = S from hS)
                       rw [hS] at HNo HSn
                       clear bx q1 hf1 hz1 hS
                       generalize ws.getD r im0 = pp at *
                       obtain ⟨K1, N1, F1, Z1⟩ := pp
                       simp only at BX HCall HPair
                       obtain ⟨x0, x1, x2, x3⟩ := BX
                       try simp only at x0 x1 x2 x3
                       go_wp2_with fail
                       clear x0 x1 x2 x3 g4 g5
                       refine (HCall.out _).mono ?_
                       rintro e w1 ⟨rfl, b1⟩
                       rw [HPair.out]
                       have HW1 := hid (HWq.out.trans (b1.mono HWq.out.size))
                       have HB1 := hid (HBq.out.trans (b1.mono HBq.out.size))
                       clear b1
                       cases S with
                       | false =>
                        have HF := hid (HNo.out rfl)
                        go_wp2_with fail
                        go_ret
                        exact ⟨by rw [HF.out]; rfl, HB1.out⟩
                       | true =>
                        have HS2 := hid (HSn.out rfl)
                        go_wp2_with fail
                        go_roundw
                        case rel => exact ⟨r + 1, by omega, by go_num, HS2, HW1⟩
                        case measure => simp [intOf]; omega
                     · have hrn' : ¬ (r : Int) < (n2 : Int) := by omega
                       have HWA := hid (all_im (ws := ws) (fun j hj => HOk.out j (by have := HN2.out; omega)))
                       have HNy := hid (HNx.out HWA.out)
                       go_wp2_with fail
                       clear g4 g5
                       go_loopw [7] (fun s wq => ∃ q : Nat, q ≤ i ∧ s = .int .i64 q ∧ Hid (∀ j, j < q → (ts.getD j tk0).xid ≠ xi) ∧ Hid (Below W.heap.size W wq)) (fun s _ => i - (intOf s).toNat)
                       case atStart => exact ⟨0, Nat.zero_le _, rfl, hid (fun j hj => by omega), HWq⟩
                       case round =>
                        clear HBq HWq HOk
                        obtain ⟨v, hv, rfl, HDf, HWq⟩ := hrel
                        have HBq := hid (HBA.out.trans (HWq.out.mono HBA.out.size))
                        obtain ⟨⟨g0, -, -, -⟩, -, -⟩ := HCG.out _ (HWq.out.block g HG.out)
                        by_cases hvi : v < i
                        · have hvi' : (v : Int) < (i : Int) := by omega
                          have hvn : (v : Int) < (n : Int) := by omega
                          have hv0 : (0 : Int) ≤ (v : Int) := by omega
                          obtain ⟨bb, oo, _, _, _, _, e', bx, _, _, _, _⟩ := h.at (k := v) (by omega)
                          obtain ⟨rfl, rfl⟩ : b = bb ∧ off = oo := by simpa using e'
                          have BX := (bx.below HBq.out (Nat.le_refl _)).c0
                          have HDp := hid (fun e => HDup.out v hvi e)
                          have HDn := hid (fun (e : (ts.getD v tk0).xid ≠ xi) j (hj : j < v + 1) => show (ts.getD j tk0).xid ≠ xi from by
                           by_cases hc : j < v
                           · exact HDf.out j hc
                           · have : j = v := by omega
                             subst this; exact e)
                          generalize (ts.getD v tk0).xid = xv at *
                          clear bx e'
                          by_cases hxx : xv = xi
                          · have HF := hid (HDp.out hxx)
                            have hq8 : (xv == xi) = true := by simpa using hxx
                            clear hxx
                            go_wp2_with fail
                            go_quiet (fail)
                            go_wp2_with fail
                            go_ret
                            exact ⟨by rw [HF.out]; rfl, by first | exact bel_dN HBq.out _ | exact HBq.out.trans ((Still.drew _).below _)⟩
                          · have HS2 := hid (HDn.out hxx)
                            have hq8 : (xv == xi) = false := by simpa using hxx
                            clear hxx
                            go_wp2_with fail
                            go_quiet (fail)
                            go_wp2_with fail
                            go_roundw
                            case rel => exact ⟨v + 1, by omega, by go_num, HS2, by first | exact hid (bel_dN HWq.out _) | exact hid (HWq.out.trans ((Still.drew _).below _))⟩
                            case measure => simp [intOf]; omega
                        · have hvi' : ¬ (v : Int) < (i : Int) := by omega
                          have HNz := hid (HNy.out (fun j hj => HDf.out j (by omega)))
                          clear g0
                          go_wp2_with fail
                          go_roundw
                          case rel => exact ⟨i + 1, by omega, by go_num, HNz, HBq⟩
                          case measure => simp [intOf]; omega)
              · have k6' : (200 : Int) < (n2 : Int) := by omega
                have HF := hid (HBad.out (by rw [decide_eq_false k6, Bool.false_and]))
                clear k2 k3 k5 k6
                rcases k3' with k3' | ⟨k3', k3a⟩ <;> rcases k5' with rfl | ⟨rfl, k5a, k5e⟩
                all_goals (
                 go_wp2_with fail
                 go_ret
                 exact ⟨by rw [HF.out]; rfl, HBA.out⟩)
            · have HF := hid (HBad.out (by rw [decide_eq_false k5, Bool.false_and]))
              have k5b : al = true := by
               cases al with
               | true => rfl
               | false => exact absurd (.inl rfl) k5
              have k5c : (0 : Int) < (n1 : Int) := by
               by_cases e0 : n1 = 0
               · exact absurd (.inr e0) k5
               · omega
              have k5d : 0 < n1 := by omega
              clear k2 k3 k5
              subst k5b
              rcases k3' with k3' | ⟨k3', k3a⟩
              all_goals (
               go_wp2_with fail
               go_ret
               exact ⟨by rw [HF.out]; rfl, HBA.out⟩)
          · have k4' : (6 : Int) < (n1 : Int) := by omega
            have HF := hid (HBad.out (by rw [decide_eq_false k4, Bool.false_and]))
            clear k2 k3 k4
            rcases k3' with k3' | ⟨k3', k3a⟩
            all_goals (
             go_wp2_with fail
             go_ret
             exact ⟨by rw [HF.out]; rfl, HBA.out⟩)
        · have HF := hid (HBad.out (by rw [decide_eq_false k3, Bool.false_and]))
          have k3a : (en != 0) = true := by
           have : ¬ en = 0 := fun q => k3 (.inl q)
           simpa using this
          have k3b : en ≤ be := by
           have : ¬ be < en := fun q => k3 (.inr q)
           omega
          clear k2 k3
          go_wp2_with fail
          go_ret
          exact ⟨by rw [HF.out]; rfl, HBA.out⟩
      · have k2' : be < 1 := by omega
        have HF := hid (HBad.out (by rw [decide_eq_false k2, Bool.false_and]))
        clear k2
        go_wp2_with fail
        go_ret
        exact ⟨by rw [HF.out]; rfl, HBA.out⟩
    · have HF := hid (HBad.out (by rw [decide_eq_false k1, Bool.false_and]))
      rw [decide_eq_false k1]
      clear k1
      go_wp2_with fail
      go_ret
      exact ⟨by rw [HF.out]; rfl, HBA.out⟩
  · have hlt' : ¬ (i : Int) < (n : Int) := by omega
    have HT := hid (show V = true from HVV.out.symm.trans (tracksB_yes ⟨by omega, fun j hj => HA.out j (by omega)⟩))
    go_wp2_with fail
    go_ret
    exact ⟨by rw [HT.out]; rfl, HB.out⟩
end Go.Proofs.YtnhlfkffllbpiaaGreat