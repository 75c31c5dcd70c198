/- The contracts of the program's isTrack and TracksOk. Conditions: texts of at most 2^21 bytes. -/
import Derived.Test.YtnhlfkffllbpiaaGreatFc13
namespace Go.Proofs.YtnhlfkffllbpiaaGreat
open Go.RowKit
set_option maxRecDepth 100000
theorem within13 (n lo hi : Int) (w : World) : Calls Tryz.prog 95 #[.int .i64 n, .int .i64 lo, .int .i64 hi] w fun e w' => e = .returned (.bool (decide (lo ≤ n ∧ n ≤ hi))) ∧ w' = w := by
 by_cases h1 : lo ≤ n
 · by_cases h2 : n ≤ hi
   · rw [decide_eq_true ⟨h1, h2⟩]
     go_enter Tryz.func95, Tryz.ntmps95
     go_wp2
     go_ret
     exact ⟨rfl, rfl⟩
   · rw [decide_eq_false (fun q => h2 q.2)]
     go_enter Tryz.func95, Tryz.ntmps95
     go_wp2
     go_ret
     exact ⟨rfl, rfl⟩
 · rw [decide_eq_false (fun q => h1 q.1)]
   go_enter Tryz.func95, Tryz.ntmps95
   go_wp2
   go_ret
   exact ⟨rfl, rfl⟩
set_option maxHeartbeats 6400000 in
theorem impl_isTrack (xi be en : Int) (al inn ou : Bool) {rs : List (Im × Im)} {ws : List Im} {a1 : Option Addr} {n1 : Nat} (c1 : Nat) {a2 : Option Addr} {n2 : Nat} (c2 : Nat) {w : World} (h : ReadsM w a1 (fl2 rs)) (hl : rs.length = n1) (hs : ∀ i, ((fl2 rs).getD i im0).Z.length ≤ 2097152) (h' : ReadsM w a2 ws) (hl' : ws.length = n2) (hs' : ∀ i, (ws.getD i im0).Z.length ≤ 2097152) :
 Calls Tryz.prog 80 #[.agg #[.int .i64 xi, .int .i64 be, .int .i64 en, .bool al, .slice a1 n1 c1, .slice a2 n2 c2, .bool inn, .bool ou]] w fun e w' => e = .returned (.bool (trackB ⟨xi, be, en, al, rs, ws, inn, ou⟩)) ∧ Below w.heap.size w w' := by
 obtain ⟨V, hV⟩ : ∃ V, trackB ⟨xi, be, en, al, rs, ws, inn, ou⟩ = V := ⟨_, rfl⟩
 rw [hV]
 have HV := hid (show V = (decide (1 ≤ xi ∧ xi ≤ 400) && (decide (1 ≤ be) && (lastB ⟨xi, be, en, al, rs, ws, inn, ou⟩ be && (rdsB ⟨xi, be, en, al, rs, ws, inn, ou⟩ && wrsB ⟨xi, be, en, al, rs, ws, inn, ou⟩)))) by rw [← hV, trackB_of])
 have HB := hid (Below.alloc1 w (.cells #[.int .i64 xi, .int .i64 be, .int .i64 en, .bool al, .slice a1 n1 c1, .slice a2 n2 c2, .bool inn, .bool ou] 52))
 have HA := hid (BoxK.row (heap_alloc_new w (.cells #[.int .i64 xi, .int .i64 be, .int .i64 en, .bool al, .slice a1 n1 c1, .slice a2 n2 c2, .bool inn, .bool ou] 52)))
 have HR := hid h
 have HW := hid h'
 have HL := hid hl
 have HL' := hid hl'
 have HS := hid hs
 have HS' := hid hs'
 clear h h' hl hl' hs hs' hV
 go_enter Tryz.func80, Tryz.ntmps80
 go_wp2_with fail
 refine (within13 xi 1 400 _).mono ?_
 rintro e w1 ⟨rfl, e1⟩
 subst e1
 cases hv1 : decide (1 ≤ xi ∧ xi ≤ 400) with
 | false =>
  replace HV := hid (show V = false by rw [HV.out, hv1, Bool.false_and])
  clear hv1
  go_wp2_with fail
  go_ret
  exact ⟨by rw [HV.out]; rfl, HB.out⟩
 | true =>
  replace HV := hid (show V = (decide (1 ≤ be) && (lastB ⟨xi, be, en, al, rs, ws, inn, ou⟩ be && (rdsB ⟨xi, be, en, al, rs, ws, inn, ou⟩ && wrsB ⟨xi, be, en, al, rs, ws, inn, ou⟩))) by rw [HV.out, hv1, Bool.true_and])
  clear hv1
  by_cases hb : 1 ≤ be
  · replace HV := hid (show V = (lastB ⟨xi, be, en, al, rs, ws, inn, ou⟩ be && (rdsB ⟨xi, be, en, al, rs, ws, inn, ou⟩ && wrsB ⟨xi, be, en, al, rs, ws, inn, ou⟩)) by rw [HV.out, decide_eq_true hb, Bool.true_and])
    go_wp2_with fail
    refine (impl_lastsPast ⟨xi, be, en, al, rs, ws, inn, ou⟩ (.slice a1 n1 c1) (.slice a2 n2 c2) be _).mono ?_
    rintro e w2 ⟨rfl, b2⟩
    replace HA := hid (HA.out.below b2 (Nat.le_refl _))
    replace HB := hid (HB.out.trans (b2.mono HB.out.size))
    clear b2
    obtain ⟨y0, y1, y2, y3, y4, y5, y6, y7⟩ := HA.out
    cases hv2 : lastB ⟨xi, be, en, al, rs, ws, inn, ou⟩ be with
    | false =>
     replace HV := hid (show V = false by rw [HV.out, hv2, Bool.false_and])
     clear hv2
     go_wp2_with fail
     go_ret
     exact ⟨by rw [HV.out]; rfl, HB.out⟩
    | true =>
     replace HV := hid (show V = (rdsB ⟨xi, be, en, al, rs, ws, inn, ou⟩ && wrsB ⟨xi, be, en, al, rs, ws, inn, ou⟩) by rw [HV.out, hv2, Bool.true_and])
     clear hv2
     go_wp2_with fail
     clear y0 y1 y2 y3 y4 y5 y6 y7
     refine (impl_hasReadsOk xi be en al inn ou c1 (.slice a2 n2 c2) (ws := ws) (HR.out.below HB.out (Nat.le_refl _)) HL.out HS.out).mono ?_
     rintro e w3 ⟨rfl, b2⟩
     replace HA := hid (HA.out.below b2 (Nat.le_refl _))
     replace HB := hid (HB.out.trans (b2.mono HB.out.size))
     clear b2
     obtain ⟨y0, y1, y2, y3, y4, y5, y6, y7⟩ := HA.out
     cases hv3 : rdsB ⟨xi, be, en, al, rs, ws, inn, ou⟩ with
     | false =>
      replace HV := hid (show V = false by rw [HV.out, hv3, Bool.false_and])
      clear hv3
      go_wp2_with fail
      go_ret
      exact ⟨by rw [HV.out]; rfl, HB.out⟩
     | true =>
      replace HV := hid (show V = wrsB ⟨xi, be, en, al, rs, ws, inn, ou⟩ by rw [HV.out, hv3, Bool.true_and])
      clear hv3
      go_wp2_with fail
      clear y0 y1 y2 y3 y4 y5 y6 y7
      refine (impl_hasWritesOk xi be en al inn ou (.slice a1 n1 c1) (rs := rs) c2 (HW.out.below HB.out (Nat.le_refl _)) HL'.out HS'.out).mono ?_
      rintro e w4 ⟨rfl, b2⟩
      replace HB := hid (HB.out.trans (b2.mono HB.out.size))
      clear b2
      go_wp2_with fail
      go_ret
      exact ⟨by rw [HV.out]; rfl, HB.out⟩
  · replace HV := hid (show V = false by rw [HV.out, decide_eq_false hb, Bool.false_and])
    go_wp2_with fail
    go_ret
    exact ⟨by rw [HV.out]; rfl, HB.out⟩
theorem set_size13 (w : World) (a : Addr) (u : Value) : (w.setCell a u).heap.size = w.heap.size := by simp
def tkA (S : Nat → Bool) : Array Value := ((List.range 401).map (fun i => Value.bool (S i))).toArray
theorem tkA_at (S : Nat → Bool) {i : Nat} (h : i < 401) : (tkA S)[i]? = some (.bool (S i)) := by simp [tkA, h]
theorem tkA_set (S : Nat → Bool) (k : Nat) : (tkA S).setIfInBounds k (.bool true) = tkA (fun i => decide (i = k) || S i) := by
 unfold tkA
 rw [List.setIfInBounds_toArray]
 congr 1
 apply List.ext_getElem?
 intro i
 rw [List.getElem?_set]
 by_cases h : k = i
 · subst h
   by_cases hk : k < 401
   · simp [hk]
   · simp [hk]
 · rw [if_neg h, List.getElem?_map, List.getElem?_map]
   by_cases hi : i < 401
   · have : ¬ i = k := fun e => h e.symm
     simp [hi, this]
   · simp [hi]
theorem zeroTaken (w : World) : (zeroValue 103).run Tryz.prog w = .ok (.agg (tkA (fun _ => false))) w := by kernel_rfl
def tkS (ts : List Tk) (k : Nat) : Nat → Bool := fun i => (List.range k).any (fun j => decide ((ts.getD j tk0).xid = (i : Int)))
theorem tkS_zero (ts : List Tk) : tkS ts 0 = fun _ => false := by funext i; simp [tkS]
theorem tkS_succ (ts : List Tk) (k m : Nat) (h : (ts.getD k tk0).xid = (m : Int)) : tkS ts (k + 1) = fun i => decide (i = m) || tkS ts k i := by
 funext i
 unfold tkS
 rw [List.range_succ, List.any_append, Bool.or_comm]
 congr 1
 simp only [List.any_cons, List.any_nil, Bool.or_false, h]
 rw [Bool.eq_iff_iff, decide_eq_true_iff, decide_eq_true_iff]
 omega
theorem tkS_no {ts : List Tk} {k m : Nat} (h : (ts.getD k tk0).xid = (m : Int)) (hf : tkS ts k m = false) : ∀ j, j < k → (ts.getD j tk0).xid ≠ (ts.getD k tk0).xid := by
 intro j hj e
 unfold tkS at hf
 rw [List.any_eq_false] at hf
 have := hf j (List.mem_range.2 hj)
 rw [decide_eq_true_iff] at this
 exact this (e.trans h)
theorem tkS_yes {ts : List Tk} {k m : Nat} (h : (ts.getD k tk0).xid = (m : Int)) (hf : tkS ts k m = true) : ∃ j, j < k ∧ (ts.getD j tk0).xid = (ts.getD k tk0).xid := by
 unfold tkS at hf
 rw [List.any_eq_true] at hf
 obtain ⟨j, hj, e⟩ := hf
 exact ⟨j, List.mem_range.1 hj, (of_decide_eq_true e).trans h.symm⟩
set_option maxHeartbeats 6400000 in
theorem impl_TracksOk {a : Option Addr} {n : Nat} (c : Nat) {ts : List Tk} {w : World} (h : ReadsT w a ts) (hl : ts.length = n) (hsm : smT ts) (_ : bdTs ts) :
 Calls Tryz.prog 54 #[.slice a n c] w fun e w' => e = .returned (.bool (tracksB ts)) ∧ Below w.heap.size w w' := by
 by_cases hbig : 64 < n
 · have q : (64 : Int) < (n : Int) := by omega
   have HV := hid (tracksB_no (ts := ts) (fun q => by have := q.1; omega))
   go_enter Tryz.func54, Tryz.ntmps54
   go_wp2
   go_ret
   exact ⟨by rw [HV.out]; rfl, Below.refl _ _⟩
 have q : ¬ (64 : Int) < (n : Int) := by omega
 obtain ⟨V, hV⟩ : ∃ V, tracksB ts = V := ⟨_, rfl⟩
 rw [hV]
 have HVV := hid hV
 have HRT := hid h
 have HL := hid hl
 have HSM := hid hsm
 clear hV h hl hsm
 have hz := zeroTaken
 go_enter Tryz.func54, Tryz.ntmps54
 go_wp2
 clear hz
 go_loopw [11] (fun i wr => ∃ k : Nat, k ≤ n ∧ i = .int .i64 k ∧ Hid (∀ i, i < k → trackB (ts.getD i tk0) = true ∧ ∀ k, k < i → (ts.getD k tk0).xid ≠ (ts.getD i tk0).xid) ∧ Hid (wr.heap[w.heap.size]? = some (.cells (tkA (tkS ts k)) 103)) ∧ Hid (Below w.heap.size w wr) ∧ w.heap.size < wr.heap.size) (fun i _ => n - (intOf i).toNat)
 case atStart => exact ⟨0, Nat.zero_le _, rfl, hid (fun i hi => by omega), hid (by rw [tkS_zero]; exact heap_alloc_new _ _), hid (Below.alloc1 _ _), by rw [alloc_size]; omega⟩
 case round =>
  obtain ⟨k, hk, rfl, HA, HT, HB, hsz⟩ := hrel
  by_cases hlt : k < n
  · have hlt' : (k : Int) < (n : Int) := by omega
    have hk0 : (0 : Int) ≤ (k : Int) := by omega
    obtain ⟨b, off, a1, c1, a2, c2, rfl, bx0, r1, _, r2, _⟩ := HRT.out.at (k := k) (by have := HL.out; omega)
    obtain ⟨y0, y1, y2, y3, y4, y5, y6, y7⟩ := bx0.below HB.out (Nat.le_refl _)
    have HSk := hid (HSM.out k)
    have HBad := hid (fun q => tracksB_bad (ts := ts) (i := k) (by have := HL.out; omega) q)
    have HDup := hid (fun (m : Nat) (e : (ts.getD k tk0).xid = (m : Int)) (q : tkS ts k m = true) => show tracksB ts = false from tracksB_no (fun ok => by
     obtain ⟨j, hj, e'⟩ := tkS_yes e q
     exact (ok.2 k (by have := HL.out; omega)).2 j hj e'))
    have HNx := hid (fun (m : Nat) (e : (ts.getD k tk0).xid = (m : Int)) (g : trackB (ts.getD k tk0) = true) (q : tkS ts k m = false) i (hi : i < k + 1) => show trackB (ts.getD i tk0) = true ∧ ∀ k, k < i → (ts.getD k tk0).xid ≠ (ts.getD i tk0).xid from by
     by_cases hc : i < k
     · exact HA.out i hc
     · have : i = k := by omega
       subst this
       exact ⟨g, tkS_no e q⟩)
    have HSu := hid (fun (m : Nat) (e : (ts.getD k tk0).xid = (m : Int)) => tkS_succ ts k m e)
    generalize ts.getD k tk0 = t at *
    obtain ⟨xi, be, en, al, rs, ws, inn, ou⟩ := t
    simp only at y0 y1 y2 y3 y4 y5 y6 y7 r1 r2
    obtain ⟨n1, hn1⟩ : ∃ n, rs.length = n := ⟨_, rfl⟩
    obtain ⟨n2, hn2⟩ : ∃ n, ws.length = n := ⟨_, rfl⟩
    rw [hn1] at y4
    rw [hn2] at y5
    have HN := hid (And.intro hn1 hn2)
    have bA := Below.alloc1 wr (.cells #[.int .i64 xi, .int .i64 be, .int .i64 en, .bool al, .slice a1 n1 c1, .slice a2 n2 c2, .bool inn, .bool ou] 52)
    have HBA := hid (HB.out.trans (bA.mono HB.out.size))
    have HX := hid (BoxK.row (heap_alloc_new wr (.cells #[.int .i64 xi, .int .i64 be, .int .i64 en, .bool al, .slice a1 n1 c1, .slice a2 n2 c2, .bool inn, .bool ou] 52)))
    have HTA := hid ((bA.block w.heap.size hsz).trans HT.out)
    have HZ := hid (alloc_size wr (.cells #[.int .i64 xi, .int .i64 be, .int .i64 en, .bool al, .slice a1 n1 c1, .slice a2 n2 c2, .bool inn, .bool ou] 52))
    have HR1 := hid (r1.below HBA.out (Nat.le_refl _))
    have HR2 := hid (r2.below HBA.out (Nat.le_refl _))
    clear bx0 r1 r2 hn1 hn2 bA HT
    go_wp2_with fail
    clear y0 y1 y2 y3 y4 y5 y6 y7
    refine (impl_isTrack xi be en al inn ou c1 c2 HR1.out HN.out.1 HSk.out.1 HR2.out HN.out.2 HSk.out.2).mono ?_
    rintro e w1 ⟨rfl, b1⟩
    have HX1 := hid (HX.out.below b1 (Nat.le_refl _))
    have ht1 := (b1.block w.heap.size (by have := HZ.out; omega)).trans HTA.out
    have HB1 := hid (HBA.out.trans (b1.mono HBA.out.size))
    have hsz1 : w.heap.size < w1.heap.size := by have := HZ.out; have := b1.size; omega
    clear b1 HTA HBA HX
    cases hv : trackB ⟨xi, be, en, al, rs, ws, inn, ou⟩ with
    | false =>
     have HF := hid (show V = false by rw [← HVV.out]; exact HBad.out hv)
     clear hv ht1
     go_wp2_with fail
     go_ret
     exact ⟨by rw [HF.out]; rfl, HB1.out⟩
    | true =>
     have hxi : 1 ≤ xi ∧ xi ≤ 400 := by
      have q1 := hv
      unfold trackB at q1
      rw [Bool.and_eq_true] at q1
      exact of_decide_eq_true q1.1
     obtain ⟨m, rfl⟩ : ∃ m : Nat, xi = (m : Int) := ⟨xi.toNat, by omega⟩
     have hm : m < 401 := by omega
     have hm' : (m : Int) < 401 := by omega
     have hm0 : (0 : Int) ≤ (m : Int) := by omega
     have k0 := HX1.out.c0
     have km : w1.cell? ⟨w.heap.size, m, none⟩ = some (.bool (tkS ts k m)) := by rw [cell_of_row _ _ _ _ _ _ ht1]; exact tkA_at _ hm
     have kf : w1.frozen? ⟨w.heap.size, m, none⟩ = false := frozen_of_row _ _ _ _ _ ht1
     cases hd : tkS ts k m with
     | true =>
      rw [hd] at km
      have HF := hid (show V = false by rw [← HVV.out]; exact HDup.out m rfl hd)
      clear hd hv ht1
      go_wp2_with fail
      go_ret
      exact ⟨by rw [HF.out]; rfl, HB1.out⟩
     | false =>
      rw [hd] at km
      have R := heap_setCell_same w1 w.heap.size m (tkA (tkS ts k)) 103 (.bool true) ht1
      rw [tkA_set, ← HSu.out m rfl] at R
      have HR := hid R
      have HN2 := hid (HNx.out m rfl hv hd)
      have HB2 := hid (HB1.out.setCell (p := ⟨w.heap.size, m, none⟩) (Nat.le_refl _) (.bool true))
      clear hd hv ht1 R
      go_wp2_with fail
      go_roundw
      case rel => exact ⟨k + 1, by omega, by go_num, HN2, HR, HB2, by rw [set_size13]; exact hsz1⟩
      case measure => simp [intOf]; omega
  · have hlt' : ¬ (k : Int) < (n : Int) := by omega
    have HF := hid (show V = true by rw [← HVV.out]; exact tracksB_yes ⟨by have := HL.out; omega, fun i hi => HA.out i (by have := HL.out; omega)⟩)
    go_wp2_with fail
    go_ret
    exact ⟨by rw [HF.out]; rfl, HB.out⟩
end Go.Proofs.YtnhlfkffllbpiaaGreat
