/- The contract of the program's edgesOf. Conditions: the deeds are right. -/
import Derived.Test.YtnbpblephmjfnaaGreatVa14
namespace Go.Proofs.YtnbpblephmjfnaaGreat
open Go.RowKit Go.Maps
set_option maxRecDepth 100000
def stK (ts : List Tk) (ks : List Im) (R : Eds) (i : Nat) : Eds := adK ts (useL ts ks ts.length (i * 2)) (useL ts ks ts.length (i * 2 + 1)) R
def allE (ts : List Tk) (ks : List Im) (m : Nat) : Eds := (List.range m).foldl (stK ts ks) (fun _ => [])
theorem allE_succ (ts : List Tk) (ks : List Im) (m : Nat) : allE ts ks (m + 1) = stK ts ks (allE ts ks m) m := by
 unfold allE
 rw [List.range_succ, List.foldl_append]; rfl
theorem stK_len (ts : List Tk) (ks : List Im) (hn : ts.length ≤ 100) (R : Eds) (i j : Nat) : (stK ts ks R i j).length ≤ (R j).length + 20000 := by
 have h1 := adK_len ts (useL ts ks ts.length (i * 2)) (useL ts ks ts.length (i * 2 + 1)) (useL ts ks ts.length (i * 2)) R j
 have h2 := useL_len ts ks ts.length (i * 2)
 have h3 := useL_len ts ks ts.length (i * 2 + 1)
 have h4 : (useL ts ks ts.length (i * 2)).length * ((useL ts ks ts.length (i * 2)).length + (useL ts ks ts.length (i * 2 + 1)).length) ≤ 100 * 200 := Nat.mul_le_mul (by omega) (by omega)
 unfold stK adK
 omega
theorem allE_len (ts : List Tk) (ks : List Im) (hn : ts.length ≤ 100) : ∀ m j, (allE ts ks m j).length ≤ m * 20000
 | 0, j => by simp [allE]
 | m + 1, j => by
  have h1 := allE_len ts ks hn m j
  have h2 := stK_len ts ks hn (allE ts ks m) m j
  rw [allE_succ]
  omega
theorem run_makeMap14 (w : World) : (Instr.makeMap 80 none).run Tryz.prog w = .ok (.map (some w.heap.size)) (w.alloc (.map #[] 0)) := by kernel_rfl
theorem Tryz.infoMp : (Tryz.prog.info? 80).map (fun i => (i.zero, i.size, i.bytes)) = some (some (.map none), 1, 8) := by kernel_rfl
structure EdK (w : World) (base g n k : Nat) (M : Nat → Nat) : Prop where
 row : w.ownsRow base 80 1 (.slice (some ⟨g, 0, none⟩) n n) n ((List.range n).map (fun i => if i < k then Value.map (some (M i)) else .map none))
 map : ∀ i, i < k → w.ownsMap Tryz.prog 3 (unitElem (H := Unit)) (M i) 0 (momS [])
 low : ∀ i, i < k → base ≤ M i
 inj : ∀ i j, i < k → j < k → i ≠ j → M i ≠ M j
theorem made_map (n : Nat) : (madeCells #[.map none] n).toList = (List.range n).map (fun _ => Value.map none) := by
 simp only [madeCells, Array.toList_map, Array.toList_range]
 refine List.map_congr_left (fun i _ => ?_)
 show (#[(Value.map none)][i % 1]! : Value) = _
 rw [Nat.mod_one]; rfl
theorem EdK.next {w : World} {base g n k : Nat} {M : Nat → Nat} (h : EdK w base g n k M) (hk : k < n) (hb : base ≤ w.heap.size) : EdK ((w.alloc (.map #[] 0)).setCell ⟨g, k, none⟩ (.map (some w.heap.size))) base g n (k + 1) (upd M k w.heap.size) := by
 have hba := Below.alloc1 w (.map #[] 0)
 have r1 := owns_below hba (Nat.le_refl _) h.row
 have hgl := (h.row.lt g rfl).2
 have hne : w.heap.size ≠ g := by omega
 have hgm : ∀ i, i < k → M i ≠ g := fun i hi e => by
  obtain ⟨es, cl, hb, _⟩ := h.map i hi
  obtain ⟨rest, hr, _⟩ := owns_blk h.row
  rw [e, hr] at hb; cases hb
 refine ⟨?_, fun i hi => ?_, fun i hi => ?_, fun i j hi hj hne => ?_⟩
 · have := row_set r1 (j := k) (by omega) (.map (some w.heap.size))
   have e : ((List.range n).map (fun i => if i < k then Value.map (some (M i)) else .map none)).set k (.map (some w.heap.size)) = (List.range n).map (fun i => if i < k + 1 then Value.map (some (upd M k w.heap.size i)) else .map none) := by
    rw [← map_upd]
    refine List.map_congr_left (fun i _ => ?_)
    unfold upd
    by_cases e : i = k
    · subst e; rw [if_pos rfl, if_pos (by omega), if_pos rfl]
    · rw [if_neg e, if_neg e]
      show (if i < k then Value.map (some (M i)) else .map none) = _
      by_cases q : i < k
      · rw [if_pos q, if_pos (by omega)]
      · rw [if_neg q, if_neg (by omega)]
   rw [e] at this
   exact this
 · by_cases e : i = k
   · subst e
     rw [upd_same]
     exact (World.ownsMap_made w _ _ _).kept (grown_set _ g i _) (fun q => hne (Option.some.inj q))
   · rw [upd_other _ _ e]
     exact ((h.map i (by omega)).alloc _).kept (grown_set _ g k _) (fun q => hgm i (by omega) (Option.some.inj q))
 · by_cases e : i = k
   · subst e; rw [upd_same]; exact hb
   · rw [upd_other _ _ e]; exact h.low i (by omega)
 · have hlt : ∀ i, i < k → M i < w.heap.size := fun i hi => (h.map i hi).lt
   by_cases e1 : i = k
   · subst e1
     rw [upd_same, upd_other _ _ (fun e => hne e.symm)]
     have := hlt j (by omega); omega
   · by_cases e2 : j = k
     · subst e2
       rw [upd_same, upd_other _ _ e1]
       have := hlt i (by omega); omega
     · rw [upd_other _ _ e1, upd_other _ _ e2]
       exact h.inj i j (by omega) (by omega) hne
set_option maxHeartbeats 25600000 in
theorem impl_edgesOf {a : Option Addr} {n : Nat} (c : Nat) {ts : List Tk} {w : World} (h : RdV w a ts) (hl : ts.length = n) (hok : okDs ts) :
 Calls Tryz.prog 41 #[.slice a n c] w fun e w' => ∃ (g : Nat) (M : Nat → Nat) (ks : List Im), e = .returned (.slice (some ⟨g, 0, none⟩) n n) ∧ KeysOf ts ks ∧ EdM w' w.heap.size g n M (allE ts ks ks.length) ∧ Below w.heap.size w w' := by
 have hn : n ≤ 100 := by have := hok.1; omega
 have HR := hid h
 have HL := hid hl
 have HK := hid hok
 clear h hl hok
 obtain ⟨j0, hj, hj0, hj1, hj2⟩ := info_parts Tryz.infoMp
 go_enter Tryz.func41, Tryz.ntmps41
 go_wp2_with (at_make; refine wpList_make_full _ rfl _ _ 77 rfl w.heap.size 80 j0 (.map none) 1 Tryz.underlying77 hj hj0 hj1 _ _ _ _ n rfl rfl (by omega) (by omega) ?b2 ?b3 (Nat.le_refl _) ?_)
 case b2 => rw [hj2]; omega
 case b3 => unfold maxLen; omega
 intro w1 hown0 hgrow0
 obtain ⟨g, hg⟩ : ∃ g, w.heap.size = g := ⟨_, rfl⟩
 have HGe := hid hg
 have HK0 := hid (show EdK w1 w.heap.size w.heap.size n 0 (fun _ => 0) by
  refine ⟨?_, fun i hi => by omega, fun i hi => by omega, fun i j hi => by omega⟩
  have e : (List.range n).map (fun i => if i < 0 then Value.map (some ((fun _ => 0) i)) else .map none) = (madeCells #[.map none] n).toList := by
   rw [made_map]
   refine List.map_congr_left (fun i _ => ?_)
   rw [if_neg (by omega)]
  rw [e]; exact hown0)
 have HB0 := hid ((Below.refl w.heap.size w).grown hgrow0 (Nat.le_refl _) (fun k h => by cases h))
 clear hown0 hgrow0
 try simp only [hg]
 clear hg
 have hmm := run_makeMap14
 go_wp2_with fail
 go_loopw [12] (fun s wr => ∃ (k : Nat) (M : Nat → Nat), k ≤ n ∧ s = .int .i64 k ∧ Hid (EdK wr w.heap.size g n k M) ∧ Hid (Below w.heap.size w wr)) (fun s _ => n - (intOf s).toNat)
 case atStart => exact ⟨0, _, Nat.zero_le _, rfl, hid (by rw [← HGe.out]; exact HK0.out), HB0⟩
 case round =>
  clear HK0 HB0
  obtain ⟨k, M, hk, rfl, HE, HB⟩ := hrel
  by_cases hlt : k < n
  · have hlt' : (k : Int) < (n : Int) := by omega
    have hk0 : (0 : Int) ≤ (k : Int) := by omega
    have r1 := owns_below (Below.alloc1 wr (.map #[] 0)) (Nat.le_refl _) HE.out.row
    have hc : (wr.alloc (.map #[] 0)).cell? ⟨g, k, none⟩ = some (.map none) := by rw [r1.cellAt k (by omega)]; simp [hlt]
    have hfz : (wr.alloc (.map #[] 0)).frozen? ⟨g, k, none⟩ = false := by
     obtain ⟨rest, hr, _⟩ := owns_blk r1
     exact frozen_of_row _ _ _ _ _ hr
    have HE2 := hid (HE.out.next hlt HB.out.size)
    have HB2 := hid (show Below w.heap.size w ((wr.alloc (.map #[] 0)).setCell ⟨g, k, none⟩ (.map (some wr.heap.size))) from (HB.out.alloc HB.out.size _).setCell (p := ⟨g, k, none⟩) (Nat.le_of_eq HGe.out) _)
    have hst := fun (u : World) (ad : Addr) (mm : Option Nat) m => run_store Tryz.prog u ad (.map mm) m rfl
    clear r1
    go_wp2_with fail
    go_roundw
    case rel => exact ⟨k + 1, _, by omega, by go_num, HE2, HB2⟩
    case measure => simp [intOf]; omega
  · have hlt' : ¬ (k : Int) < (n : Int) := by omega
    obtain rfl : k = n := by omega
    have HEM := hid (show EdM wr w.heap.size g k M (allE ts [] 0) by
     refine ⟨?_, fun i hi => HE.out.map i hi, HE.out.low, HE.out.inj⟩
     have e : (List.range k).map (fun i => Value.map (some (M i))) = (List.range k).map (fun i => if i < k then Value.map (some (M i)) else .map none) := List.map_congr_left (fun i hi => by rw [if_pos (List.mem_range.1 hi)])
     rw [e]; exact HE.out.row)
    have HR1 := hid (HR.out.below HB.out (Nat.le_refl _))
    clear hmm HE
    go_wp2_with fail
    refine (impl_usesOf c HR1.out HL.out HK.out).mono ?_
    rintro e w2 ⟨gU, m, ks, X, rfl, hkl, hm2, hko, hU, b2⟩
    have HU := hid hU
    have HKl := hid hkl
    have HKo := hid hko
    have HB2 := hid (HB.out.trans (b2.mono HB.out.size))
    have HE2 := hid (show EdM w2 w.heap.size g k M (allE ts ks 0) from HEM.out.below b2)
    clear hU hkl hko b2 HEM
    go_wp2_with fail
    go_loopw [23] (fun s wq => ∃ i : Nat, i ≤ m ∧ s = .int .i64 i ∧ Hid (EdM wq w.heap.size g k M (allE ts ks i)) ∧ Hid (CK w2 wq) ∧ Hid (Below w.heap.size w wq)) (fun s _ => m - (intOf s).toNat)
    case atStart => exact ⟨0, Nat.zero_le _, rfl, HE2, hid (CK.refl _), HB2⟩
    case round =>
     clear HE2 HB2
     obtain ⟨i, hi, rfl, HE, HC, HB⟩ := hrel
     obtain ⟨wo, hwo⟩ : ∃ wo, wo = wr := ⟨_, rfl⟩
     subst hwo
     by_cases hlm : i < m
     · have hlm' : (i : Int) < (m : Int) := by omega
       have hi0 : (0 : Int) ≤ (i : Int) := by omega
       have hq0 : i * 2 < m * 2 := by omega
       have hq1 : i * 2 + 1 < m * 2 := by omega
       have hc0 := HC.out.cell (HU.out.cell hq0)
       have hc1 := HC.out.cell (HU.out.cell hq1)
       obtain ⟨aw, cw, hXw⟩ := HU.out.slice hq0
       obtain ⟨ar, cr, hXr⟩ := HU.out.slice hq1
       have hoW := owns_ck (HU.out.own _ hq0) HC.out
       have hoR := owns_ck (HU.out.own _ hq1) HC.out
       rw [hXw] at hc0 hoW
       rw [hXr] at hc1 hoR
       have hWlt : ∀ p ∈ useL ts ks k (i * 2), p < k := fun p hp => useL_lt hp
       have hRlt : ∀ p ∈ useL ts ks k (i * 2 + 1), p < k := fun p hp => useL_lt hp
       have hwl : (useL ts ks k (i * 2)).length ≤ 100 := Nat.le_trans (useL_len _ _ _ _) hn
       have hrl : (useL ts ks k (i * 2 + 1)).length ≤ 100 := Nat.le_trans (useL_len _ _ _ _) hn
       have HWr := hid (own_readsI hoW (nI_bd (fun p hp => by have := hWlt p hp; omega)))
       have HRr := hid (own_readsI hoR (nI_bd (fun p hp => by have := hRlt p hp; omega)))
       have HWb := hid hWlt
       have HRb := hid hRlt
       have HSu := hid (show allE ts ks (i + 1) = adK ts (useL ts ks k (i * 2)) (useL ts ks k (i * 2 + 1)) (allE ts ks i) by rw [allE_succ]; unfold stK; rw [HL.out])
       have HLe := hid (fun j => show (allE ts ks i j).length ≤ 400000000 from Nat.le_trans (allE_len ts ks (by rw [HL.out]; exact hn) i j) (by omega))
       generalize useL ts ks k (i * 2) = WL at *
       generalize useL ts ks k (i * 2 + 1) = RL at *
       obtain ⟨nw, hnw⟩ : ∃ x, WL.length = x := ⟨_, rfl⟩
       obtain ⟨nr, hnr⟩ : ∃ x, RL.length = x := ⟨_, rfl⟩
       rw [hnw] at hc0 HWr hwl
       rw [hnr] at hc1 HRr hrl
       have bA := Below.alloc1 wo (.cells #[.slice aw nw cw, .slice ar nr cr] 91)
       have HEA := hid (HE.out.below bA)
       have HCA := hid (HC.out.trans (CK.below bA))
       have HBA := hid (HB.out.trans (bA.mono HB.out.size))
       have HWA := hid (HWr.out.below bA (Nat.le_refl _))
       have HRA := hid (HRr.out.below bA (Nat.le_refl _))
       clear hXw hXr hoW hoR hWlt hRlt hnw hnr bA HE HC HB HWr HRr
       go_wp2_with fail
       clear hc0 hc1
       refine (impl_add (w0 := w) c HR.out HL.out hn HBA.out HEA.out cw cr HWA.out HRA.out HWb.out HRb.out hwl hrl 400000000 (by omega) HLe.out).mono ?_
       rintro e w5 ⟨rfl, hE5, hC5, hB5⟩
       have HE5 := hid (show EdM w5 w.heap.size g k M (allE ts ks (i + 1)) by rw [HSu.out]; exact hE5)
       have HC5 := hid (HCA.out.trans hC5)
       have HB5 := hid hB5
       clear hE5 hC5 hB5
       go_wp2_with fail
       go_roundw
       case rel => exact ⟨i + 1, by omega, by go_num, HE5, HC5, HB5⟩
       case measure => simp [intOf]; omega
     · have hlm' : ¬ (i : Int) < (m : Int) := by omega
       have HEf := hid (show EdM wo w.heap.size g k M (allE ts ks ks.length) by have := HE.out; rwa [show i = ks.length by have := HKl.out; omega] at this)
       go_wp2_with fail
       go_ret
       exact ⟨g, rfl, M, ks, HKo.out, HEf.out, HB.out⟩
end Go.Proofs.YtnbpblephmjfnaaGreat
