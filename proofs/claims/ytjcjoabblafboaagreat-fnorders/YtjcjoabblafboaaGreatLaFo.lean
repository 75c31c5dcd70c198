/- FnOrders' walk, the contract of the draw being given. Conditions: none but what the argument's type says. -/
import Derived.Test.YtjcjoabblafboaaGreatMgm
import Derived.Test.YtjcjoabblafboaaGreatMgn
import Derived.Test.YtjcjoabblafboaaGreatHw14
namespace Go.Proofs.YtjcjoabblafboaaGreat
open Go.RowKit
set_option maxRecDepth 100000
theorem law_bigF (ad : Option Addr) (n cap : Nat) (w : World) :
 Calls Tryz.prog 6 #[.slice ad n cap] w fun e w' => e = .returned (.bool (decide ((1048576 : Int) < (n : Int)))) ∧ w' = w := by
 go_enter Tryz.func6, Tryz.ntmps6
 go_wp2
 go_ret
 exact ⟨rfl, rfl⟩
def plcS (O : List Nat) (n : Nat) : Nat → List Int
 | 0 => List.replicate n 0
 | i + 1 => (plcS O n i).set (O.getD i 0) (i : Int)
theorem plcS_len (O : List Nat) (n : Nat) : ∀ i, (plcS O n i).length = n
 | 0 => by simp [plcS]
 | i + 1 => by rw [plcS, List.length_set]; exact plcS_len O n i
theorem plcS_at {O : List Nat} {n : Nat} (hd : O.Nodup) (hn : ∀ x ∈ O, x < n) : ∀ i, i ≤ O.length → ∀ j, j < i → (plcS O n i).getD (O.getD j 0) 0 = (j : Int)
 | 0, _, j, hj => by omega
 | i + 1, hi, j, hj => by
  have gi : O.getD i 0 = O[i] := by simp [List.getD, show i < O.length by omega]
  have gj : O.getD j 0 = O[j] := by simp [List.getD, show j < O.length by omega]
  have hlt : O[i] < (plcS O n i).length := by rw [plcS_len]; exact hn _ (List.getElem_mem _)
  rw [plcS, gi, gj]
  by_cases e : j = i
  · subst e
    simp [List.getD, hlt]
  · have hne : O[j] ≠ O[i] := List.pairwise_iff_getElem.1 hd j i (by omega) (by omega) (by omega)
    have := plcS_at hd hn i (by omega) j (by omega)
    rw [gj] at this
    rw [← this]
    simp only [List.getD]
    rw [List.getElem?_set_ne (fun z => hne z.symm)]
theorem pl_idx {O : List Nat} {n : Nat} (hd : O.Nodup) (hn : ∀ x ∈ O, x < n) {x : Nat} (hx : x ∈ O) : (plcS O n O.length).getD x 0 = ((O.idxOf x : Nat) : Int) := by
 have hlt : O.idxOf x < O.length := List.idxOf_lt_length_iff.2 hx
 have h := plcS_at hd hn O.length (Nat.le_refl _) (O.idxOf x) hlt
 rw [show O.getD (O.idxOf x) 0 = x by rw [show O.getD (O.idxOf x) 0 = O[O.idxOf x] by simp [List.getD, hlt]]; exact List.getElem_idxOf hlt] at h
 exact h
def fnd (E : List Pr) (x y k : Nat) : Bool := (E.take k).any (fun p => decide (p.1 = x) && decide (p.2 = y))
theorem fnd_step {E : List Pr} {k : Nat} (hk : k < E.length) (x y : Nat) : fnd E x y (k + 1) = (fnd E x y k || (decide (E[k].1 = x) && decide (E[k].2 = y))) := by
 unfold fnd
 rw [List.take_succ_eq_append_getElem hk, List.any_append]
 simp
theorem fnd_all {E : List Pr} {x y : Nat} (h : (x, y) ∈ E) : fnd E x y E.length = true := by
 unfold fnd
 rw [List.take_length, List.any_eq_true]
 exact ⟨(x, y), h, by simp⟩
structure AnsDs (w : World) (e : Ending) (w' : World) : Prop where
 ex : ∃ (a : Option Addr) (c : Nat) (ts : List Tk), e = .returned (.slice a ts.length c) ∧ RdV w' a ts ∧ ReadsV w' a ts ∧ smT ts ∧ bdTs ts ∧ ts.length ≤ 1000
 bel : Below w.heap.size w w'
theorem made_zero (n : Nat) : (madeCells #[.int .i64 0] n).toList = ins (List.replicate n 0) := by
 rw [toList_madeCells_one]
 simp [ins]
set_option maxHeartbeats 12800000 in
theorem lawOrders (hD : ∀ {ad : Option Addr} {n : Nat} (cap : Nat) {zs : List Int} {w : World}, Reads w ad n zs → n ≤ 2097152 → Calls Tryz.prog 7 #[.slice ad n cap] w (AnsDs w))
 {a : Option Addr} {n : Nat} (c : Nat) {zs : List Int} {w : World} (h : Reads w a n zs) (hn0 : n ≤ maxLen) :
 Calls Tryz.prog 3 #[.slice a n c] w fun e w' => e = .returned (.bool true) ∧ Below w.heap.size w w' := by
 unfold maxLen at hn0
 have HL := hid h
 obtain ⟨i0, hinf, hz0, hz1, hz2⟩ := infoI14
 clear h
 go_enter Tryz.func3, Tryz.ntmps3
 go_wp2_with fail
 refine (law_bigF a n c w).mono ?_
 rintro e w0 ⟨rfl, e0⟩
 subst w0
 by_cases hbig : (1048576 : Int) < (n : Int)
 · rw [decide_eq_true hbig]
   go_wp2_with fail
   go_ret
   exact ⟨rfl, Below.refl _ _⟩
 rw [decide_eq_false hbig]
 have hn : n ≤ 2097152 := by omega
 clear hbig hn0
 go_wp2_with fail
 refine (hD c HL.out hn).mono ?_
 rintro e w1 ⟨⟨al, cl, ts, rfl, rv, rd, sm, bd, hlen⟩, b⟩
 obtain ⟨m, hm⟩ : ∃ m, ts.length = m := ⟨_, rfl⟩
 have HM := hid hm
 have RV := hid rv
 have RD := hid rd
 have SM := hid sm
 have BD := hid bd
 have HB := hid b
 rw [hm]
 rw [hm] at hlen
 clear rv rd sm bd b HL hm hn hD
 go_wp2_with fail
 refine (spec_DeedsOk cl RD.out HM.out SM.out).mono ?_
 rintro e w2 ⟨rfl, b⟩
 replace RV := hid (RV.out.below b (Nat.le_refl _))
 replace RD := hid (RD.out.below b (Nat.le_refl _))
 replace HB := hid (HB.out.trans (b.mono HB.out.size))
 clear b
 cases hdb : deedsB ts with
 | false =>
  have HEp := hid (show edP ts = [] by unfold edP; rw [hdb]; rfl)
  have HDb := hid hdb
  clear hdb
  go_wp2_with fail
  refine (impl_GraphEdges cl RV.out RD.out HM.out SM.out BD.out).mono ?_
  rintro e w3 ⟨gE, cE, rfl, -, b⟩
  rw [HEp.out]
  replace RD := hid (RD.out.below b (Nat.le_refl _))
  replace HB := hid (HB.out.trans (b.mono HB.out.size))
  clear b
  go_wp2_with fail
  refine (impl_DeedsOk cl RD.out HM.out SM.out BD.out).mono ?_
  rintro e w4 ⟨rfl, b⟩
  rw [HDb.out]
  replace HB := hid (HB.out.trans (b.mono HB.out.size))
  clear b
  go_wp2_with fail
  go_ret
  exact ⟨rfl, HB.out⟩
 | true =>
 have HDb := hid hdb
 have HOk := hid (deedsB_ok hdb)
 have hm1 : m ≤ 100 := by have := HOk.out.1; have := HM.out; omega
 have HEp := hid (show edP ts = prE ts m m by unfold edP; rw [if_pos hdb, HM.out])
 clear hdb hlen
 go_wp2_with fail
 refine (impl_GraphOrder cl RV.out RD.out HM.out SM.out BD.out).mono ?_
 rintro e w3 ⟨gO, cO, rfl, oO, b⟩
 have HOb := hid (ordL_bd ts)
 have RO := hid (own_readsI oO (nI_bd HOb.out.2))
 replace RV := hid (RV.out.below b (Nat.le_refl _))
 replace RD := hid (RD.out.below b (Nat.le_refl _))
 replace HB := hid (HB.out.trans (b.mono HB.out.size))
 clear b oO
 go_wp2_with fail
 refine (impl_GraphRing cl RV.out RD.out HM.out SM.out BD.out).mono ?_
 rintro e w4 ⟨gR, cR, rfl, tR, b⟩
 have HRb := hid (ringL_bd ts)
 have RR := hid (tR.reads (nI_bd HRb.out.2))
 replace RO := hid (RO.out.below b (Nat.le_refl _))
 replace RV := hid (RV.out.below b (Nat.le_refl _))
 replace RD := hid (RD.out.below b (Nat.le_refl _))
 replace HB := hid (HB.out.trans (b.mono HB.out.size))
 clear b tR
 go_wp2_with fail
 refine (spec_GraphEdges cl RD.out HM.out SM.out).mono ?_
 rintro e w5 ⟨gE, cE, rfl, oE, b⟩
 rw [HEp.out] at oE
 rw [HEp.out]
 have HEl := hid (show (prE ts m m).length ≤ 10000 by have := prE_le ts m m; have := Nat.mul_le_mul hm1 hm1; omega)
 have HEm := hid (fun i j => prE_mem ts m m i j)
 have HRing := hid (fun (q : leftL ts ≠ []) => ring_edges HDb.out q)
 rw [HM.out] at HRing
 obtain ⟨E, hE⟩ : ∃ E, prE ts m m = E := ⟨_, rfl⟩
 rw [hE] at oE HEl HEm HRing
 rw [hE]
 rw [fP_ins] at oE
 have RE := hid (own_readsP oE)
 obtain ⟨z, hz⟩ : ∃ z, E.length = z := ⟨_, rfl⟩
 have HZ := hid hz
 rw [hz] at HEl RE
 rw [hz]
 have hzz : z ≤ 10000 := HEl.out
 replace RO := hid (RO.out.below b (Nat.le_refl _))
 replace RR := hid (RR.out.below b (Nat.le_refl _))
 replace RV := hid (RV.out.below b (Nat.le_refl _))
 replace RD := hid (RD.out.below b (Nat.le_refl _))
 replace HB := hid (HB.out.trans (b.mono HB.out.size))
 clear b oE hE hz
 by_cases hleft : leftL ts = []
 · have HOrd := hid (show ordOk ts = true ∧ ordL ts = takenL ts by
    have e : ordOk ts = true := by unfold ordOk; exact decide_eq_true ⟨HDb.out, hleft⟩
    exact ⟨e, by unfold ordL; rw [if_pos e]⟩)
   have HRn := hid (show ringL ts = [] by unfold ringL; rw [hleft]; split <;> rfl)
   have HTk := hid (taken_all ts)
   have HSer := hid (serB_yes (ord_serial HOk.out hleft))
   have HTo := hid (taken_ord hleft)
   rw [HOrd.out.1, HRn.out]
   rw [HOrd.out.2] at RO
   rw [HOrd.out.2]
   have HTl := hid (show (takenL ts).length = m by have := HTo.out.1; rw [nI_len, HM.out] at this; exact this)
   rw [HM.out] at HTk
   have HIn := hid (fun x (hx : x < m) => (HTk.out.2.2.1 x hx).2 (by rw [hleft]; simp))
   obtain ⟨O, hO⟩ : ∃ O, takenL ts = O := ⟨_, rfl⟩
   rw [hO] at RO HTk HSer HTl HIn
   rw [hO]
   rw [HTl.out] at RO
   rw [HTl.out]
   clear hO HTo HOrd HRing HRn hleft RR HRb HOb
   go_wp2_with (at_make; refine wpList_make_full _ rfl _ _ 29 rfl w5.heap.size 3 i0 (.int .i64 0) 1 Tryz.underlying29 hinf hz0 hz1 _ _ _ _ m rfl rfl (by omega) (by omega) ?b2 ?b3 (Nat.le_refl _) ?_)
   case b2 => rw [hz2]; omega
   case b3 => unfold maxLen; omega
   intro w6 hown0 hgrow0
   obtain ⟨gp, hgp⟩ : ∃ g, w5.heap.size = g := ⟨_, rfl⟩
   have HGp := hid hgp
   have HO0 := hid (show w6.ownsRow gp 3 1 (.slice (some ⟨gp, 0, none⟩) m m) m (ins (plcS O m 0)) by
    rw [← hgp]
    rw [made_zero] at hown0
    exact hown0)
   have HB0 := hid (show Below gp w5 w6 by rw [← hgp]; exact (Below.refl w5.heap.size w5).grown hgrow0 (Nat.le_refl _) (fun k h => by cases h))
   clear hown0 hgrow0
   try simp only [hgp]
   go_wp2_with fail
   go_loopw [9] (fun s wr => ∃ i : Nat, i ≤ m ∧ s = .int .i64 i ∧ Hid (wr.ownsRow gp 3 1 (.slice (some ⟨gp, 0, none⟩) m m) m (ins (plcS O m i))) ∧ Hid (Below gp w5 wr)) (fun s _ => m - (intOf s).toNat)
   case atStart => exact ⟨0, Nat.zero_le _, rfl, HO0, HB0⟩
   case round =>
    clear HO0 HB0
    obtain ⟨i, hi, rfl, HP, HW⟩ := hrel
    by_cases hlt : i < m
    · have hlt' : (i : Int) < (m : Int) := by omega
      have hi0 : (0 : Int) ≤ (i : Int) := by omega
      obtain ⟨bo, oo, rfl, hc⟩ := readsI_at (RO.out.below HW.out (by rw [hgp]; exact Nat.le_refl _)) hlt
      have hil : i < O.length := by rw [HTl.out]; exact hlt
      have hx : (nI O).getD i 0 = ((O.getD i 0 : Nat) : Int) := nI_at hil
      have hxm : O.getD i 0 < m := HTk.out.2.2.2 _ (by rw [show O.getD i 0 = O[i] by simp [List.getD, hil]]; exact List.getElem_mem hil)
      have R := HP.out.stored (O.getD i 0) (.int .i64 (i : Int))
      rw [show (ins (plcS O m i)).set (O.getD i 0) (.int .i64 (i : Int)) = ins (plcS O m (i + 1)) by rw [plcS]; unfold ins; rw [List.map_set]] at R
      have R1 := hid R
      have B1 := hid (HW.out.grown R.2 (by rw [← hgp]; exact HW.out.size) (fun b e => by cases e; exact Nat.le_refl _))
      have hcy : ∃ v, wr.cell? ⟨gp, O.getD i 0, none⟩ = some v := by
       rw [HP.out.cellAt _ (by omega)]
       exact ⟨_, List.getElem?_eq_getElem (by rw [ins_length, plcS_len]; exact hxm)⟩
      have hfr : wr.frozen? ⟨gp, O.getD i 0, none⟩ = false := HP.out.frozenAt _
      obtain ⟨v, hcy⟩ := hcy
      rw [hx] at hc
      generalize O.getD i 0 = x at *
      have hx0 : (0 : Int) ≤ (x : Int) := by omega
      have hx1 : (x : Int) < (m : Int) := by omega
      have hx2 : ¬ (x : Int) < 0 := by omega
      have hx3 : ¬ (m : Int) ≤ (x : Int) := by omega
      clear R HP hx hil
      go_wp2_with fail
      go_roundw
      case rel => exact ⟨i + 1, by omega, by go_num, hid R1.out.1, B1⟩
      case measure => simp [intOf]; omega
    · have hlt' : ¬ (i : Int) < (m : Int) := by omega
      obtain rfl : i = m := by omega
      obtain ⟨wp, hwp⟩ : ∃ wp, wp = wr := ⟨_, rfl⟩
      subst hwp
      have RE2 := hid (RE.out.below HW.out (by rw [hgp]; exact Nat.le_refl _))
      have HPc := hid (fun x (hx : x < i) => show wp.cell? ⟨gp, x, none⟩ = some (.int .i64 ((O.idxOf x : Nat) : Int)) by
       rw [HP.out.cellAt x (by omega), getD_ins]
       have h1 := pl_idx HTk.out.2.1 HTk.out.2.2.2 (HIn.out x hx)
       rw [HTl.out] at h1
       have h2 : x < (plcS O i i).length := by rw [plcS_len]; exact hx
       rw [← h1, List.getD_eq_getElem?_getD, List.getElem?_eq_getElem h2]; rfl)
      have HEd := hid (fun k (hk : k < z) => show (E.getD k (0, 0)).1 < i ∧ (E.getD k (0, 0)).2 < i ∧ O.idxOf (E.getD k (0, 0)).1 < O.idxOf (E.getD k (0, 0)).2 by
       have hk' : k < E.length := by rw [HZ.out]; exact hk
       have e1 : E.getD k (0, 0) = E[k] := by simp [List.getD, hk']
       have h1 := (HEm.out E[k].1 E[k].2).1 (List.getElem_mem hk')
       rw [e1]
       exact ⟨h1.1, h1.2.1, (op_idx HTk.out.1 (by rw [HM.out]; exact h1.1) (HIn.out _ h1.2.1) h1.2.2).2⟩)
      go_wp2_with fail
      clear hlt'
      go_loopw [10] (fun s wr => ∃ k q : Nat, k ≤ z ∧ s = .int .i64 k ∧ wr = wp.drewN q) (fun s _ => z - (intOf s).toNat)
      case atStart => exact ⟨0, 0, Nat.zero_le _, rfl, rfl⟩
      case round =>
       obtain ⟨k, q, hk, rfl, rfl⟩ := hrel
       by_cases hkz : k < z
       · have hkz' : (k : Int) < (z : Int) := by omega
         have hk0 : (0 : Int) ≤ (k : Int) := by omega
         obtain ⟨b, off, rfl, hc⟩ : ∃ b off, gE = some ⟨b, off, none⟩ ∧ (wp.cell? ⟨b, off + k * 2, none⟩ = some (.int .i64 (((E.getD k (0, 0)).1 : Nat) : Int)) ∧ wp.cell? ⟨b, off + k * 2 + 1, none⟩ = some (.int .i64 (((E.getD k (0, 0)).2 : Nat) : Int))) := by
          have hk' : k < E.length := by rw [HZ.out]; exact hkz
          have e1 : E.getD k (0, 0) = E[k] := by simp [List.getD, hk']
          rcases RE2.out.cells with q | ⟨b, off, e, hc⟩
          · omega
          · refine ⟨b, off, e, ?_⟩
            have h1 := hc k hkz
            rw [(fI_at E k hk').1, (fI_at E k hk').2] at h1
            rw [e1]
            exact h1
         obtain ⟨c0, c1⟩ := hc
         obtain ⟨g1, g2, g3⟩ := HEd.out k hkz
         generalize E.getD k (0, 0) = p at *
         obtain ⟨x, y⟩ := p
         simp only at c0 c1 g1 g2 g3
         have p1 := HPc.out x g1
         have p2 := HPc.out y g2
         generalize O.idxOf x = ix at *
         generalize O.idxOf y = iy at *
         have x0 : (0 : Int) ≤ (x : Int) := by omega
         have x1 : (x : Int) < (i : Int) := by omega
         have y0 : (0 : Int) ≤ (y : Int) := by omega
         have y1 : (y : Int) < (i : Int) := by omega
         have hge : ¬ (iy : Int) ≤ (ix : Int) := by omega
         go_wp2_with fail
         go_quiet (fail)
         go_wp2_with fail
         go_roundw
         case rel => exact ⟨k + 1, _, by omega, by go_num, rfl⟩
         case measure => simp [intOf]; omega
       · have hkz' : ¬ (k : Int) < (z : Int) := by omega
         have hmm : ((i : Int) == (i : Int)) = true := by simp
         have b1 := HW.out.trans ((Still.drewN wp q).below gp)
         have B1 := hid b1
         have RV2 := hid (RV.out.below b1 (by rw [hgp]; exact Nat.le_refl _))
         have RD2 := hid (RD.out.below b1 (by rw [hgp]; exact Nat.le_refl _))
         have RO2 := hid (RO.out.below b1 (by rw [hgp]; exact Nat.le_refl _))
         have HB2 := hid (HB.out.trans (b1.mono (by rw [← hgp]; exact HB.out.size)))
         clear b1 HW HP HPc HEd RE2
         generalize wp.drewN q = W at *
         go_wp2_with fail
         refine (impl_GraphSerial cl cO RV2.out RD2.out HM.out SM.out BD.out RO2.out).mono ?_
         rintro e w8 ⟨rfl, b⟩
         rw [HSer.out]
         replace RD2 := hid (RD2.out.below b (Nat.le_refl _))
         replace RO2 := hid (RO2.out.below b (Nat.le_refl _))
         replace HB2 := hid (HB2.out.trans (b.mono HB2.out.size))
         clear b
         go_wp2_with fail
         refine (spec_GraphSerial cl cO RD2.out HM.out SM.out RO2.out (by omega)).mono ?_
         rintro e w9 ⟨rfl, b⟩
         rw [HSer.out]
         replace HB2 := hid (HB2.out.trans (b.mono HB2.out.size))
         clear b
         go_wp2_with fail
         go_ret
         exact ⟨rfl, HB2.out⟩
 · have HOrd := hid (show ordOk ts = false by unfold ordOk; exact decide_eq_false (fun q => hleft q.2))
   have HRg := hid (HRing.out hleft)
   rw [HOrd.out]
   obtain ⟨V, hV⟩ : ∃ V, ringL ts = V := ⟨_, rfl⟩
   rw [hV] at RR HRg HRb
   rw [hV]
   obtain ⟨r, hr⟩ : ∃ r, V.length = r := ⟨_, rfl⟩
   rw [hr] at RR HRg HRb
   rw [hr]
   have HRl := hid hr
   have hr2 : 2 ≤ r := HRg.out.1
   have hr100 : r ≤ 100 := HRb.out.1
   have hr2' : ¬ (r : Int) < 2 := by omega
   have hr0 : ((r : Int) == 0) = false := by simp; omega
   have hr00 : ¬ (r : Int) = 0 := by omega
   clear hleft HOrd hV hr HRing RO HOb RV RD
   go_wp2_with fail
   clear hr2'
   go_loopw [11] (fun s wr => ∃ i q : Nat, i ≤ r ∧ s = .int .i64 i ∧ wr = w5.drewN q) (fun s _ => r - (intOf s).toNat)
   case atStart => exact ⟨0, 0, Nat.zero_le _, rfl, rfl⟩
   case round =>
    obtain ⟨i, q0, hi, rfl, rfl⟩ := hrel
    by_cases hir : i < r
    · have hir' : (i : Int) < (r : Int) := by omega
      have hi0 : (0 : Int) ≤ (i : Int) := by omega
      have hx0 := HRg.out.2 i hir
      obtain ⟨t, ht⟩ : ∃ t, (i + 1) % r = t := ⟨_, rfl⟩
      have htr : t < r := by rw [← ht]; exact Nat.mod_lt _ (by omega)
      have hrem : Int.tmod ((i : Int) + 1) (r : Int) = (t : Int) := by
       rw [← ht]
       by_cases hl : i + 1 < r
       · rw [Nat.mod_eq_of_lt hl, Int.tmod_eq_of_lt (by omega) (by omega)]; omega
       · have e : i + 1 = r := by omega
         rw [e, Nat.mod_self, show (i : Int) + 1 = (r : Int) by omega, Int.tmod_self]; rfl
      rw [ht] at hx0
      have hvt : (nI V).getD t 0 = ((V.getD t 0 : Nat) : Int) := nI_at (by rw [HRl.out]; exact htr)
      have hvi : (nI V).getD i 0 = ((V.getD i 0 : Nat) : Int) := nI_at (by rw [HRl.out]; exact hir)
      obtain ⟨bo, oo, rfl, hct⟩ := readsI_at RR.out htr
      obtain ⟨bo', oo', e', hci⟩ := readsI_at RR.out hir
      have e2 : bo' = bo ∧ oo' = oo := by cases e'; exact ⟨rfl, rfl⟩
      rw [e2.1, e2.2] at hci
      rw [hvt] at hct
      rw [hvi] at hci
      have ht0 : (0 : Int) ≤ (t : Int) := by omega
      have ht1 : (t : Int) < (r : Int) := by omega
      generalize V.getD t 0 = x at *
      generalize V.getD i 0 = y at *
      have HFa := hid (show fnd E x y z = true by rw [← HZ.out]; exact fnd_all hx0)
      clear hx0 hvt hvi e' e2 ht
      go_wp2_with fail
      go_loopw [12, 13] (fun s12 s13 wr => ∃ k q : Nat, k ≤ z ∧ s13 = .int .i64 k ∧ s12 = .bool (fnd E x y k) ∧ wr = w5.drewN q) (fun _ s _ => z - (intOf s).toNat)
      case atStart => exact ⟨0, q0, Nat.zero_le _, rfl, rfl, rfl⟩
      case round =>
       obtain ⟨k, q, hk, rfl, rfl, rfl⟩ := hrel
       by_cases hkz : k < z
       · have hkz' : (k : Int) < (z : Int) := by omega
         have hk0 : (0 : Int) ≤ (k : Int) := by omega
         obtain ⟨b, off, rfl, hc⟩ : ∃ b off, gE = some ⟨b, off, none⟩ ∧ (w5.cell? ⟨b, off + k * 2, none⟩ = some (.int .i64 (((E.getD k (0, 0)).1 : Nat) : Int)) ∧ w5.cell? ⟨b, off + k * 2 + 1, none⟩ = some (.int .i64 (((E.getD k (0, 0)).2 : Nat) : Int))) := by
          have hk' : k < E.length := by rw [HZ.out]; exact hkz
          have e1 : E.getD k (0, 0) = E[k] := by simp [List.getD, hk']
          rcases RE.out.cells with q | ⟨b, off, e, hc⟩
          · omega
          · refine ⟨b, off, e, ?_⟩
            have h1 := hc k hkz
            rw [(fI_at E k hk').1, (fI_at E k hk').2] at h1
            rw [e1]
            exact h1
         obtain ⟨c0, c1⟩ := hc
         have HSt := hid (show fnd E x y (k + 1) = (fnd E x y k || (decide ((E.getD k (0, 0)).1 = x) && decide ((E.getD k (0, 0)).2 = y))) by
          have hk' : k < E.length := by rw [HZ.out]; exact hkz
          rw [show E.getD k (0, 0) = E[k] by simp [List.getD, hk']]
          exact fnd_step hk' x y)
         generalize E.getD k (0, 0) = p at *
         obtain ⟨x', y'⟩ := p
         simp only at c0 c1 HSt
         cases hf : fnd E x y k with
         | true =>
          rw [hf] at HSt
          have HS2 := hid (show fnd E x y (k + 1) = true by rw [HSt.out]; rfl)
          clear hf HSt
          go_wp2_with fail
          go_quiet (fail)
          go_wp2_with fail
          go_roundw
          case rel => exact ⟨k + 1, _, by omega, by go_num, by rw [HS2.out]; try rfl, rfl⟩
          case measure => simp [intOf]; omega
         | false =>
          rw [hf] at HSt
          clear hf
          by_cases hxx : x' = x
          · have qx : ((x' : Int) == (x : Int)) = true := by simpa using (show (x' : Int) = (x : Int) by omega)
            by_cases hyy : y' = y
            · have qy : ((y' : Int) == (y : Int)) = true := by simpa using (show (y' : Int) = (y : Int) by omega)
              have HS2 := hid (show fnd E x y (k + 1) = true by rw [HSt.out, decide_eq_true hxx, decide_eq_true hyy]; rfl)
              clear hxx hyy HSt
              go_wp2_with fail
              go_quiet (fail)
              go_wp2_with fail
              go_roundw
              case rel => exact ⟨k + 1, _, by omega, by go_num, by rw [HS2.out]; try rfl, rfl⟩
              case measure => simp [intOf]; omega
            · have qy : ((y' : Int) == (y : Int)) = false := by
               have : ¬ (y' : Int) = (y : Int) := by omega
               simpa using this
              have HS2 := hid (show fnd E x y (k + 1) = false by rw [HSt.out, decide_eq_false hyy, Bool.and_false]; rfl)
              clear hxx hyy HSt
              go_wp2_with fail
              go_quiet (fail)
              go_wp2_with fail
              go_roundw
              case rel => exact ⟨k + 1, _, by omega, by go_num, by rw [HS2.out]; try rfl, rfl⟩
              case measure => simp [intOf]; omega
          · have qx : ((x' : Int) == (x : Int)) = false := by
             have : ¬ (x' : Int) = (x : Int) := by omega
             simpa using this
            have HS2 := hid (show fnd E x y (k + 1) = false by rw [HSt.out, decide_eq_false hxx]; rfl)
            clear hxx HSt
            go_wp2_with fail
            go_quiet (fail)
            go_wp2_with fail
            go_roundw
            case rel => exact ⟨k + 1, _, by omega, by go_num, by rw [HS2.out]; try rfl, rfl⟩
            case measure => simp [intOf]; omega
       · have hkz' : ¬ (k : Int) < (z : Int) := by omega
         obtain rfl : k = z := by omega
         rw [HFa.out]
         go_wp2_with fail
         go_roundw
         case rel => exact ⟨i + 1, _, by omega, by go_num, rfl⟩
         case measure => simp [intOf]; omega
    · have hir' : ¬ (i : Int) < (r : Int) := by omega
      have HBE := hid (HB.out.trans (((Still.drewN w5 q0).below _).mono HB.out.size))
      go_wp2_with fail
      go_ret
      exact ⟨rfl, HBE.out⟩
end Go.Proofs.YtjcjoabblafboaaGreat
