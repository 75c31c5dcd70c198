/- Texts of this proof in one: Kh11 Of11 Kw11. -/
import Derived.Test.YtphmlndkjgldkaaMgl
import Derived.Test.YtphmlndkjgldkaaOe11
/- The contracts of the laws' markNodeS, heldNodeS, markTree, heldTree. Conditions: trees of at most 2^21 bytes, entries, kids and nodes together. -/


namespace Go.Proofs.Ytphmlndkjgldkaa
open Go.RowKit
set_option maxRecDepth 100000
def lf3 (k : Int) : Bool := k % 3 == 0
def mkD1 (k : Int) (d : Nd) : Nd := ⟨lf3 k, mkEs (k + 1) d.es, marksI (k + 1 + sumM d.es) d.ks.length⟩
def nmD (d : Nd) : Nat := 1 + sumM d.es + d.ks.length
def mkDs : Int → List Nd → List Nd
 | _, [] => []
 | k, d :: ds => mkD1 k d :: mkDs (k + nmD d) ds
theorem mkDs_length : ∀ (k : Int) (ds : List Nd), (mkDs k ds).length = ds.length
 | _, [] => rfl
 | k, d :: ds => by simp [mkDs, mkDs_length]
theorem mkDs_at : ∀ (k : Int) (ds : List Nd) (i : Nat), i < ds.length → (mkDs k ds).getD i nd0 = mkD1 (k + sumD nmD (ds.take i)) (ds.getD i nd0)
 | k, [], i, h => by cases h
 | k, d :: ds, 0, _ => by simp [mkDs, sumD]
 | k, d :: ds, i + 1, h => by
  have ih := mkDs_at (k + nmD d) ds i (by simpa using h)
  rw [mkDs, List.getD_cons_succ, ih, List.take_succ_cons, List.getD_cons_succ]
  simp only [sumD]
  rw [show k + (nmD d : Int) + (sumD nmD (ds.take i) : Nat) = k + ((nmD d + sumD nmD (ds.take i) : Nat) : Int) by omega]
theorem mkDs_app : ∀ (k : Int) (a b : List Nd), mkDs k (a ++ b) = mkDs k a ++ mkDs (k + sumD nmD a) b
 | k, [], b => by simp [mkDs, sumD]
 | k, d :: a, b => by
  simp only [List.cons_append, mkDs, mkDs_app]
  rw [show k + (nmD d : Int) + (sumD nmD a : Int) = k + ((sumD nmD (d :: a) : Nat) : Int) by simp only [sumD]; omega]
theorem set_mkDs (k : Int) (ds : List Nd) (i : Nat) (h : i < ds.length) : (mkDs k (ds.take i) ++ ds.drop i).set i (mkD1 (k + sumD nmD (ds.take i)) (ds.getD i nd0)) = mkDs k (ds.take (i + 1)) ++ ds.drop (i + 1) := by
 rw [List.set_append_right _ _ (by rw [mkDs_length, List.length_take]; omega), mkDs_length, List.length_take, show i - min i ds.length = 0 by omega, take_snocD ds i h, mkDs_app, List.append_assoc]
 congr 1
 have : ds.drop i = ds.getD i nd0 :: ds.drop (i + 1) := by
  rw [List.drop_eq_getElem_cons h]; simp [List.getD, h]
 rw [this, List.set_cons_zero]
 rfl
theorem mkdropD_at (k : Int) (ds : List Nd) (i : Nat) (h : i < ds.length) : (mkDs k (ds.take i) ++ ds.drop i).getD i nd0 = ds.getD i nd0 := by
 rw [getD_app, mkDs_length, List.length_take, if_neg (by omega), show i - min i ds.length = 0 by omega]
 rw [List.drop_eq_getElem_cons h]; simp [List.getD, h]
theorem nmD_le (d : Nd) : nmD d ≤ 1 + 4 * szD d := by have := sumM_eq d.es; unfold nmD szD; omega
theorem sumD_nm : ∀ ds : List Nd, sumD nmD ds ≤ ds.length + 4 * sumD szD ds
 | [] => by simp [sumD]
 | d :: ds => by have := sumD_nm ds; have := nmD_le d; simp [sumD]; omega
set_option maxHeartbeats 6400000 in
theorem markNodeS {lo hi : Nat} {a : Option Addr} {n : Nat} (c : Nat) {ds : List Nd} {w : World} (k : Int) (h : OwnD w lo hi (.slice a n c) ds) (hh : hi ≤ w.heap.size) (hl : ds.length = n) (hn : n ≤ 2097152) (hs : sumD szD ds ≤ 2097152) (hk0 : 0 ≤ k) (hk1 : k ≤ 300000000) :
 Calls Try.prog 65 #[.slice a n c, .int .i64 k] w fun e w' => e = .returned (.int .i64 (k + sumD nmD ds)) ∧ OwnD w' lo hi (.slice a n c) (mkDs k ds) ∧ Within lo hi w w' := by
 obtain ⟨ys, bs, ow, hB, hq⟩ := h.own
 have HQ := hid hq
 have HT := hid h.top
 have hyl : ys.length = n := by rw [hB.len]; exact hl
 have hnm : sumD nmD ds ≤ 10485760 := by have := sumD_nm ds; omega
 rw [hl] at ow
 have HO := hid ow
 have HBB := hid hB
 clear h ow hB hq
 go_enter Try.func65, Try.ntmps65
 go_wp2
 go_loopw [1, 5] (fun x i wr => ∃ j : Nat, j ≤ n ∧ i = .int .i64 j ∧ x = .int .i64 (k + sumD nmD (ds.take j)) ∧ Hid (wr.ownsRow lo 67 3 (.slice a n c) n (cellsD (mkDs k (ds.take j) ++ ds.drop j) ys)) ∧ Hid (BandsD wr lo hi ys (mkDs k (ds.take j) ++ ds.drop j) bs) ∧ Hid (Within lo hi w wr)) (fun _ i _ => n - (intOf i).toNat)
 case atStart => exact ⟨0, Nat.zero_le _, rfl, by simp [sumD], hid (by simpa [mkDs] using HO.out), hid (by simpa [mkDs] using HBB.out), hid (Within.refl _ _ _)⟩
 case round =>
  clear HO HBB
  obtain ⟨j, hj, rfl, rfl, HO, HB, HW⟩ := hrel
  by_cases hlt : j < n
  · have hlt' : (j : Int) < (n : Int) := by omega
    have hj0 : (0 : Int) ≤ (j : Int) := by omega
    have hpl : (mkDs k (ds.take j) ++ ds.drop j).length = n := by rw [List.length_append, mkDs_length, List.length_take, List.length_drop]; omega
    have HSet := hid (set_mkDs k ds j (by omega))
    have hat := mkdropD_at k ds j (by omega)
    have HStep := hid (sumD_step nmD ds j (by omega))
    have hz1 := sumD_take nmD ds (j + 1)
    have hz2 := sumD_at szD ds j (by omega)
    obtain ⟨X, hX⟩ : ∃ X : Int, k + sumD nmD (ds.take j) = X := ⟨_, rfl⟩
    have hX0 : 0 ≤ X ∧ X ≤ 320000000 := by have := sumD_take nmD ds j; omega
    rw [hX] at HSet ⊢
    have HX := hid hX
    generalize mkDs k (ds.take j) ++ ds.drop j = qs at *
    have hrow : ∃ g, a = some ⟨g, 0, none⟩ := by
     rcases HO.out.2 with ⟨_, h0⟩ | ⟨g, cap, cur, e, _⟩
     · omega
     · cases e; exact ⟨g, rfl⟩
    obtain ⟨g, rfl⟩ := hrow
    have hL3 : (cellsD qs ys).length = n * 3 := by rw [cellsD_len _ _ (by omega), hpl]
    have hca := fun q (hq : q < 3) => (HO.out.cellAt (j * 3 + q) (by omega)).trans (cellsD_at qs ys j q (by omega) (by omega) hq)
    rw [hat] at hca
    have S0 := HO.out.stored (j * 3) (.bool (lf3 X))
    have hB1 := HB.out.aside HO.out (by decide) (by decide) (by decide) S0.2
    have hD := hB1.own j (by omega)
    rw [hat] at hD
    have hin := HB.out.inr j (by omega)
    have hgq := HQ.out j (by omega) g rfl
    obtain ⟨m, hm1, hm2, oE, oK⟩ := hD.ex
    obtain ⟨a1, c1, e1⟩ := oE.slice
    obtain ⟨a2, c2, e2⟩ := oK.slice
    rw [e1] at oE
    rw [e2] at oK
    have x0 : wr.cell? ⟨g, j * 3, none⟩ = some (.bool (ds.getD j nd0).leaf) := hca 0 (by omega)
    have x1 : (wr.setCell ⟨g, j * 3, none⟩ (.bool (lf3 X))).cell? ⟨g, j * 3 + 1, none⟩ = some (.slice a1 (ds.getD j nd0).es.length c1) := by
     rw [S0.1.cellAt (j * 3 + 1) (by omega), List.getElem?_set_ne (by omega), cellsD_at qs ys j 1 (by omega) (by omega) (by omega), ← e1]; rfl
    have x1' : wr.cell? ⟨g, j * 3 + 1, none⟩ = some (.slice a1 (ds.getD j nd0).es.length c1) := by
     rw [HO.out.cellAt (j * 3 + 1) (by omega), cellsD_at qs ys j 1 (by omega) (by omega) (by omega), ← e1]; rfl
    have y0 := HO.out.frozenAt (j * 3)
    have hgin : lo ≤ g ∧ g < hi := ⟨(HO.out.lt g rfl).1, HT.out g rfl⟩
    have V1 := HW.out.trans (Within.setCell _ (p := ⟨g, j * 3, none⟩) hgin (.bool (lf3 X)))
    have hsz : hi ≤ (wr.setCell ⟨g, j * 3, none⟩ (.bool (lf3 X))).heap.size := by rw [set_size]; exact Nat.le_trans hh HW.out.size
    have OE := hid oE
    have OK := hid oK
    have HS0 := hid S0.1
    have HB1 := hid hB1
    have VV1 := hid V1
    have HSZ := hid hsz
    have HIN := hid hin
    have HGQ := hid hgq
    have HMM := hid (And.intro hm1 hm2)
    have HE1 := hid e1
    have HE2 := hid e2
    have HPL := hid hpl
    have HL3 := hid hL3
    have HAT := hid hat
    have HLT := hid (HO.out.lt g rfl).2
    clear hca S0 hB1 hD hin hgq hm1 hm2 oE oK V1 hsz e1 e2 hpl hL3 hat HO HB HW hX hgin
    generalize ds.getD j nd0 = d at *
    obtain ⟨lf, es, ks⟩ := d
    simp only [szD, nmD] at hz2 HStep x0 x1 x1' OE OK HE1 HE2
    simp only [mkD1] at HSet
    obtain ⟨q, hq⟩ : ∃ q, es.length = q := ⟨_, rfl⟩
    obtain ⟨u, hu⟩ : ∃ u, ks.length = u := ⟨_, rfl⟩
    rw [hq] at hz2 x1 x1' HE1 OE
    rw [hu] at hz2 HStep HE2 OK HSet
    have HQL := hid hq
    have HUL := hid hu
    clear hq hu
    have hB3 : (X % 3 == 0) = lf3 X := rfl
    have hr0 : 0 ≤ X % 3 := by omega
    have hr1 : X % 3 < 3 := by omega
    go_wp2_with fail
    clear x0 x1 x1' y0 hr0 hr1 hB3
    generalize wr.setCell ⟨g, j * 3, none⟩ (.bool (lf3 X)) = A at *
    refine (markEntryS c1 (X + 1) OE.out HQL.out (by omega) (by omega) (by omega) (by omega)).mono ?_
    rintro e Bw ⟨rfl, oE, wE⟩
    obtain ⟨Y, hY⟩ : ∃ Y : Int, X + 1 + sumM es = Y := ⟨_, rfl⟩
    rw [hY]
    have hsme := sumM_eq es
    have hql := HQL.out
    have hY0 : 0 ≤ Y ∧ Y ≤ 340000000 := by omega
    have x2 : Bw.cell? ⟨g, j * 3 + 2, none⟩ = some (.slice a2 u c2) := by
     have h1 := HGQ.out
     have h2 := HMM.out
     have h3 := HLT.out
     have h4 := HL3.out
     have h5 := HPL.out
     rw [World.cell?_of_block (w := A) (a := ⟨g, j * 3 + 2, none⟩) (wE.block g (by have := (HS0.out.lt g rfl).2; exact this) (by omega)), HS0.out.cellAt (j * 3 + 2) (by omega), List.getElem?_set_ne (by omega), cellsD_at qs ys j 2 (by omega) (by omega) (by omega), HAT.out]
     show some (ys.getD j nilP).2 = _
     rw [HE2.out]
    have oK := OK.out.agree (w' := Bw) (fun p p1 p2 => wE.block p (by have := HSZ.out; have := HIN.out; omega) (by omega))
    have OEB := hid oE
    have OKB := hid oK
    have WE := hid wE
    have HY := hid hY
    clear oE oK wE hY hsme hql
    go_wp2_with fail
    clear x2
    have oK0 := OKB.out.own
    rw [HUL.out] at oK0
    refine (markIntS_any Y (by omega) (by omega) (by omega) oK0).mono ?_
    rintro e C ⟨rfl, oI, gI⟩
    have h2 := HMM.out
    have hin := HIN.out
    have hszA := HSZ.out
    have ktop := OKB.out.top
    have wAC : Within (bs.getD j (0, 0)).1 (bs.getD j (0, 0)).2 A C := ⟨gI.os.trans WE.out.os, gI.tape.trans WE.out.tape, gI.output.trans WE.out.output, Nat.le_trans WE.out.size gI.size, fun p p1 p2 => by
     rw [gI.block p (by have := WE.out.size; omega) (fun e => by have e1 := (oK0.lt p e.symm).1; have e2 := ktop p e.symm; omega), WE.out.block p p1 (by omega)]⟩
    have oEC := OEB.out.agree (w' := C) (fun p p1 p2 => gI.block p (by have := WE.out.size; omega) (fun e => by have e1 := (oK0.lt p e.symm).1; omega))
    have hD : OwnD1 C (bs.getD j (0, 0)).1 (bs.getD j (0, 0)).2 (ys.getD j nilP) ⟨lf3 X, mkEs (X + 1) es, marksI (X + 1 + sumM es) u⟩ := by
     refine ⟨m, h2.1, h2.2, ?_, ?_⟩
     · rw [HE1.out]; exact oEC
     · rw [HE2.out]
       refine ⟨?_, ktop, ?_⟩
       · simp only [marksI_length, HY.out]; exact oI
       · intro i; simp only [HY.out]; exact marksI_bd _ _ _ (by omega) (by omega) (by omega)
    have hBn := HB1.out.put (i := j) (by have := HPL.out; omega) wAC hszA hD
    have hOn : C.ownsRow lo 67 3 (.slice (some ⟨g, 0, none⟩) n c) n (cellsD (qs.set j ⟨lf3 X, mkEs (X + 1) es, marksI (X + 1 + sumM es) u⟩) ys) := by
     rw [← cellsD_set1 qs ys j ⟨lf3 X, mkEs (X + 1) es, marksI (X + 1 + sumM es) u⟩ (by have := HPL.out; omega) (by have := HPL.out; omega)]
     refine owns_agree (lo := g) (hi := g + 1) HS0.out (fun p p1 p2 => wAC.block p ?_ ?_) (fun p hp => ?_)
     · have := (HS0.out.lt g rfl).2; omega
     · obtain rfl : p = g := by omega
       have := HGQ.out; omega
     · have : p = g := by simpa [Value.ownBlock] using hp.symm
       omega
    rw [HSet.out] at hBn hOn
    have N1 := hid hOn
    have N2 := hid hBn
    have N3 := hid (VV1.out.trans (show Within lo hi A C from ⟨wAC.os, wAC.tape, wAC.output, wAC.size, fun p p1 p2 => wAC.block p p1 (by omega)⟩))
    clear hOn hBn hD oEC wAC oI gI oK0 ktop h2 hin hszA
    go_wp2_with fail
    go_roundw
    case rel => exact ⟨j + 1, by omega, by go_num, by rw [show (k + (sumD nmD (ds.take (j + 1)) : Int)) = Y + u by have := HStep.out; have := HX.out; have := HY.out; omega], N1, N2, N3⟩
    case measure => simp [intOf]; omega
  · have hlt' : ¬ (j : Int) < (n : Int) := by omega
    have hjn : j = n := by omega
    subst hjn
    go_wp2
    go_ret
    have e0 : mkDs k (ds.take j) ++ ds.drop j = mkDs k ds := by rw [List.take_of_length_le (by omega), List.drop_eq_nil_of_le (by omega), List.append_nil]
    have e1 := HO.out
    have e2 := HB.out
    rw [e0] at e1 e2
    exact ⟨by rw [List.take_of_length_le (by omega)]; rfl, ⟨⟨ys, bs, by rw [mkDs_length, hl]; exact e1, e2, fun i hi g hg => HQ.out i (by rw [mkDs_length] at hi; exact hi) g hg⟩, HT.out⟩, HW.out⟩
set_option maxHeartbeats 3200000 in
theorem heldNodeS {ad : Option Addr} {n : Nat} (cap : Nat) {ds : List Nd} {w : World} (k : Int) (h : ReadsD w ad (mkDs k ds)) (hl : ds.length = n) (hn : n ≤ 2097152) (hs : sumD szD ds ≤ 2097152) (hk0 : 0 ≤ k) (hk1 : k ≤ 300000000) :
 Calls Try.prog 66 #[.slice ad n cap, .int .i64 k] w fun e w' => e = .returned (.int .i64 (k + sumD nmD ds)) ∧ w' = w := by
 have hnm : sumD nmD ds ≤ 10485760 := by have := sumD_nm ds; omega
 go_enter Try.func66, Try.ntmps66
 go_wp2
 go_loopw [1, 5] (fun x i wr => ∃ j : Nat, j ≤ n ∧ i = .int .i64 j ∧ x = .int .i64 (k + sumD nmD (ds.take j)) ∧ wr = w) (fun _ i _ => n - (intOf i).toNat)
 case atStart => exact ⟨0, Nat.zero_le _, rfl, by simp [sumD], rfl⟩
 case round =>
  obtain ⟨j, hj, rfl, rfl, rfl⟩ := hrel
  by_cases hlt : j < n
  · have hlt' : (j : Int) < (n : Int) := by omega
    have hj0 : (0 : Int) ≤ (j : Int) := by omega
    obtain ⟨b, off, a1, c1, a2, c2, rfl, x0, x1, x2, r1, _, i1, _⟩ := h.at (k := j) (by rw [mkDs_length]; omega)
    have HStep := hid (sumD_step nmD ds j (by omega))
    have hz1 := sumD_take nmD ds (j + 1)
    have hz2 := sumD_at szD ds j (by omega)
    rw [mkDs_at k ds j (by omega)] at x0 x1 x2 r1 i1
    obtain ⟨X, hX⟩ : ∃ X : Int, k + sumD nmD (ds.take j) = X := ⟨_, rfl⟩
    have hX0 : 0 ≤ X ∧ X ≤ 320000000 := by have := sumD_take nmD ds j; omega
    rw [hX] at x0 x1 x2 r1 i1 ⊢
    have HX := hid hX
    generalize ds.getD j nd0 = d at *
    obtain ⟨lf, es, ks⟩ := d
    simp only [nmD, szD] at HStep hz2
    simp only [mkD1, mkEs_length, marksI_length] at x0 x1 x2 r1 i1
    obtain ⟨q, hq⟩ : ∃ q, es.length = q := ⟨_, rfl⟩
    obtain ⟨u, hu⟩ : ∃ u, ks.length = u := ⟨_, rfl⟩
    rw [hq] at x1 hz2
    rw [hu] at x2 i1 hz2 HStep
    obtain ⟨Y, hY⟩ : ∃ Y : Int, X + 1 + sumM es = Y := ⟨_, rfl⟩
    have hsme := sumM_eq es
    have hY0 : 0 ≤ Y ∧ Y ≤ 340000000 := by omega
    have hYn : ¬ Y < 0 := by omega
    rw [hY] at i1
    obtain ⟨T, hT⟩ : ∃ T : Int, Y + u = T := ⟨_, rfl⟩
    have hTn : ¬ T < 0 := by omega
    have HTT := hid hT
    have HY := hid hY
    have HQL := hid hq
    have R1 := hid r1
    have I1 := hid i1
    have hB3 : (X % 3 == 0) = lf3 X := rfl
    have hB4 : (lf3 X != lf3 X) = false := by simp
    have hr0 : 0 ≤ X % 3 := by omega
    have hr1 : X % 3 < 3 := by omega
    clear r1 i1 hX hY hT hsme hq hu
    go_wp2_with fail
    refine (heldEntryS c1 (X + 1) R1.out HQL.out (by omega) (by omega) (by omega) (by omega)).mono ?_
    rintro e w1 ⟨rfl, e1⟩
    subst w1
    rw [HY.out]
    go_wp2_with fail
    refine (heldIntS_any c2 Y I1.out (by omega) (by omega) (by omega)).mono ?_
    rintro e w1 ⟨rfl, e1⟩
    subst w1
    rw [HTT.out]
    go_wp2_with fail
    go_roundw
    case rel => exact ⟨j + 1, by omega, by go_num, by rw [show (k + (sumD nmD (ds.take (j + 1)) : Int)) = T by have := HStep.out; have := HX.out; have := HY.out; have := HTT.out; omega], by trivial⟩
    case measure => simp [intOf]; omega
  · have hlt' : ¬ (j : Int) < (n : Int) := by omega
    go_wp2
    go_ret
    exact ⟨by rw [List.take_of_length_le (by omega)]; rfl, rfl⟩
set_option maxHeartbeats 1600000 in
theorem markTree {lo hi : Nat} {a : Option Addr} {n : Nat} (c : Nat) (rt : Int) {ds : List Nd} {w : World} (k : Int) (h : OwnD w lo hi (.slice a n c) ds) (hh : hi ≤ w.heap.size) (hl : ds.length = n) (hn : n ≤ 2097152) (hs : sumD szD ds ≤ 2097152) (hk0 : 0 ≤ k) (hk1 : k ≤ 300000000) :
 Calls Try.prog 28 #[.agg #[.slice a n c, .int .i64 rt], .int .i64 k] w fun e w' => e = .returned (.int .i64 (k + sumD nmD ds)) ∧ OwnD w' lo hi (.slice a n c) (mkDs k ds) ∧ Within lo hi w w' := by
 have hA := Below.alloc1 w (.cells #[.slice a n c, .int .i64 rt] 26)
 have h1 := hid (h.below hA hh)
 have G0 := hid (Within.of_below (lo := lo) (hi := hi) hA (Nat.le_refl _))
 have HS := hid (show hi ≤ (w.alloc (.cells #[.slice a n c, .int .i64 rt] 26)).heap.size by rw [alloc_size]; omega)
 clear h hA
 go_enter Try.func28, Try.ntmps28
 go_wp2_with fail
 refine (markNodeS c k h1.out HS.out hl hn hs hk0 hk1).mono ?_
 rintro e W1 ⟨rfl, o1, G1⟩
 have O1 := hid o1
 have HG := hid (G0.out.trans G1)
 clear o1 G1
 go_wp2_with fail
 go_ret
 exact ⟨rfl, O1.out, HG.out⟩
set_option maxHeartbeats 1600000 in
theorem heldTree {ad : Option Addr} {n : Nat} (cap : Nat) (rt : Int) {ds : List Nd} {w : World} (k : Int) (h : ReadsD w ad (mkDs k ds)) (hl : ds.length = n) (hn : n ≤ 2097152) (hs : sumD szD ds ≤ 2097152) (hk0 : 0 ≤ k) (hk1 : k ≤ 300000000) :
 Calls Try.prog 29 #[.agg #[.slice ad n cap, .int .i64 rt], .int .i64 k] w fun e w' => e = .returned (.int .i64 (k + sumD nmD ds)) ∧ Below w.heap.size w w' := by
 have hB := Below.alloc1 w (.cells #[.slice ad n cap, .int .i64 rt] 26)
 have H1 := hid (h.below hB (Nat.le_refl _))
 have HB := hid hB
 obtain ⟨Y, hY⟩ : ∃ Y : Int, k + sumD nmD ds = Y := ⟨_, rfl⟩
 have q2 : ¬ Y < 0 := by omega
 have HY := hid hY
 clear hB h hY
 go_enter Try.func29, Try.ntmps29
 go_wp2_with fail
 refine (heldNodeS cap k H1.out hl hn hs hk0 hk1).mono ?_
 rintro e w1 ⟨rfl, e1⟩
 subst w1
 rw [HY.out]
 go_wp2_with fail
 go_ret
 exact ⟨by rw [HY.out]; rfl, HB.out⟩
end Go.Proofs.Ytphmlndkjgldkaa
/- What FnExactTreeDrop's walk rests on: sizes behind a drop, the room of lists, nodes told by types. No statement of its own; no conditions. -/


namespace Go.Proofs.Ytphmlndkjgldkaa
open Go.RowKit
set_option maxRecDepth 100000
theorem sumE_filter (p : En → Bool) : ∀ es : List En, sumE (es.filter p) ≤ sumE es
 | [] => Nat.le_refl _
 | e :: es => by
  have := sumE_filter p es
  rw [List.filter_cons]
  split
  · simp only [sumE]; omega
  · simp only [sumE]; omega
theorem szD_out (q : En) (d : Nd) : szD (outD q d) ≤ szD d := by
 unfold outD
 split
 · have := sumE_filter (offE q) d.es
   have := List.length_filter_le (offE q) d.es
   unfold szD
   dsimp only
   omega
 · exact Nat.le_refl _
theorem sumD_drop (q : En) : ∀ ns : List Nd, sumD szD (dropN ns q) ≤ sumD szD ns
 | [] => Nat.le_refl _
 | d :: ns => by
  have := sumD_drop q ns
  have := szD_out q d
  unfold dropN at *
  simp only [List.map_cons, sumD]
  omega
theorem dropT_small (ns : List Nd) (root : Int) (q : En) : (dropT ns root q).1.length ≤ ns.length ∧ sumD szD (dropT ns root q).1 ≤ sumD szD ns := by
 unfold dropT
 split
 · exact ⟨by simp [dropN], sumD_drop q ns⟩
 · exact ⟨Nat.zero_le _, Nat.zero_le _⟩
section
variable {w w' : World} {ad : Option Addr} {N : Nat} {ds : List Nd}
theorem CapD.below (h : CapD w ad N) (hr : ReadsD w ad ds) (hl : ds.length = N) (hb : Below w.heap.size w w') : CapD w' ad N := fun k hk b off n c a e hc => by
 obtain ⟨b', off', a', c', a2, c2, e', h0, h1, h2, _⟩ := hr.at (k := k) (by omega)
 rw [e] at e'
 cases e'
 exact h k hk e ((hb.cell (p := ⟨b, off + k * 3 + 1, none⟩) (World.block_lt_of_cell? w _ h1)).symm.trans hc)
theorem KapD.below (h : KapD w ad N) (hr : ReadsD w ad ds) (hl : ds.length = N) (hb : Below w.heap.size w w') : KapD w' ad N := fun k hk b off n c a e hc => by
 obtain ⟨b', off', a', c', a2, c2, e', h0, h1, h2, _⟩ := hr.at (k := k) (by omega)
 rw [e] at e'
 cases e'
 exact h k hk e ((hb.cell (p := ⟨b, off + k * 3 + 2, none⟩) (World.block_lt_of_cell? w _ h2)).symm.trans hc)
theorem OwnD.nsr {lo hi : Nat} {v : Value} (h : OwnD w lo hi v ds) : ∃ ys, NsR w lo v ds ys := by
 obtain ⟨ys, bs, o, hB, _⟩ := h.own
 refine ⟨ys, hB.len, o, fun i hi => ?_⟩
 obtain ⟨m, _, _, oE, oK⟩ := (hB.own i hi).ex
 obtain ⟨xs, he⟩ := oE.enr
 exact ⟨⟨_, xs, he⟩, ⟨⟨_, oK.own⟩, oK.bd⟩⟩
theorem NsR.cap {b n c : Nat} {a : Option Addr} {ys : List (Value × Value)} (h : NsR w b (.slice a n c) ds ys) (hl : ds.length = n) : CapD w a n ∧ KapD w a n := by
 have o := h.own
 rw [hl] at o
 have key : ∀ k, k < n → ∀ {b1 off : Nat}, a = some ⟨b1, off, none⟩ → ∀ j, j < 3 → w.cell? ⟨b1, off + k * 3 + j, none⟩ = (cellsD1 (ds.getD k nd0) (ys.getD k nilP))[j]? := fun k hk b1 off e j hj => by
  subst e
  rcases o.2 with ⟨e2, hz⟩ | ⟨g, cp, cu, e2, _⟩
  · omega
  · cases e2
    rw [Nat.zero_add]
    exact (o.cellAt (k * 3 + j) (by omega)).trans (cellsD_at ds ys k j h.len (by omega) hj)
 refine ⟨fun k hk b1 off n1 c1 a1 e hc => ?_, fun k hk b1 off n1 c1 a1 e hc hn => ?_⟩
 · have h1 := key k hk e 1 (by omega)
   obtain ⟨b2, xs, oE⟩ := (h.nd k (by omega)).es
   have h2 : (ys.getD k nilP).1 = .slice a1 n1 c1 := by
    rw [hc] at h1
    exact (Option.some.inj h1).symm
   have oo := oE.own
   rw [h2] at oo
   rcases oo.2 with ⟨e3, hz⟩ | ⟨g, cp, cu, e3, _, _, q1, q2, _⟩
   · cases e3; exact ⟨Nat.le_refl _, Nat.zero_le _⟩
   · cases e3; exact ⟨q1, q2⟩
 · have h1 := key k hk e 2 (by omega)
   obtain ⟨b2, oK⟩ := (h.nd k (by omega)).ks.own
   have h2 : (ys.getD k nilP).2 = .slice a1 n1 c1 := by
    rw [hc] at h1
    exact (Option.some.inj h1).symm
   rw [h2] at oK
   rcases oK.2 with ⟨e3, hz⟩ | ⟨g, cp, cu, e3, _⟩
   · cases e3; rfl
   · cases e3; cases hn
theorem NsR.row {b p : Nat} {v : Value} {ys : List (Value × Value)} {cs cs' : Array Value} {fz : Nat × Nat} (h : NsR w b v ds ys) (hp : w.heap[p]? = some (.cells cs 26 fz)) : NsR (w.setRow p cs') b v ds ys := by
 have g2 := row_grown11 w p cs'
 refine ⟨h.len, h.own.kept g2 (.inr (fun e => ?_)), fun i hi => (h.nd i hi).kn (KN.grown g2 (fun q hq => by obtain rfl := Option.some.inj hq; exact ⟨_, _, _, hp, .inr rfl⟩))⟩
 rcases h.own.2 with ⟨e2, _⟩ | ⟨g, cp, cu, e2, _, hg, _⟩
 · rw [e2] at e; cases e
 · rw [e2] at e
   have e3 : g = p := by first | exact Option.some.inj e | exact (Option.some.inj e).symm
   rw [e3, hp] at hg
   simp only [Option.some.injEq, Obj.cells.injEq] at hg
   exact absurd hg.2.1 (by decide)
end
end Go.Proofs.Ytphmlndkjgldkaa
/- A tree in a block; texts of a tree that measures little. No statement of its own; no conditions. -/

namespace Go.Proofs.Ytphmlndkjgldkaa
open Go.RowKit
set_option maxRecDepth 100000
structure BoxTr (w : World) (g : Nat) (v : Value) (rt : Int) : Prop where
 c0 : w.cell? ⟨g, 0, none⟩ = some v
 c1 : w.cell? ⟨g, 1, none⟩ = some (.int .i64 rt)
structure ArgTr (w : World) (g : Nat) (ad : Option Addr) (n c : Nat) (rt : Int) (ds : List Nd) : Prop where
 box : BoxTr w g (.slice ad n c) rt
 reads : ReadsD w ad ds
theorem BoxTr.lt {w : World} {g : Nat} {v : Value} {rt : Int} (h : BoxTr w g v rt) : g < w.heap.size := World.block_lt_of_cell? w _ h.c0
theorem BoxTr.below {w w' : World} {g : Nat} {v : Value} {rt : Int} (h : BoxTr w g v rt) {B : Nat} (hb : Below B w w') (hB : w.heap.size ≤ B) : BoxTr w' g v rt := by
 have hlt := h.lt
 exact ⟨by rw [hb.cell (p := ⟨g, 0, none⟩) (by simp; omega)]; exact h.c0, by rw [hb.cell (p := ⟨g, 1, none⟩) (by simp; omega)]; exact h.c1⟩
theorem BoxTr.within {w w' : World} {g : Nat} {v : Value} {rt : Int} (h : BoxTr w g v rt) {lo hi : Nat} (hb : Within lo hi w w') (ho : g < lo ∨ hi ≤ g) : BoxTr w' g v rt := by
 refine ⟨?_, ?_⟩
 · rw [show w'.cell? ⟨g, 0, none⟩ = w.cell? ⟨g, 0, none⟩ by simp only [World.cell?]; rw [hb.block g h.lt ho]]
   exact h.c0
 · rw [show w'.cell? ⟨g, 1, none⟩ = w.cell? ⟨g, 1, none⟩ by simp only [World.cell?]; rw [hb.block g h.lt ho]]
   exact h.c1
theorem BoxTr.new (w : World) (v : Value) (rt : Int) (t : TypeId) : BoxTr (w.alloc (.cells #[v, .int .i64 rt] t)) w.heap.size v rt := by
 have hR := heap_alloc_new w (.cells #[v, .int .i64 rt] t)
 exact ⟨by rw [cell_of_row _ _ _ _ _ _ hR]; rfl, by rw [cell_of_row _ _ _ _ _ _ hR]; rfl⟩
theorem ArgTr.below {w w' : World} {g : Nat} {ad : Option Addr} {n c : Nat} {rt : Int} {ds : List Nd} (h : ArgTr w g ad n c rt ds) {B : Nat} (hb : Below B w w') (hB : w.heap.size ≤ B) : ArgTr w' g ad n c rt ds := ⟨h.box.below hb hB, h.reads.below hb hB⟩
theorem ArgTr.new {w : World} {ad : Option Addr} (n c : Nat) (rt : Int) {ds : List Nd} (h : ReadsD w ad ds) (t : TypeId) (g : Nat) (hg : g = w.heap.size) : ArgTr (w.alloc (.cells #[.slice ad n c, .int .i64 rt] t)) g ad n c rt ds := by
 subst hg
 exact ⟨BoxTr.new w _ _ _, h.below (Below.alloc1 w _) (Nat.le_refl _)⟩
theorem texts_small {ds : List Nd} {B : Nat} (h : sumD szD ds ≤ B) (i j : Nat) : ((ds.getD i nd0).es.getD j en0).Z.length ≤ B := by
 by_cases hi : i < ds.length
 · by_cases hj : j < (ds.getD i nd0).es.length
   · have h1 := sumD_at szD ds i hi
     have h2 := sumE_at _ j hj
     have h3 : szD (ds.getD i nd0) = (ds.getD i nd0).es.length + sumE (ds.getD i nd0).es + (ds.getD i nd0).ks.length := rfl
     omega
   · rw [List.getD_eq_getElem?_getD, List.getElem?_eq_none (Nat.le_of_not_lt hj)]
     simp [en0]
 · rw [show ds.getD i nd0 = nd0 by rw [List.getD_eq_getElem?_getD, List.getElem?_eq_none (Nat.le_of_not_lt hi)]; rfl]
   simp [nd0, en0]
end Go.Proofs.Ytphmlndkjgldkaa
