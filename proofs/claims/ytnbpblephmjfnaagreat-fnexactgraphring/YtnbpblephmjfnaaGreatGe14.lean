/- The contract of the laws' markDeedS. Conditions: deeds of at most 2^21 bytes together. -/
import Derived.Test.YtnbpblephmjfnaaGreatGc14
import Derived.Test.YtnbpblephmjfnaaGreatMgc
namespace Go.Proofs.YtnbpblephmjfnaaGreat
open Go.RowKit
set_option maxRecDepth 100000
def mkD1 (k : Int) (t : Tk) : Tk := ⟨k, k + 1, k + 1 + 1, t.all, mk2 (k + 1 + 1 + 1) t.rs, mkIs (k + 1 + 1 + 1 + sumN (fl2 t.rs)) t.ws, t.inn, t.out⟩
def nmD (t : Tk) : Nat := 3 + sumN (fl2 t.rs) + sumN t.ws
def sumDd : List Tk → Nat
 | [] => 0
 | t :: ts => nmD t + sumDd ts
theorem sumDd_app : ∀ a b : List Tk, sumDd (a ++ b) = sumDd a + sumDd b
 | [], b => by simp [sumDd]
 | t :: a, b => by simp [sumDd, sumDd_app a b]; omega
theorem sumDd_step (ts : List Tk) (k : Nat) (h : k < ts.length) : sumDd (ts.take (k + 1)) = sumDd (ts.take k) + nmD (ts.getD k tk0) := by
 rw [take_snocT ts k h, sumDd_app]; simp [sumDd]
theorem sumDd_take (ts : List Tk) (k : Nat) : sumDd (ts.take k) ≤ sumDd ts := by
 have : sumDd ts = sumDd (ts.take k ++ ts.drop k) := by rw [List.take_append_drop]
 rw [this, sumDd_app]; omega
theorem nmD_le (t : Tk) : nmD t ≤ 3 + 6 * szT t := by
 unfold nmD szT
 rw [sumN_eq, sumN_eq, fl2_len]
 omega
theorem sumDd_le : ∀ ts : List Tk, sumDd ts ≤ 3 * ts.length + 6 * sumT ts
 | [] => by simp [sumDd]
 | t :: ts => by
  have h1 := nmD_le t
  have h2 := sumDd_le ts
  simp only [sumDd, sumT, List.length_cons]
  omega
def mkDds : Int → List Tk → List Tk
 | _, [] => []
 | k, t :: ts => mkD1 k t :: mkDds (k + nmD t) ts
theorem mkDds_length : ∀ (k : Int) (ts : List Tk), (mkDds k ts).length = ts.length
 | _, [] => rfl
 | k, t :: ts => by simp [mkDds, mkDds_length]
theorem mkDds_app : ∀ (k : Int) (a b : List Tk), mkDds k (a ++ b) = mkDds k a ++ mkDds (k + sumDd a) b
 | k, [], b => by simp [mkDds, sumDd]
 | k, t :: a, b => by
  simp only [List.cons_append, mkDds, mkDds_app]
  rw [show k + (nmD t : Int) + (sumDd a : Int) = k + ((sumDd (t :: a) : Nat) : Int) by simp only [sumDd]; omega]
def QDd (k : Int) (ts : List Tk) (i : Nat) : List Tk := mkDds k (ts.take i) ++ ts.drop i
theorem QDd_zero (k : Int) (ts : List Tk) : QDd k ts 0 = ts := by simp [QDd, mkDds]
theorem QDd_all (k : Int) (ts : List Tk) {i : Nat} (h : ts.length ≤ i) : QDd k ts i = mkDds k ts := by
 unfold QDd
 rw [List.take_of_length_le h, List.drop_eq_nil_of_le h, List.append_nil]
theorem QDd_len (k : Int) (ts : List Tk) (i : Nat) : (QDd k ts i).length = ts.length := by
 unfold QDd
 rw [List.length_append, mkDds_length, List.length_take, List.length_drop]; omega
theorem QDd_set (k : Int) (ts : List Tk) (i : Nat) (h : i < ts.length) : (QDd k ts i).set i (mkD1 (k + sumDd (ts.take i)) (ts.getD i tk0)) = QDd k ts (i + 1) := by
 unfold QDd
 rw [List.set_append_right _ _ (by rw [mkDds_length, List.length_take]; omega), mkDds_length, List.length_take, show i - min i ts.length = 0 by omega, take_snocT ts i h, mkDds_app, List.append_assoc]
 congr 1
 have : ts.drop i = ts.getD i tk0 :: ts.drop (i + 1) := by
  rw [List.drop_eq_getElem_cons h]; simp [List.getD, h]
 rw [this, List.set_cons_zero]
 rfl
theorem QDd_at (k : Int) (ts : List Tk) (i : Nat) (h : i < ts.length) : (QDd k ts i).getD i tk0 = ts.getD i tk0 := by
 unfold QDd
 rw [getD_app, mkDds_length, List.length_take, if_neg (by omega), show i - min i ts.length = 0 by omega]
 rw [List.drop_eq_getElem_cons h]; simp [List.getD, h]
theorem cellsV_set3 : ∀ (ts : List Tk) (ms : List Mt) (k : Nat) (t : Tk), ms.length = ts.length → k < ts.length → (((cellsV ts ms).set (k * 5) (.int .i64 t.xid)).set (k * 5 + 1) (.int .i64 t.begun)).set (k * 5 + 2) (.int .i64 t.ended) = cellsV (ts.set k t) ms
 | q :: ts, y :: ms, 0, t, _, _ => by simp [cellsV, cellsV1]
 | q :: ts, y :: ms, k + 1, t, h, hk => by
  have ih := cellsV_set3 ts ms k t (by simpa using h) (by simpa using hk)
  rw [show (k + 1) * 5 = k * 5 + 5 by omega]
  simp only [cellsV, cellsV1, List.cons_append, List.nil_append, List.set_cons_succ, ← ih]
set_option maxHeartbeats 6400000 in
theorem markDeedS {lo hi : Nat} {a : Option Addr} {n : Nat} (c : Nat) {ts : List Tk} {ms : List Mt} {w : World} (k : Int) (hrow : w.ownsRow lo 68 5 (.slice a n c) n (cellsV ts ms)) (hb : BandsT w lo hi ms ts) (hl : ts.length = n) (hn : n ≤ 2097152) (hs : sumT ts ≤ 2097152) (hk0 : 0 ≤ k) (hk1 : k ≤ 300000000) :
 Calls Tryz.prog 21 #[.slice a n c, .int .i64 k] w fun e w' => e = .returned (.int .i64 (k + sumDd ts)) ∧ w'.ownsRow lo 68 5 (.slice a n c) n (cellsV (mkDds k ts) ms) ∧ BandsT w' lo hi ms (mkDds k ts) ∧ Keeps (blkA (.slice a n c) ms) w w' := by
 have hsb : sumDd ts ≤ 30000000 := by have := sumDd_le ts; omega
 have HO := hid hrow
 have HBB := hid hb
 clear hrow hb
 go_enter Tryz.func21, Tryz.ntmps21
 go_wp2
 go_loopw [1, 5] (fun x i wr => ∃ j : Nat, j ≤ n ∧ i = .int .i64 j ∧ x = .int .i64 (k + sumDd (ts.take j)) ∧ Hid (wr.ownsRow lo 68 5 (.slice a n c) n (cellsV (QDd k ts j) ms)) ∧ Hid (BandsT wr lo hi ms (QDd k ts j)) ∧ Hid (Keeps (blkA (.slice a n c) ms) w wr)) (fun _ i _ => n - (intOf i).toNat)
 case atStart => exact ⟨0, Nat.zero_le _, rfl, by simp [sumDd], hid (by rw [QDd_zero]; exact HO.out), hid (by rw [QDd_zero]; exact HBB.out), hid (Keeps.refl _ _)⟩
 case round =>
  clear HO HBB
  obtain ⟨j, hj, rfl, rfl, HO, HB, HW⟩ := hrel
  by_cases hlt : j < n
  · have hlt' : (j : Int) < (n : Int) := by omega
    have hj0 : (0 : Int) ≤ (j : Int) := by omega
    have hpl := QDd_len k ts j
    have HSet := hid (QDd_set k ts j (by omega))
    have hat := QDd_at k ts j (by omega)
    have HStep := hid (sumDd_step ts j (by omega))
    have hz2 := sumT_at ts j (by omega)
    obtain ⟨X, hX⟩ : ∃ X : Int, k + sumDd (ts.take j) = X := ⟨_, rfl⟩
    have hX0 : 0 ≤ X ∧ X ≤ 330000000 := by have := sumDd_take ts j; omega
    rw [hX] at HSet ⊢
    have HX := hid hX
    generalize QDd k ts j = qs at *
    have hml := HB.out.len
    have hrow : ∃ g, a = some ⟨g, 0, none⟩ := by
     rcases HO.out.2 with ⟨_, h0⟩ | ⟨g, cap, cur, e, _⟩
     · omega
     · cases e; exact ⟨g, rfl⟩
    obtain ⟨g, rfl⟩ := hrow
    have hca := fun q (hq : q < 5) => (HO.out.cellAt (j * 5 + q) (by omega)).trans (cellsV_at qs ms j q hml (by omega) hq)
    have hj1 := HB.out.own j (by omega)
    rw [hat] at hca hj1
    obtain ⟨a1, c1, e1⟩ := hj1.rd.slice
    obtain ⟨a2, c2, e2⟩ := hj1.wr.slice
    have S0 := HO.out.stored (j * 5) (.int .i64 X)
    have S1 := S0.1.stored (j * 5 + 1) (.int .i64 (X + 1))
    have S2 := S1.1.stored (j * 5 + 2) (.int .i64 (X + 1 + 1))
    have K4 : Keeps (fun b => (Value.slice (some ⟨g, 0, none⟩) n c).ownBlock = some b) wr (((wr.setCell ⟨g, j * 5, none⟩ (.int .i64 X)).setCell ⟨g, j * 5 + 1, none⟩ (.int .i64 (X + 1))).setCell ⟨g, j * 5 + 2, none⟩ (.int .i64 (X + 1 + 1))) := ((Keeps.grown S0.2 (fun _ e => e)).trans (Keeps.grown S1.2 (fun _ e => e))).trans (Keeps.grown S2.2 (fun _ e => e))
    have hj4 := hj1.keep K4 (fun b hb e => hj1.off HO.out (by decide) (by decide) (by decide) hb e)
    have HJ4 := hid hj4
    have HRow4 := hid S2.1
    have HJ1 := hid hj1
    have HK4 := hid K4
    have HE1 := hid e1
    have HE2 := hid e2
    have x0 : wr.cell? ⟨g, j * 5, none⟩ = some _ := hca 0 (by omega)
    have x1 : wr.cell? ⟨g, j * 5 + 1, none⟩ = some _ := hca 1 (by omega)
    have x2 : wr.cell? ⟨g, j * 5 + 2, none⟩ = some _ := hca 2 (by omega)
    have x4' : wr.cell? ⟨g, j * 5 + 3, none⟩ = some (.slice a1 (ts.getD j tk0).rs.length c1) := by have := hca 3 (by omega); simp only [cellsV1, e1] at this; exact this
    have x4 : (((wr.setCell ⟨g, j * 5, none⟩ (.int .i64 X)).setCell ⟨g, j * 5 + 1, none⟩ (.int .i64 (X + 1))).setCell ⟨g, j * 5 + 2, none⟩ (.int .i64 (X + 1 + 1))).cell? ⟨g, j * 5 + 3, none⟩ = some (.slice a1 (ts.getD j tk0).rs.length c1) := by
     have hz := cellsV_len qs ms hml
     rw [S2.1.cellAt (j * 5 + 3) (by omega), List.getElem?_set_ne (by omega), List.getElem?_set_ne (by omega), List.getElem?_set_ne (by omega), cellsV_at qs ms j 3 hml (by omega) (by omega), hat]
     simp only [cellsV1, e1]; rfl
    have y0 := HO.out.frozenAt (j * 5)
    have y1 := HO.out.frozenAt (j * 5 + 1)
    have y2 := HO.out.frozenAt (j * 5 + 2)
    have HML := hid hml
    have HPL := hid hpl
    have HAT := hid hat
    clear hca S0 S1 S2 K4 hj1 hj4 e1 e2 hml hpl hat hX
    generalize ts.getD j tk0 = t at *
    obtain ⟨xi, be, en, al, rs, ws, inn, ou⟩ := t
    simp only [szT, nmD] at hz2 HStep x0 x1 x2 x4 x4' HJ4 HJ1
    obtain ⟨n1, hn1⟩ : ∃ n1, rs.length = n1 := ⟨_, rfl⟩
    obtain ⟨n2, hn2⟩ : ∃ n2, ws.length = n2 := ⟨_, rfl⟩
    simp only [hn1] at x4 x4' HE1
    simp only [hn2] at HE2
    rw [hn1, hn2] at hz2
    have HN1 := hid (show (fl2 rs).length = n1 * 2 by rw [fl2_len, hn1])
    have HN2 := hid hn2
    have HN1' := hid hn1
    have HR4 := hid (show OwnX 74 8 (((wr.setCell ⟨g, j * 5, none⟩ (.int .i64 X)).setCell ⟨g, j * 5 + 1, none⟩ (.int .i64 (X + 1))).setCell ⟨g, j * 5 + 2, none⟩ (.int .i64 (X + 1 + 1))) lo hi (.slice a1 n1 c1) n1 (fl2 rs) (ms.getD j mt0).X from by rw [← HE1.out]; have := HJ4.out.rd; simp only [hn1] at this; exact this)
    have hsz := sumN_eq (fl2 rs)
    have hsz2 := sumN_eq ws
    rw [fl2_len, hn1] at hsz
    rw [hn2] at hsz2
    have HSB := hid (show n1 ≤ 2097152 ∧ n2 ≤ 2097152 ∧ sumI (fl2 rs) ≤ 2097152 ∧ sumI ws ≤ 2097152 ∧ sumN (fl2 rs) ≤ 15000000 ∧ sumN ws ≤ 15000000 by omega)
    clear hn1 hn2 hz2 hsz hsz2
    go_wp2_with fail
    clear x0 x1 x2 x4 x4' y0 y1 y2
    obtain ⟨A, hA⟩ : ∃ A, (((wr.setCell ⟨g, j * 5, none⟩ (.int .i64 X)).setCell ⟨g, j * 5 + 1, none⟩ (.int .i64 (X + 1))).setCell ⟨g, j * 5 + 2, none⟩ (.int .i64 (X + 1 + 1))) = A := ⟨_, rfl⟩
    rw [hA] at HR4 HJ4 HRow4 HK4 ⊢
    clear hA
    refine (markSpanS c1 (X + 1 + 1 + 1) HR4.out HN1.out HSB.out.1 HSB.out.2.2.1 (by omega) (by omega)).mono ?_
    rintro e Bw ⟨rfl, oR, kR⟩
    obtain ⟨Y, hY⟩ : ∃ Y : Int, X + 1 + 1 + 1 + sumN (fl2 rs) = Y := ⟨_, rfl⟩
    rw [hY]
    have hY0 : 0 ≤ Y ∧ Y ≤ 350000000 := by have := HSB.out; omega
    have HY := hid hY
    have HOR := hid oR
    have HKR := hid kR
    have rowB := owns_keep HRow4.out kR (fun b hb => row_off HR4.out HRow4.out (by decide) (by decide) hb)
    have wrB := HJ4.out.wr.keep kR (fun b hb hc => by
     rw [← HE1.out] at hc
     exact HJ4.out.rw_apart hc hb)
    have HRowB := hid rowB
    have HWB := hid (show OwnX 72 4 Bw lo hi (.slice a2 n2 c2) n2 ws (ms.getD j mt0).Y from by rw [← HE2.out]; have := wrB; simp only [HN2.out] at this; exact this)
    have x5 : Bw.cell? ⟨g, j * 5 + 4, none⟩ = some (.slice a2 n2 c2) := by
     have hz := cellsV_len qs ms HML.out
     have hp := HPL.out
     rw [rowB.cellAt (j * 5 + 4) (by omega), List.getElem?_set_ne (by omega), List.getElem?_set_ne (by omega), List.getElem?_set_ne (by omega), cellsV_at qs ms j 4 HML.out (by omega) (by omega), HAT.out]
     simp only [cellsV1, HE2.out]; rfl
    clear oR kR rowB wrB hY
    go_wp2_with fail
    clear x5
    refine (markItemS c2 Y HWB.out HN2.out HSB.out.2.1 HSB.out.2.2.2.1 (by omega) (by omega)).mono ?_
    rintro e Cw ⟨rfl, oW, kW⟩
    obtain ⟨Z, hZ⟩ : ∃ Z : Int, Y + sumN ws = Z := ⟨_, rfl⟩
    rw [hZ]
    have hZ0 : 0 ≤ Z ∧ Z ≤ 370000000 := by have := HSB.out; omega
    have rowC := owns_keep HRowB.out kW (fun b hb => row_off HWB.out HRowB.out (by decide) (by decide) hb)
    have rdC := HOR.out.keep kW (fun b hb hc => by
     rw [← HE2.out] at hc
     rw [← HE1.out] at hb
     exact HJ1.out.rw_apart hb hc)
    -- all that changed
    have KJ : Keeps (fun b => (Value.slice (some ⟨g, 0, none⟩) n c).ownBlock = some b ∨ blkT (ms.getD j mt0) b) wr Cw := by
     refine (HK4.out.mono (fun b hb => .inl hb)).trans ?_
     exact (HKR.out.mono (fun b hb => .inr (.inl (by rw [HE1.out]; exact hb)))).trans (kW.mono (fun b hb => .inr (.inr (by rw [HE2.out]; exact hb))))
    have NT : mkD1 X ⟨xi, be, en, al, rs, ws, inn, ou⟩ = ⟨X, X + 1, X + 1 + 1, al, mk2 (X + 1 + 1 + 1) rs, mkIs Y ws, inn, ou⟩ := by
     unfold mkD1
     simp only
     rw [HY.out]
    have OJ : OwnT1 Cw lo hi (ms.getD j mt0) (mkD1 X ⟨xi, be, en, al, rs, ws, inn, ou⟩) := by
     rw [NT]
     refine ⟨?_, ?_, HJ1.out.apart⟩
     · rw [HE1.out]; simp only [mk2_length, fl2_mk2, HN1'.out]; exact rdC
     · rw [HE2.out]; simp only [mkIs_length, HN2.out]; exact oW
    have BN : BandsT Cw lo hi ms (QDd k ts (j + 1)) := by
     rw [← HSet.out]
     refine ⟨by rw [List.length_set]; exact HML.out, fun i hi' => ?_, fun i i' h1 h2 => HB.out.apart i i' h1 (by rw [List.length_set] at h2; exact h2)⟩
     rw [List.length_set] at hi'
     rw [getD_set' _ _ _ _ _ (by rw [HPL.out]; omega)]
     split
     · rename_i e; subst e; exact OJ
     · rename_i e
       refine (HB.out.own i hi').keep KJ (fun b hb hc => ?_)
       rcases hc with hc | hc
       · exact (HB.out.own i hi').off HO.out (by decide) (by decide) (by decide) hb hc
       · rcases Nat.lt_or_gt_of_ne e with q | q
         · exact HB.out.apart i j q (by rw [HPL.out]; omega) b hb hc
         · exact HB.out.apart j i q hi' b hc hb
    have RN := rowC
    have hcs := cellsV_set3 qs ms j (mkD1 X ⟨xi, be, en, al, rs, ws, inn, ou⟩) HML.out (by rw [HPL.out]; omega)
    rw [HSet.out, NT] at hcs
    simp only at hcs
    rw [hcs] at RN
    have N1 := hid RN
    have N2 := hid BN
    have N3 := hid (HW.out.trans (KJ.mono (fun b hb => by
     rcases hb with hb | hb
     · exact .inl hb
     · exact .inr ⟨j, hb⟩)))
    have HZE := hid (show k + sumDd (ts.take (j + 1)) = Z by
     have s1 := HStep.out
     have s2 := HX.out
     have s3 := HY.out
     omega)
    clear KJ NT OJ BN RN hcs rdC rowC oW kW hZ HJ1 HJ4 HRow4 HK4 HR4 HOR HKR HRowB HWB HO HB HW
    go_wp2_with fail
    go_roundw
    case rel => exact ⟨j + 1, by omega, by go_num, by rw [HZE.out], N1, N2, N3⟩
    case measure => simp [intOf]; omega
  · have hlt' : ¬ (j : Int) < (n : Int) := by omega
    go_wp2
    go_ret
    have e1 := HO.out
    have e2 := HB.out
    rw [QDd_all k ts (by omega)] at e1 e2
    exact ⟨by rw [List.take_of_length_le (by omega)]; rfl, e1, e2, HW.out⟩
theorem markDeedS_own {lo hi : Nat} {a : Option Addr} {n : Nat} (c : Nat) {ts : List Tk} {w : World} (k : Int) (h : OwnV w lo hi (.slice a n c) ts) (hl : ts.length = n) (hn : n ≤ 2097152) (hs : sumT ts ≤ 2097152) (hk0 : 0 ≤ k) (hk1 : k ≤ 300000000) :
 Calls Tryz.prog 21 #[.slice a n c, .int .i64 k] w fun e w' => e = .returned (.int .i64 (k + sumDd ts)) ∧ OwnV w' lo hi (.slice a n c) (mkDds k ts) ∧ Within lo hi w w' := by
 obtain ⟨ms, o, hb⟩ := h.b
 rw [hl] at o
 refine (markDeedS c k o hb hl hn hs hk0 hk1).mono ?_
 rintro e w' ⟨rfl, o', b', kp⟩
 refine ⟨rfl, b'.v (by rw [mkDds_length, hl]; exact o') h.top, kp.within (fun b hb' => ?_)⟩
 rcases hb' with q | ⟨i, q⟩
 · exact ⟨(o.lt b q).1, h.top b q⟩
 · by_cases hi' : i < ts.length
   · exact (hb.own i hi').inr q
   · have e : ms.getD i mt0 = mt0 := by simp [List.getD, List.getElem?_eq_none (show ms.length ≤ i by have := hb.len; omega)]
     rw [e] at q
     rcases q with (q | ⟨x, hx, _⟩) | (q | ⟨x, hx, _⟩)
     · cases q
     · cases hx
     · cases q
     · cases hx
end Go.Proofs.YtnbpblephmjfnaaGreat