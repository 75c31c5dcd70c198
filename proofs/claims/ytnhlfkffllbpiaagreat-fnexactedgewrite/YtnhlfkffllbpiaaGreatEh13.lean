/- The contracts of the laws' markSpan, heldSpan, markTrackS, heldTrackS. Conditions: tracks of at most 2^21 bytes together. -/
import Derived.Test.YtnhlfkffllbpiaaGreatEg13
namespace Go.Proofs.YtnhlfkffllbpiaaGreat
open Go.RowKit
set_option maxRecDepth 100000
def lf13 (k : Int) : Bool := k % 3 == 0
def mk2 : Int → List (Im × Im) → List (Im × Im)
 | _, [] => []
 | k, p :: ps => (mkI1 k p.1, mkI1 (k + nmI p.1) p.2) :: mk2 (k + nmI p.1 + nmI p.2) ps
theorem fl2_mk2 : ∀ (k : Int) (l : List (Im × Im)), fl2 (mk2 k l) = mkIs k (fl2 l)
 | _, [] => rfl
 | k, p :: ps => by simp only [mk2, fl2, mkIs, fl2_mk2]
theorem mk2_length : ∀ (k : Int) (l : List (Im × Im)), (mk2 k l).length = l.length
 | _, [] => rfl
 | k, p :: ps => by simp [mk2, mk2_length]
def mkT1 (k : Int) (t : Tk) : Tk := ⟨k, k + 1, k + 1 + 1, lf13 (k + 1 + 1 + 1), mk2 (k + 1 + 1 + 1 + 1) t.rs, mkIs (k + 1 + 1 + 1 + 1 + sumN (fl2 t.rs)) t.ws, lf13 (k + 1 + 1 + 1 + 1 + sumN (fl2 t.rs) + sumN t.ws), lf13 (k + 1 + 1 + 1 + 1 + sumN (fl2 t.rs) + sumN t.ws + 1)⟩
def nmT (t : Tk) : Nat := 6 + sumN (fl2 t.rs) + sumN t.ws
def sumU : List Tk → Nat
 | [] => 0
 | t :: ts => nmT t + sumU ts
theorem sumU_app : ∀ a b : List Tk, sumU (a ++ b) = sumU a + sumU b
 | [], b => by simp [sumU]
 | t :: a, b => by simp [sumU, sumU_app a b]; omega
theorem sumU_step (ts : List Tk) (k : Nat) (h : k < ts.length) : sumU (ts.take (k + 1)) = sumU (ts.take k) + nmT (ts.getD k tk0) := by
 rw [take_snocT ts k h, sumU_app]; simp [sumU]
theorem sumU_take (ts : List Tk) (k : Nat) : sumU (ts.take k) ≤ sumU ts := by
 have : sumU ts = sumU (ts.take k ++ ts.drop k) := by rw [List.take_append_drop]
 rw [this, sumU_app]; omega
theorem nmT_le (t : Tk) : nmT t ≤ 6 + 6 * szT t := by
 unfold nmT szT
 rw [sumN_eq, sumN_eq, fl2_len]
 omega
theorem sumU_le : ∀ ts : List Tk, sumU ts ≤ 6 * ts.length + 6 * sumT ts
 | [] => by simp [sumU]
 | t :: ts => by
  have h1 := nmT_le t
  have h2 := sumU_le ts
  simp only [sumU, sumT, List.length_cons]
  omega
def mkTs : Int → List Tk → List Tk
 | _, [] => []
 | k, t :: ts => mkT1 k t :: mkTs (k + nmT t) ts
theorem mkTs_length : ∀ (k : Int) (ts : List Tk), (mkTs k ts).length = ts.length
 | _, [] => rfl
 | k, t :: ts => by simp [mkTs, mkTs_length]
theorem mkTs_at : ∀ (k : Int) (ts : List Tk) (i : Nat), i < ts.length → (mkTs k ts).getD i tk0 = mkT1 (k + sumU (ts.take i)) (ts.getD i tk0)
 | k, [], i, h => by cases h
 | k, t :: ts, 0, _ => by simp [mkTs, sumU]
 | k, t :: ts, i + 1, h => by
  have ih := mkTs_at (k + nmT t) ts i (by simpa using h)
  rw [mkTs, List.getD_cons_succ, ih, List.take_succ_cons, List.getD_cons_succ]
  simp only [sumU]
  rw [show k + (nmT t : Int) + (sumU (ts.take i) : Nat) = k + ((nmT t + sumU (ts.take i) : Nat) : Int) by omega]
theorem mkTs_app : ∀ (k : Int) (a b : List Tk), mkTs k (a ++ b) = mkTs k a ++ mkTs (k + sumU a) b
 | k, [], b => by simp [mkTs, sumU]
 | k, t :: a, b => by
  simp only [List.cons_append, mkTs, mkTs_app]
  rw [show k + (nmT t : Int) + (sumU a : Int) = k + ((sumU (t :: a) : Nat) : Int) by simp only [sumU]; omega]
def QT (k : Int) (ts : List Tk) (i : Nat) : List Tk := mkTs k (ts.take i) ++ ts.drop i
theorem QT_zero (k : Int) (ts : List Tk) : QT k ts 0 = ts := by simp [QT, mkTs]
theorem QT_all (k : Int) (ts : List Tk) {i : Nat} (h : ts.length ≤ i) : QT k ts i = mkTs k ts := by
 unfold QT
 rw [List.take_of_length_le h, List.drop_eq_nil_of_le h, List.append_nil]
theorem QT_len (k : Int) (ts : List Tk) (i : Nat) : (QT k ts i).length = ts.length := by
 unfold QT
 rw [List.length_append, mkTs_length, List.length_take, List.length_drop]; omega
theorem QT_set (k : Int) (ts : List Tk) (i : Nat) (h : i < ts.length) : (QT k ts i).set i (mkT1 (k + sumU (ts.take i)) (ts.getD i tk0)) = QT k ts (i + 1) := by
 unfold QT
 rw [List.set_append_right _ _ (by rw [mkTs_length, List.length_take]; omega), mkTs_length, List.length_take, show i - min i ts.length = 0 by omega, take_snocT ts i h, mkTs_app, List.append_assoc]
 congr 1
 have : ts.drop i = ts.getD i tk0 :: ts.drop (i + 1) := by
  rw [List.drop_eq_getElem_cons h]; simp [List.getD, h]
 rw [this, List.set_cons_zero]
 rfl
theorem QT_at (k : Int) (ts : List Tk) (i : Nat) (h : i < ts.length) : (QT k ts i).getD i tk0 = ts.getD i tk0 := by
 unfold QT
 rw [getD_app, mkTs_length, List.length_take, if_neg (by omega), show i - min i ts.length = 0 by omega]
 rw [List.drop_eq_getElem_cons h]; simp [List.getD, h]
theorem cellsT_set6 : ∀ (ts : List Tk) (ms : List Mt) (k : Nat) (t : Tk), ms.length = ts.length → k < ts.length → ((((((cellsT ts ms).set (k * 8) (.int .i64 t.xid)).set (k * 8 + 1) (.int .i64 t.begun)).set (k * 8 + 2) (.int .i64 t.ended)).set (k * 8 + 3) (.bool t.all)).set (k * 8 + 6) (.bool t.inn)).set (k * 8 + 7) (.bool t.out) = cellsT (ts.set k t) ms
 | q :: ts, y :: ms, 0, t, _, _ => by simp [cellsT, cellsT1]
 | q :: ts, y :: ms, k + 1, t, h, hk => by
  have ih := cellsT_set6 ts ms k t (by simpa using h) (by simpa using hk)
  rw [show (k + 1) * 8 = k * 8 + 8 by omega]
  simp only [cellsT, cellsT1, List.cons_append, List.nil_append, List.set_cons_succ, ← ih]
def blkA (v : Value) (ms : List Mt) (b : Nat) : Prop := v.ownBlock = some b ∨ ∃ i, blkT (ms.getD i mt0) b
theorem row_off {w : World} {lo hi : Nat} {t : TypeId} {s : Nat} {v : Value} {n : Nat} {es : List Im} {xs : List Value} (h : OwnX t s w lo hi v n es xs) {base : Nat} {e : TypeId} {s' n' : Nat} {v' : Value} {ys : List Value} (o : w.ownsRow base e s' v' n' ys) (h1 : t ≠ e) (h5 : (5 : TypeId) ≠ e) {b : Nat} (hb : v'.ownBlock = some b) : ¬ blkX v xs b := by
 intro hc
 rcases hc with hc | hc
 · exact own_type h.row o h1 hc hb
 · obtain ⟨i, hi'⟩ := blk_txt hc
   exact own_type (h.txt.own i) o h5 hi' hb
set_option maxHeartbeats 6400000 in
theorem markTrackS {lo hi : Nat} {a : Option Addr} {n : Nat} (c : Nat) {ts : List Tk} {ms : List Mt} {w : World} (k : Int) (hrow : w.ownsRow lo 52 8 (.slice a n c) n (cellsT ts ms)) (hb : BandsT w lo hi ms ts) (hl : ts.length = n) (hn : n ≤ 2097152) (hs : sumT ts ≤ 2097152) (hk0 : 0 ≤ k) (hk1 : k ≤ 300000000) :
 Calls Tryz.prog 12 #[.slice a n c, .int .i64 k] w fun e w' => e = .returned (.int .i64 (k + sumU ts)) ∧ w'.ownsRow lo 52 8 (.slice a n c) n (cellsT (mkTs k ts) ms) ∧ BandsT w' lo hi ms (mkTs k ts) ∧ Keeps (blkA (.slice a n c) ms) w w' := by
 have hsb : sumU ts ≤ 30000000 := by have := sumU_le ts; omega
 have HO := hid hrow
 have HBB := hid hb
 clear hrow hb
 go_enter Tryz.func12, Tryz.ntmps12
 go_wp2
 go_loopw [1, 5] (fun x i wr => ∃ j : Nat, j ≤ n ∧ i = .int .i64 j ∧ x = .int .i64 (k + sumU (ts.take j)) ∧ Hid (wr.ownsRow lo 52 8 (.slice a n c) n (cellsT (QT k ts j) ms)) ∧ Hid (BandsT wr lo hi ms (QT k ts j)) ∧ Hid (Keeps (blkA (.slice a n c) ms) w wr)) (fun _ i _ => n - (intOf i).toNat)
 case atStart => exact ⟨0, Nat.zero_le _, rfl, by simp [sumU], hid (by rw [QT_zero]; exact HO.out), hid (by rw [QT_zero]; exact HBB.out), hid (Keeps.refl _ _)⟩
 case round =>
  clear HO HBB
  obtain ⟨j, hj, rfl, rfl, HO, HB, HW⟩ := hrel
  by_cases hlt : j < n
  · have hlt' : (j : Int) < (n : Int) := by omega
    have hj0 : (0 : Int) ≤ (j : Int) := by omega
    have hpl := QT_len k ts j
    have HSet := hid (QT_set k ts j (by omega))
    have hat := QT_at k ts j (by omega)
    have HStep := hid (sumU_step ts j (by omega))
    have hz2 := sumT_at ts j (by omega)
    obtain ⟨X, hX⟩ : ∃ X : Int, k + sumU (ts.take j) = X := ⟨_, rfl⟩
    have hX0 : 0 ≤ X ∧ X ≤ 330000000 := by have := sumU_take ts j; omega
    rw [hX] at HSet ⊢
    have HX := hid hX
    generalize QT k ts j = qs at *
    have hml := HB.out.len
    have hrow : ∃ g, a = some ⟨g, 0, none⟩ := by
     rcases HO.out.2 with ⟨_, h0⟩ | ⟨g, cap, cur, e, _⟩
     · omega
     · cases e; exact ⟨g, rfl⟩
    obtain ⟨g, rfl⟩ := hrow
    have hca := fun q (hq : q < 8) => (HO.out.cellAt (j * 8 + q) (by omega)).trans (cellsT_at qs ms j q hml (by omega) hq)
    have hj1 := HB.out.own j (by omega)
    rw [hat] at hca hj1
    obtain ⟨a1, c1, e1⟩ := hj1.rd.slice
    obtain ⟨a2, c2, e2⟩ := hj1.wr.slice
    have S0 := HO.out.stored (j * 8) (.int .i64 X)
    have S1 := S0.1.stored (j * 8 + 1) (.int .i64 (X + 1))
    have S2 := S1.1.stored (j * 8 + 2) (.int .i64 (X + 1 + 1))
    have S3 := S2.1.stored (j * 8 + 3) (.bool (lf13 (X + 1 + 1 + 1)))
    have K4 : Keeps (fun b => (Value.slice (some ⟨g, 0, none⟩) n c).ownBlock = some b) wr ((((wr.setCell ⟨g, j * 8, none⟩ (.int .i64 X)).setCell ⟨g, j * 8 + 1, none⟩ (.int .i64 (X + 1))).setCell ⟨g, j * 8 + 2, none⟩ (.int .i64 (X + 1 + 1))).setCell ⟨g, j * 8 + 3, none⟩ (.bool (lf13 (X + 1 + 1 + 1)))) := (((Keeps.grown S0.2 (fun _ e => e)).trans (Keeps.grown S1.2 (fun _ e => e))).trans (Keeps.grown S2.2 (fun _ e => e))).trans (Keeps.grown S3.2 (fun _ e => e))
    have hj4 := hj1.keep K4 (fun b hb e => hj1.off HO.out (by decide) (by decide) (by decide) hb e)
    have HJ4 := hid hj4
    have HRow4 := hid S3.1
    have HJ1 := hid hj1
    have HK4 := hid K4
    have HE1 := hid e1
    have HE2 := hid e2
    have x0 : wr.cell? ⟨g, j * 8, none⟩ = some _ := hca 0 (by omega)
    have x1 : wr.cell? ⟨g, j * 8 + 1, none⟩ = some _ := hca 1 (by omega)
    have x2 : wr.cell? ⟨g, j * 8 + 2, none⟩ = some _ := hca 2 (by omega)
    have x3 : wr.cell? ⟨g, j * 8 + 3, none⟩ = some _ := hca 3 (by omega)
    have x4' : wr.cell? ⟨g, j * 8 + 4, none⟩ = some (.slice a1 (ts.getD j tk0).rs.length c1) := by have := hca 4 (by omega); simp only [cellsT1, e1] at this; exact this
    have x4 : ((((wr.setCell ⟨g, j * 8, none⟩ (.int .i64 X)).setCell ⟨g, j * 8 + 1, none⟩ (.int .i64 (X + 1))).setCell ⟨g, j * 8 + 2, none⟩ (.int .i64 (X + 1 + 1))).setCell ⟨g, j * 8 + 3, none⟩ (.bool (lf13 (X + 1 + 1 + 1)))).cell? ⟨g, j * 8 + 4, none⟩ = some (.slice a1 (ts.getD j tk0).rs.length c1) := by
     have hz := cellsT_len qs ms hml
     rw [S3.1.cellAt (j * 8 + 4) (by omega), List.getElem?_set_ne (by omega), List.getElem?_set_ne (by omega), List.getElem?_set_ne (by omega), List.getElem?_set_ne (by omega), cellsT_at qs ms j 4 hml (by omega) (by omega), hat]
     simp only [cellsT1, e1]; rfl
    have y0 := HO.out.frozenAt (j * 8)
    have y1 := HO.out.frozenAt (j * 8 + 1)
    have y2 := HO.out.frozenAt (j * 8 + 2)
    have y3 := HO.out.frozenAt (j * 8 + 3)
    have HML := hid hml
    have HPL := hid hpl
    have HAT := hid hat
    clear hca S0 S1 S2 S3 K4 hj1 hj4 e1 e2 hml hpl hat hX
    generalize ts.getD j tk0 = t at *
    obtain ⟨xi, be, en, al, rs, ws, inn, ou⟩ := t
    simp only [szT, nmT] at hz2 HStep x0 x1 x2 x3 x4 x4' HJ4 HJ1
    obtain ⟨n1, hn1⟩ : ∃ n1, rs.length = n1 := ⟨_, rfl⟩
    obtain ⟨n2, hn2⟩ : ∃ n2, ws.length = n2 := ⟨_, rfl⟩
    simp only [hn1] at x4 x4' HE1
    simp only [hn2] at HE2
    rw [hn1, hn2] at hz2
    have HN1 := hid (show (fl2 rs).length = n1 * 2 by rw [fl2_len, hn1])
    have HN2 := hid hn2
    have HN1' := hid hn1
    have HR4 := hid (show OwnX 78 8 ((((wr.setCell ⟨g, j * 8, none⟩ (.int .i64 X)).setCell ⟨g, j * 8 + 1, none⟩ (.int .i64 (X + 1))).setCell ⟨g, j * 8 + 2, none⟩ (.int .i64 (X + 1 + 1))).setCell ⟨g, j * 8 + 3, none⟩ (.bool (lf13 (X + 1 + 1 + 1)))) lo hi (.slice a1 n1 c1) n1 (fl2 rs) (ms.getD j mt0).X from by rw [← HE1.out]; have := HJ4.out.rd; simp only [hn1] at this; exact this)
    have hB3 : ((X + 1 + 1 + 1) % 3 == 0) = lf13 (X + 1 + 1 + 1) := rfl
    have hr0 : 0 ≤ (X + 1 + 1 + 1) % 3 := by omega
    have hr1 : (X + 1 + 1 + 1) % 3 < 3 := by omega
    have hsz := sumN_eq (fl2 rs)
    have hsz2 := sumN_eq ws
    rw [fl2_len, hn1] at hsz
    rw [hn2] at hsz2
    have HSB := hid (show n1 ≤ 2097152 ∧ n2 ≤ 2097152 ∧ sumI (fl2 rs) ≤ 2097152 ∧ sumI ws ≤ 2097152 ∧ sumN (fl2 rs) ≤ 15000000 ∧ sumN ws ≤ 15000000 by omega)
    clear hn1 hn2 hz2 hsz hsz2
    go_wp2_with fail
    clear x0 x1 x2 x3 x4 x4' y0 y1 y2 y3 hB3 hr0 hr1
    obtain ⟨A, hA⟩ : ∃ A, ((((wr.setCell ⟨g, j * 8, none⟩ (.int .i64 X)).setCell ⟨g, j * 8 + 1, none⟩ (.int .i64 (X + 1))).setCell ⟨g, j * 8 + 2, none⟩ (.int .i64 (X + 1 + 1))).setCell ⟨g, j * 8 + 3, none⟩ (.bool (lf13 (X + 1 + 1 + 1)))) = A := ⟨_, rfl⟩
    rw [hA] at HR4 HJ4 HRow4 HK4 ⊢
    clear hA
    refine (markSpanS c1 (X + 1 + 1 + 1 + 1) HR4.out HN1.out HSB.out.1 HSB.out.2.2.1 (by omega) (by omega)).mono ?_
    rintro e Bw ⟨rfl, oR, kR⟩
    obtain ⟨Y, hY⟩ : ∃ Y : Int, X + 1 + 1 + 1 + 1 + sumN (fl2 rs) = Y := ⟨_, rfl⟩
    rw [hY]
    have hY0 : 0 ≤ Y ∧ Y ≤ 350000000 := by have := HSB.out; omega
    have HY := hid hY
    have HOR := hid oR
    have HKR := hid kR
    have rowB := owns_keep HRow4.out kR (fun b hb => row_off HR4.out HRow4.out (by decide) (by decide) hb)
    have wrB := HJ4.out.wr.keep kR (fun b hb hc => by
     rw [← HE1.out] at hc
     exact HJ4.out.rw_apart hc hb)
    have HRowB := hid rowB
    have HWB := hid (show OwnX 33 4 Bw lo hi (.slice a2 n2 c2) n2 ws (ms.getD j mt0).Y from by rw [← HE2.out]; have := wrB; simp only [HN2.out] at this; exact this)
    have x5 : Bw.cell? ⟨g, j * 8 + 5, none⟩ = some (.slice a2 n2 c2) := by
     have hz := cellsT_len qs ms HML.out
     have hp := HPL.out
     rw [rowB.cellAt (j * 8 + 5) (by omega), List.getElem?_set_ne (by omega), List.getElem?_set_ne (by omega), List.getElem?_set_ne (by omega), List.getElem?_set_ne (by omega), cellsT_at qs ms j 5 HML.out (by omega) (by omega), HAT.out]
     simp only [cellsT1, HE2.out]; rfl
    clear oR kR rowB wrB hY
    go_wp2_with fail
    clear x5
    refine (markItemS c2 Y HWB.out HN2.out HSB.out.2.1 HSB.out.2.2.2.1 (by omega) (by omega)).mono ?_
    rintro e Cw ⟨rfl, oW, kW⟩
    obtain ⟨Z, hZ⟩ : ∃ Z : Int, Y + sumN ws = Z := ⟨_, rfl⟩
    rw [hZ]
    have hZ0 : 0 ≤ Z ∧ Z ≤ 370000000 := by have := HSB.out; omega
    have rowC := owns_keep HRowB.out kW (fun b hb => row_off HWB.out HRowB.out (by decide) (by decide) hb)
    have rdC := HOR.out.keep kW (fun b hb hc => by
     rw [← HE2.out] at hc
     rw [← HE1.out] at hb
     exact HJ1.out.rw_apart hb hc)
    have S6 := rowC.stored (j * 8 + 6) (.bool (lf13 Z))
    have S7 := S6.1.stored (j * 8 + 7) (.bool (lf13 (Z + 1)))
    have K7 : Keeps (fun b => (Value.slice (some ⟨g, 0, none⟩) n c).ownBlock = some b) Cw ((Cw.setCell ⟨g, j * 8 + 6, none⟩ (.bool (lf13 Z))).setCell ⟨g, j * 8 + 7, none⟩ (.bool (lf13 (Z + 1)))) := (Keeps.grown S6.2 (fun _ e => e)).trans (Keeps.grown S7.2 (fun _ e => e))
    have rdD := rdC.keep K7 (fun b hb e => row_off rdC rowC (by decide) (by decide) e hb)
    have wrD := oW.keep K7 (fun b hb e => row_off oW rowC (by decide) (by decide) e hb)
    have x6 : ∃ v, Cw.cell? ⟨g, j * 8 + 6, none⟩ = some v := by
     have hz := cellsT_len qs ms HML.out
     have hp := HPL.out
     rw [rowC.cellAt (j * 8 + 6) (by omega)]
     exact ⟨_, List.getElem?_eq_getElem (by simp only [List.length_set]; omega)⟩
    have x7 : ∃ v, Cw.cell? ⟨g, j * 8 + 7, none⟩ = some v := by
     have hz := cellsT_len qs ms HML.out
     have hp := HPL.out
     rw [rowC.cellAt (j * 8 + 7) (by omega)]
     exact ⟨_, List.getElem?_eq_getElem (by simp only [List.length_set]; omega)⟩
    obtain ⟨v6, x6⟩ := x6
    obtain ⟨v7, x7⟩ := x7
    have y6 := rowC.frozenAt (j * 8 + 6)
    have y7 := rowC.frozenAt (j * 8 + 7)
    -- all that changed
    have KJ : Keeps (fun b => (Value.slice (some ⟨g, 0, none⟩) n c).ownBlock = some b ∨ blkT (ms.getD j mt0) b) wr ((Cw.setCell ⟨g, j * 8 + 6, none⟩ (.bool (lf13 Z))).setCell ⟨g, j * 8 + 7, none⟩ (.bool (lf13 (Z + 1)))) := by
     refine ((HK4.out.mono (fun b hb => .inl hb)).trans ?_).trans (K7.mono (fun b hb => .inl hb))
     exact (HKR.out.mono (fun b hb => .inr (.inl (by rw [HE1.out]; exact hb)))).trans (kW.mono (fun b hb => .inr (.inr (by rw [HE2.out]; exact hb))))
    have NT : mkT1 X ⟨xi, be, en, al, rs, ws, inn, ou⟩ = ⟨X, X + 1, X + 1 + 1, lf13 (X + 1 + 1 + 1), mk2 (X + 1 + 1 + 1 + 1) rs, mkIs Y ws, lf13 Z, lf13 (Z + 1)⟩ := by
     unfold mkT1
     simp only
     rw [HY.out, hZ]
    have OJ : OwnT1 ((Cw.setCell ⟨g, j * 8 + 6, none⟩ (.bool (lf13 Z))).setCell ⟨g, j * 8 + 7, none⟩ (.bool (lf13 (Z + 1)))) lo hi (ms.getD j mt0) (mkT1 X ⟨xi, be, en, al, rs, ws, inn, ou⟩) := by
     rw [NT]
     refine ⟨?_, ?_, HJ1.out.apart⟩
     · rw [HE1.out]; simp only [mk2_length, fl2_mk2, HN1'.out]; exact rdD
     · rw [HE2.out]; simp only [mkIs_length, HN2.out]; exact wrD
    have BN : BandsT ((Cw.setCell ⟨g, j * 8 + 6, none⟩ (.bool (lf13 Z))).setCell ⟨g, j * 8 + 7, none⟩ (.bool (lf13 (Z + 1)))) lo hi ms (QT k ts (j + 1)) := by
     rw [← HSet.out]
     refine ⟨by rw [List.length_set]; exact HML.out, fun i hi' => ?_, fun i i' h1 h2 => HB.out.apart i i' h1 (by rw [List.length_set] at h2; exact h2)⟩
     rw [List.length_set] at hi'
     rw [getD_set' _ _ _ _ _ (by rw [HPL.out]; omega)]
     split
     · rename_i e; subst e; exact OJ
     · rename_i e
       refine (HB.out.own i hi').keep KJ (fun b hb hc => ?_)
       rcases hc with hc | hc
       · exact (HB.out.own i hi').off HO.out (by decide) (by decide) (by decide) hb hc
       · rcases Nat.lt_or_gt_of_ne e with q | q
         · exact HB.out.apart i j q (by rw [HPL.out]; omega) b hb hc
         · exact HB.out.apart j i q hi' b hc hb
    have RN := S7.1
    have hcs := cellsT_set6 qs ms j (mkT1 X ⟨xi, be, en, al, rs, ws, inn, ou⟩) HML.out (by rw [HPL.out]; omega)
    rw [HSet.out, NT] at hcs
    simp only at hcs
    rw [hcs] at RN
    have N1 := hid RN
    have N2 := hid BN
    have N3 := hid (HW.out.trans (KJ.mono (fun b hb => by
     rcases hb with hb | hb
     · exact .inl hb
     · exact .inr ⟨j, hb⟩)))
    have HZE := hid (show k + sumU (ts.take (j + 1)) = Z + 1 + 1 by
     have s1 := HStep.out
     have s2 := HX.out
     have s3 := HY.out
     omega)
    have hB6 : (Z % 3 == 0) = lf13 Z := rfl
    have hB7 : ((Z + 1) % 3 == 0) = lf13 (Z + 1) := rfl
    have hr6 : 0 ≤ Z % 3 := by omega
    have hr6' : Z % 3 < 3 := by omega
    have hr7 : 0 ≤ (Z + 1) % 3 := by omega
    have hr7' : (Z + 1) % 3 < 3 := by omega
    clear S6 S7 K7 rdD wrD KJ NT OJ BN RN hcs rdC rowC oW kW hZ HJ1 HJ4 HRow4 HK4 HR4 HOR HKR HRowB HWB HO HB HW
    go_wp2_with fail
    go_roundw
    case rel => exact ⟨j + 1, by omega, by go_num, by rw [HZE.out], N1, N2, N3⟩
    case measure => simp [intOf]; omega
  · have hlt' : ¬ (j : Int) < (n : Int) := by omega
    go_wp2
    go_ret
    have e1 := HO.out
    have e2 := HB.out
    rw [QT_all k ts (by omega)] at e1 e2
    exact ⟨by rw [List.take_of_length_le (by omega)]; rfl, e1, e2, HW.out⟩
set_option maxHeartbeats 6400000 in
theorem heldTrackS {ad : Option Addr} {n : Nat} (cap : Nat) {ts : List Tk} {w : World} (k : Int) (h : ReadsT w ad (mkTs k ts)) (hl : ts.length = n) (hn : n ≤ 2097152) (hs : sumT ts ≤ 2097152) (hk0 : 0 ≤ k) (hk1 : k ≤ 300000000) :
 Calls Tryz.prog 14 #[.slice ad n cap, .int .i64 k] w fun e w' => e = .returned (.int .i64 (k + sumU ts)) ∧ w' = w := by
 have hsb : sumU ts ≤ 30000000 := by have := sumU_le ts; omega
 go_enter Tryz.func14, Tryz.ntmps14
 go_wp2
 go_loopw [1, 5] (fun x i wr => ∃ j : Nat, j ≤ n ∧ i = .int .i64 j ∧ x = .int .i64 (k + sumU (ts.take j)) ∧ wr = w) (fun _ i _ => n - (intOf i).toNat)
 case atStart => exact ⟨0, Nat.zero_le _, rfl, by simp [sumU], rfl⟩
 case round =>
  obtain ⟨j, hj, rfl, rfl, rfl⟩ := hrel
  by_cases hlt : j < n
  · have hlt' : (j : Int) < (n : Int) := by omega
    have hj0 : (0 : Int) ≤ (j : Int) := by omega
    obtain ⟨b, off, a1, c1, a2, c2, rfl, bx, r1, _, r2, _⟩ := h.at (k := j) (by rw [mkTs_length]; omega)
    have HStep := hid (sumU_step ts j (by omega))
    have hz2 := sumT_at ts j (by omega)
    rw [mkTs_at k ts j (by omega)] at bx r1 r2
    obtain ⟨X, hX⟩ : ∃ X : Int, k + sumU (ts.take j) = X := ⟨_, rfl⟩
    have hX0 : 0 ≤ X ∧ X ≤ 330000000 := by have := sumU_take ts j; omega
    rw [hX] at bx r1 r2 ⊢
    have HX := hid hX
    generalize ts.getD j tk0 = t at *
    obtain ⟨xi, be, en, al, rs, ws, inn, ou⟩ := t
    simp only [mkT1, szT, nmT, mk2_length, mkIs_length, fl2_mk2] at bx r1 r2 hz2 HStep
    obtain ⟨n1, hn1⟩ : ∃ n1, rs.length = n1 := ⟨_, rfl⟩
    obtain ⟨n2, hn2⟩ : ∃ n2, ws.length = n2 := ⟨_, rfl⟩
    rw [hn1, hn2] at bx hz2
    have HN1 := hid (show (fl2 rs).length = n1 * 2 by rw [fl2_len, hn1])
    have HN2 := hid hn2
    obtain ⟨Y, hY⟩ : ∃ Y : Int, X + 1 + 1 + 1 + 1 + sumN (fl2 rs) = Y := ⟨_, rfl⟩
    obtain ⟨Z, hZ⟩ : ∃ Z : Int, Y + sumN ws = Z := ⟨_, rfl⟩
    rw [hY, hZ] at bx
    rw [hY] at r2
    have hsz := sumN_eq (fl2 rs)
    have hsz2 := sumN_eq ws
    rw [fl2_len, hn1] at hsz
    rw [hn2] at hsz2
    have HSB := hid (show n1 ≤ 2097152 ∧ n2 ≤ 2097152 ∧ sumI (fl2 rs) ≤ 2097152 ∧ sumI ws ≤ 2097152 ∧ sumN (fl2 rs) ≤ 15000000 ∧ sumN ws ≤ 15000000 by omega)
    have hY0 : 0 ≤ Y ∧ Y ≤ 350000000 := by have := HSB.out; omega
    have hZ0 : 0 ≤ Z ∧ Z ≤ 370000000 := by have := HSB.out; omega
    have hYn : ¬ Y < 0 := by omega
    have hZn : ¬ Z < 0 := by omega
    have HY := hid hY
    have HZ := hid hZ
    have R1 := hid r1
    have R2 := hid r2
    obtain ⟨x0, x1, x2, x3, x4, x5, x6, x7⟩ := bx
    simp only at x0 x1 x2 x3 x6 x7
    have hB3 : ((X + 1 + 1 + 1) % 3 == 0) = lf13 (X + 1 + 1 + 1) := rfl
    have hB3' : (lf13 (X + 1 + 1 + 1) != lf13 (X + 1 + 1 + 1)) = false := by simp
    have hr0 : 0 ≤ (X + 1 + 1 + 1) % 3 := by omega
    have hr1 : (X + 1 + 1 + 1) % 3 < 3 := by omega
    have hB6 : (Z % 3 == 0) = lf13 Z := rfl
    have hB6' : (lf13 Z != lf13 Z) = false := by simp
    have hB7 : ((Z + 1) % 3 == 0) = lf13 (Z + 1) := rfl
    have hB7' : (lf13 (Z + 1) != lf13 (Z + 1)) = false := by simp
    have hr6 : 0 ≤ Z % 3 := by omega
    have hr6' : Z % 3 < 3 := by omega
    have hr7 : 0 ≤ (Z + 1) % 3 := by omega
    have hr7' : (Z + 1) % 3 < 3 := by omega
    clear r1 r2 hX hY hZ hn1 hn2 hz2 hsz hsz2
    go_wp2_with fail
    refine (heldSpanS c1 (X + 1 + 1 + 1 + 1) R1.out HN1.out HSB.out.1 HSB.out.2.2.1 (by omega) (by omega)).mono ?_
    rintro e w1 ⟨rfl, e1⟩
    subst w1
    rw [HY.out]
    go_wp2_with fail
    refine (heldItemS c2 Y R2.out HN2.out HSB.out.2.1 HSB.out.2.2.2.1 (by omega) (by omega)).mono ?_
    rintro e w2 ⟨rfl, e2⟩
    subst w2
    rw [HZ.out]
    have HZE := hid (show k + sumU (ts.take (j + 1)) = Z + 1 + 1 by
     have s1 := HStep.out
     have s2 := HX.out
     have s3 := HY.out
     have s4 := HZ.out
     omega)
    go_wp2_with fail
    go_roundw
    case rel => exact ⟨j + 1, by omega, by go_num, by rw [HZE.out], by trivial⟩
    case measure => simp [intOf]; omega
  · have hlt' : ¬ (j : Int) < (n : Int) := by omega
    go_wp2
    go_ret
    exact ⟨by rw [List.take_of_length_le (by omega)]; rfl, rfl⟩
end Go.Proofs.YtnhlfkffllbpiaaGreat