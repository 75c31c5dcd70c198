/- The contracts of the laws' markItemS, heldItemS, markPairS, heldPairS, markPair, heldPair. Conditions: items of at most 2^21 bytes together. -/
import Derived.Test.YtoppccfgcccijaaDoorEf13
import Derived.Test.YtoppccfgcccijaaDoorMga
namespace Go.Proofs.YtoppccfgcccijaaDoor
open Go.RowKit
set_option maxRecDepth 100000

/-- A number as a float. -/
def flM (z : Int) : Nat := floatOfInt .f64 z
theorem flM_ok {z : Int} (h0 : 0 ≤ z) (h1 : z ≤ 1000000000000) : flM z < 18446744073709551616 ∧ FloatKind.f64.format.order (flM z) (flM z) = some .eq := by
  obtain ⟨n, rfl⟩ := Int.eq_ofNat_of_zero_le h0
  have hn : n < 2 ^ 53 := by omega
  unfold flM
  rw [of_F n hn]
  have hlt := F_lt n 1074 hn (by omega)
  have h64 : F n 1074 < 18446744073709551616 := by omega
  have hN : isN (F n 1074) = false := (isN_not _).2 (by omega)
  exact ⟨h64, order_eq _ _ h64 h64 hN hN rfl⟩
/-- An item behind its marks, from k on. -/
def mkI1 (k : Int) (e : Im) : Im := ⟨k, k + 1, flM (k + 2), marks (k + 3) e.Z.length⟩
def nmI (e : Im) : Nat := 3 + e.Z.length
def sumN : List Im → Nat
  | [] => 0
  | e :: es => nmI e + sumN es
theorem sumN_app : ∀ a b : List Im, sumN (a ++ b) = sumN a + sumN b
  | [], b => by simp [sumN]
  | e :: a, b => by simp [sumN, sumN_app a b]; omega
theorem sumN_step (es : List Im) (k : Nat) (h : k < es.length) : sumN (es.take (k + 1)) = sumN (es.take k) + nmI (es.getD k im0) := by
  rw [take_snocI es k h, sumN_app]; simp [sumN]
theorem sumN_take (es : List Im) (k : Nat) : sumN (es.take k) ≤ sumN es := by
  have : sumN es = sumN (es.take k ++ es.drop k) := by rw [List.take_append_drop]
  rw [this, sumN_app]; omega
theorem sumN_eq : ∀ es : List Im, sumN es = es.length * 3 + sumI es
  | [] => rfl
  | e :: es => by simp [sumN, sumI, nmI, sumN_eq es]; omega
def mkIs : Int → List Im → List Im
  | _, [] => []
  | k, e :: es => mkI1 k e :: mkIs (k + nmI e) es
theorem mkIs_length : ∀ (k : Int) (es : List Im), (mkIs k es).length = es.length
  | _, [] => rfl
  | k, e :: es => by simp [mkIs, mkIs_length]
theorem mkIs_at : ∀ (k : Int) (es : List Im) (i : Nat), i < es.length → (mkIs k es).getD i im0 = mkI1 (k + sumN (es.take i)) (es.getD i im0)
  | k, [], i, h => by cases h
  | k, e :: es, 0, _ => by simp [mkIs, sumN]
  | k, e :: es, i + 1, h => by
    have ih := mkIs_at (k + nmI e) es i (by simpa using h)
    rw [mkIs, List.getD_cons_succ, ih, List.take_succ_cons, List.getD_cons_succ]
    simp only [sumN]
    rw [show k + (nmI e : Int) + (sumN (es.take i) : Nat) = k + ((nmI e + sumN (es.take i) : Nat) : Int) by omega]
theorem mkIs_app : ∀ (k : Int) (a b : List Im), mkIs k (a ++ b) = mkIs k a ++ mkIs (k + sumN a) b
  | k, [], b => by simp [mkIs, sumN]
  | k, e :: a, b => by
    simp only [List.cons_append, mkIs, mkIs_app]
    rw [show k + (nmI e : Int) + (sumN a : Int) = k + ((sumN (e :: a) : Nat) : Int) by simp only [sumN]; omega]
theorem mkIs_fl {k : Int} {es : List Im} (h0 : 0 ≤ k) (h1 : k ≤ 900000000) (hs : sumN es ≤ 90000000) (i : Nat) : ((mkIs k es).getD i im0).F < 18446744073709551616 := by
  by_cases hc : i < es.length
  · rw [mkIs_at k es i hc]
    have h2 := sumN_take es i
    exact (flM_ok (z := k + sumN (es.take i) + 2) (by omega) (by omega)).1
  · rw [List.getD_eq_getElem?_getD, List.getElem?_eq_none (by rw [mkIs_length]; omega)]; simp [im0]
/-- Items of which the first i are marked. -/
def Qs (k : Int) (es : List Im) (i : Nat) : List Im := mkIs k (es.take i) ++ es.drop i
theorem Qs_zero (k : Int) (es : List Im) : Qs k es 0 = es := by simp [Qs, mkIs]
theorem Qs_all (k : Int) (es : List Im) {i : Nat} (h : es.length ≤ i) : Qs k es i = mkIs k es := by
  unfold Qs
  rw [List.take_of_length_le h, List.drop_eq_nil_of_le h, List.append_nil]
theorem Qs_len (k : Int) (es : List Im) (i : Nat) : (Qs k es i).length = es.length := by
  unfold Qs
  rw [List.length_append, mkIs_length, List.length_take, List.length_drop]; omega
theorem Qs_set (k : Int) (es : List Im) (i : Nat) (h : i < es.length) : (Qs k es i).set i (mkI1 (k + sumN (es.take i)) (es.getD i im0)) = Qs k es (i + 1) := by
  unfold Qs
  rw [List.set_append_right _ _ (by rw [mkIs_length, List.length_take]; omega), mkIs_length, List.length_take, show i - min i es.length = 0 by omega, take_snocI es i h, mkIs_app, List.append_assoc]
  congr 1
  have : es.drop i = es.getD i im0 :: es.drop (i + 1) := by
    rw [List.drop_eq_getElem_cons h]; simp [List.getD, h]
  rw [this, List.set_cons_zero]
  rfl
theorem Qs_at (k : Int) (es : List Im) (i : Nat) (h : i < es.length) : (Qs k es i).getD i im0 = es.getD i im0 := by
  unfold Qs
  rw [getD_app, mkIs_length, List.length_take, if_neg (by omega), show i - min i es.length = 0 by omega]
  rw [List.drop_eq_getElem_cons h]; simp [List.getD, h]
theorem cellsI_set3 : ∀ (es : List Im) (xs : List Value) (k : Nat) (e : Im), xs.length = es.length → k < es.length → (((cellsI es xs).set (k * 4) (.int .i64 e.K)).set (k * 4 + 1) (.int .i64 e.N)).set (k * 4 + 2) (.float .f64 e.F) = cellsI (es.set k e) xs
  | q :: es, y :: xs, 0, e, _, _ => by simp [cellsI, cellsI1]
  | q :: es, y :: xs, k + 1, e, h, hk => by
    have ih := cellsI_set3 es xs k e (by simpa using h) (by simpa using hk)
    rw [show (k + 1) * 4 = k * 4 + 4 by omega]
    simp only [cellsI, cellsI1, List.cons_append, List.nil_append, List.set_cons_succ, ← ih]
section
variable {t : TypeId} {s : Nat} {w w' : World} {lo hi g c : Nat} {n : Nat} {es : List Im} {xs : List Value} {i : Nat}
theorem OwnX.box {v : Value} (h : OwnX t s w lo hi v n es xs) (hi' : i < es.length) : ∃ g c a1 c1, v = .slice (some ⟨g, 0, none⟩) n c ∧ xs.getD i nilS = .slice a1 (es.getD i im0).Z.length c1 ∧ Box4 w g (i * 4) (es.getD i im0).K (es.getD i im0).N (es.getD i im0).F (.slice a1 (es.getD i im0).Z.length c1) ∧ w.ownsRow lo 5 1 (.slice a1 (es.getD i im0).Z.length c1) (es.getD i im0).Z.length (bys (es.getD i im0).Z) ∧ ∀ q, w.frozen? ⟨g, q, none⟩ = false := by
  have hl := h.len
  have hxl : xs.length = es.length := by rw [h.txt.len, textsI_len]
  have o := h.row
  have hr := h.txt.own i
  rw [textsI_at] at hr
  obtain ⟨a1, c1, e1⟩ := own_sl hr
  rcases o.2 with ⟨_, h0⟩ | ⟨g, cap, cur, e, _⟩
  · subst h0; omega
  · subst e
    have hc := fun j (hj : j < 4) => (o.cellAt (i * 4 + j) (by omega)).trans (cellsI_at es xs i j hxl hi' hj)
    refine ⟨g, cap, a1, c1, rfl, e1, ⟨hc 0 (by omega), hc 1 (by omega), hc 2 (by omega), ?_⟩, by rw [← e1]; exact hr, fun q => o.frozenAt q⟩
    have := hc 3 (by omega); simp only [cellsI1, e1] at this; exact this
/-- Three stores into an item, then its text marked. -/
theorem OwnX.mark (k : Int) (h : OwnX t s w lo hi (.slice (some ⟨g, 0, none⟩) n c) n (Qs k es i) xs) {ofs : Nat} (hi' : i < es.length) (ho : ofs = i * 4) (ht : (5 : TypeId) ≠ t) {X : Int} (hX : k + sumN (es.take i) = X) (h0 : 0 ≤ X) (h1 : X ≤ 900000000) {zl : Nat} (hz : (es.getD i im0).Z.length = zl) {W3 : World} (hW : ((w.setCell ⟨g, ofs, none⟩ (.int .i64 X)).setCell ⟨g, ofs + 1, none⟩ (.int .i64 (X + 1))).setCell ⟨g, ofs + 2, none⟩ (.float .f64 (floatOfInt .f64 (X + 1 + 1))) = W3) {v : Value} (hv : xs.getD i nilS = v)
    (gr : W3.grownBy w' v.ownBlock) (o : w'.ownsRow lo 5 1 v zl (bys (marks (X + 1 + 1 + 1) zl))) : OwnX t s w' lo hi (.slice (some ⟨g, 0, none⟩) n c) n (Qs k es (i + 1)) xs ∧ Keeps (blkX (.slice (some ⟨g, 0, none⟩) n c) xs) w w' := by
  subst ho hW hv
  have hxl : xs.length = (Qs k es i).length := by rw [h.txt.len, textsI_len]
  have hql : i < (Qs k es i).length := by rw [Qs_len]; exact hi'
  have S0 := h.row.stored (i * 4) (.int .i64 X)
  have S1 := S0.1.stored (i * 4 + 1) (.int .i64 (X + 1))
  have S2 := S1.1.stored (i * 4 + 2) (.float .f64 (floatOfInt .f64 (X + 1 + 1)))
  have B1 := h.txt.beside S0.2 (fun j => owns_ne (h.txt.own j) h.row ht)
  have B2 := B1.beside S1.2 (fun j => owns_ne (B1.own j) S0.1 ht)
  have B3 := B2.beside S2.2 (fun j => owns_ne (B2.own j) S1.1 ht)
  have hr := S2.1.kept gr (owns_ne S2.1 (B3.own i) ht.symm)
  have ht2 : (textsI (Qs k es i)).set i (marks (X + 1 + 1 + 1) zl) = textsI (Qs k es (i + 1)) := by
    rw [← Qs_set k es i hi']
    simp only [textsI, List.map_set]
    congr 1
    unfold mkI1
    simp only
    rw [hX, hz, show X + 1 + 1 + 1 = X + 3 by omega]
  have B4 := B3.put (i := i) (by rw [textsI_len]; exact hql) gr (by rw [marks_length]; exact o) (marks_bd _ _)
  rw [ht2] at B4
  have hE : (⟨X, X + 1, floatOfInt .f64 (X + 1 + 1), marks (X + 3) zl⟩ : Im) = mkI1 (k + sumN (es.take i)) (es.getD i im0) := by
    unfold mkI1
    rw [hX, hz, show X + 1 + 1 = X + 2 by omega]; rfl
  have hcs := cellsI_set3 (Qs k es i) xs i ⟨X, X + 1, floatOfInt .f64 (X + 1 + 1), marks (X + 3) zl⟩ hxl hql
  rw [hE, Qs_set k es i hi', ← hE] at hcs
  simp only at hcs
  rw [hcs] at hr
  refine ⟨⟨hr, B4, h.top, fun j => ?_, by rw [Qs_len]; have := h.len; rw [Qs_len] at this; exact this⟩, ?_⟩
  · rw [← Qs_set k es i hi', getD_set' _ _ _ _ _ hql]
    split
    · exact (flM_ok (z := k + sumN (es.take i) + 2) (by omega) (by omega)).1
    · exact h.fl j
  · have K0 : Keeps (blkX (.slice (some ⟨g, 0, none⟩) n c) xs) w _ := Keeps.set w (p := ⟨g, i * 4, none⟩) (.inl rfl) (.int .i64 X)
    have K1 := K0.trans (Keeps.set (X := blkX (.slice (some ⟨g, 0, none⟩) n c) xs) _ (p := ⟨g, i * 4 + 1, none⟩) (.inl rfl) (.int .i64 (X + 1)))
    have K2 := K1.trans (Keeps.set (X := blkX (.slice (some ⟨g, 0, none⟩) n c) xs) _ (p := ⟨g, i * 4 + 2, none⟩) (.inl rfl) (.float .f64 (floatOfInt .f64 (X + 1 + 1))))
    exact K2.trans (Keeps.grown gr (fun b e => .inr (blkL_at e)))
end

set_option maxHeartbeats 6400000 in
theorem markPairS {lo hi : Nat} {a : Option Addr} {n : Nat} (c : Nat) {es : List Im} {xs : List Value} {w : World} (k : Int) (h : OwnX 69 8 w lo hi (.slice a n c) n es xs) (hl : es.length = n * 2) (hn : n ≤ 2097152) (hs : sumI es ≤ 2097152) (hk0 : 0 ≤ k) (hk1 : k ≤ 400000000) :
    Calls Tryd.prog 51 #[.slice a n c, .int .i64 k] w fun e w' => e = .returned (.int .i64 (k + sumN es)) ∧ OwnX 69 8 w' lo hi (.slice a n c) n (mkIs k es) xs ∧ Keeps (blkX (.slice a n c) xs) w w' := by
  have hsb : sumN es ≤ 30000000 := by have := sumN_eq es; omega
  have HO := hid h
  clear h
  go_enter Tryd.func51, Tryd.ntmps51
  go_wp2
  go_loopw [1, 5] (fun x i wr => ∃ j : Nat, j ≤ n ∧ i = .int .i64 j ∧ x = .int .i64 (k + sumN (es.take (j * 2))) ∧ Hid (OwnX 69 8 wr lo hi (.slice a n c) n (Qs k es (j * 2)) xs) ∧ Hid (Keeps (blkX (.slice a n c) xs) w wr)) (fun _ i _ => n - (intOf i).toNat)
  case atStart => exact ⟨0, Nat.zero_le _, rfl, by simp [sumN], hid (by rw [Nat.zero_mul]; rw [Qs_zero]; exact HO.out), hid (Keeps.refl _ _)⟩
  case round =>
    clear HO
    obtain ⟨j, hj, rfl, rfl, HO, HW⟩ := hrel
    by_cases hlt : j < n
    · have hlt' : (j : Int) < (n : Int) := by omega
      have hj0 : (0 : Int) ≤ (j : Int) := by omega
      obtain ⟨X0, hX0⟩ : ∃ X : Int, k + sumN (es.take (j * 2)) = X := ⟨_, rfl⟩
      have hX : 0 ≤ X0 ∧ X0 ≤ 430000000 := by have := sumN_take es (j * 2); omega
      have St0 := hid (sumN_step es (j * 2) (by omega))
      have hz0 := sumI_at es (j * 2) (by omega)
      obtain ⟨g0, cc0, a10, c10, ev0, ex0, bx0, ro0, fz0⟩ := HO.out.box (i := j * 2) (by rw [Qs_len]; omega)
      rw [Qs_at k es (j * 2) (by omega)] at ex0 bx0 ro0
      obtain ⟨zl0, hzl0⟩ : ∃ zl, (es.getD (j * 2) im0).Z.length = zl := ⟨_, rfl⟩
      rw [hzl0] at ex0 bx0 ro0 hz0
      have hzy0 : zl0 ≤ 2097152 := by omega
      obtain ⟨rfl, -, rfl⟩ : a = some ⟨g0, 0, none⟩ ∧ n = n ∧ c = cc0 := by injection ev0 with e1 e2 e3; exact ⟨e1, rfl, e3⟩
      obtain ⟨x0, x1, x2, x3⟩ := bx0
      rw [show j * 2 * 4 = j * 8 by omega] at x0 x1 x2 x3
      have y0 := fz0 (j * 8)
      have y1 := fz0 (j * 8 + 1)
      have y2 := fz0 (j * 8 + 2)
      have hst := fun w a z m => run_store Tryd.prog w a (.float .f64 (floatOfInt .f64 z)) m rfl
      have R30 := hid (show (((wr.setCell ⟨g0, j * 8, none⟩ (.int .i64 X0)).setCell ⟨g0, j * 8 + 1, none⟩ (.int .i64 (X0 + 1))).setCell ⟨g0, j * 8 + 2, none⟩ (.float .f64 (floatOfInt .f64 (X0 + 1 + 1)))).ownsRow lo 5 1 (.slice a10 zl0 c10) zl0 _ from by
        have S0 := HO.out.row.stored (j * 8) (.int .i64 X0)
        have S1 := S0.1.stored (j * 8 + 1) (.int .i64 (X0 + 1))
        have S2 := S1.1.stored (j * 8 + 2) (.float .f64 (floatOfInt .f64 (X0 + 1 + 1)))
        have r0 := ro0.kept S0.2 (owns_ne ro0 HO.out.row (by decide))
        have r1 := r0.kept S1.2 (owns_ne r0 S0.1 (by decide))
        exact r1.kept S2.2 (owns_ne r1 S1.1 (by decide)))
      have EX0 := hid ex0
      have ZL0 := hid hzl0
      have HX0 := hid hX0
      have WE := ((wr.setCell ⟨g0, j * 8, none⟩ (.int .i64 X0)).setCell ⟨g0, j * 8 + 1, none⟩ (.int .i64 (X0 + 1))).setCell ⟨g0, j * 8 + 2, none⟩ (.float .f64 (floatOfInt .f64 (X0 + 1 + 1)))
      clear ex0 ro0 fz0 ev0 hzl0 WE hX0 hz0
      rw [HX0.out]
      go_wp2_with fail
      clear x0 x1 x2 x3 y0 y1 y2 hst
      obtain ⟨W30, hW30⟩ : ∃ W, ((wr.setCell ⟨g0, j * 8, none⟩ (.int .i64 X0)).setCell ⟨g0, j * 8 + 1, none⟩ (.int .i64 (X0 + 1))).setCell ⟨g0, j * 8 + 2, none⟩ (.float .f64 (floatOfInt .f64 (X0 + 1 + 1))) = W := ⟨_, rfl⟩
      rw [hW30] at R30 ⊢
      refine (markByteS_any (X0 + 1 + 1 + 1) (by omega) (by omega) (by omega) R30.out).mono ?_
      rintro e W1 ⟨rfl, o8, g8⟩
      have MK0 := HO.out.mark k (i := j * 2) (by omega) (show j * 8 = (j * 2) * 4 by omega) (by decide) (X := X0) (by exact HX0.out) (by omega) (by omega) ZL0.out hW30 EX0.out g8 o8
      have HO1 := hid MK0.1
      have HK1 := hid (HW.out.trans MK0.2)
      obtain ⟨X1, hX1⟩ : ∃ X : Int, X0 + 1 + 1 + 1 + (zl0 : Int) = X := ⟨_, rfl⟩
      rw [hX1]
      have HX1 := hid (show k + sumN (es.take (j * 2 + 1)) = X1 by
        have s1 := St0.out
        have s2 := HX0.out
        have s3 := ZL0.out
        unfold nmI at s1
        rw [s3] at s1
        omega)
      have hXb1 : 0 ≤ X1 ∧ X1 ≤ 440000000 := by omega
      clear MK0 o8 g8 hX1 R30 hW30 HW HO
      have St1 := hid (sumN_step es (j * 2 + 1) (by omega))
      have hz1 := sumI_at es (j * 2 + 1) (by omega)
      obtain ⟨g1, cc1, a11, c11, ev1, ex1, bx1, ro1, fz1⟩ := HO1.out.box (i := j * 2 + 1) (by rw [Qs_len]; omega)
      rw [Qs_at k es (j * 2 + 1) (by omega)] at ex1 bx1 ro1
      obtain ⟨zl1, hzl1⟩ : ∃ zl, (es.getD (j * 2 + 1) im0).Z.length = zl := ⟨_, rfl⟩
      rw [hzl1] at ex1 bx1 ro1 hz1
      have hzy1 : zl1 ≤ 2097152 := by omega
      obtain rfl : g0 = g1 := by injection ev1 with e1 e2 e3; injection e1 with e1; injection e1
      obtain ⟨x0, x1, x2, x3⟩ := bx1
      rw [show (j * 2 + 1) * 4 = j * 8 + 4 by omega] at x0 x1 x2 x3
      have y0 := fz1 (j * 8 + 4)
      have y1 := fz1 (j * 8 + 4 + 1)
      have y2 := fz1 (j * 8 + 4 + 2)
      have hst := fun w a z m => run_store Tryd.prog w a (.float .f64 (floatOfInt .f64 z)) m rfl
      have R31 := hid (show (((W1.setCell ⟨g0, j * 8 + 4, none⟩ (.int .i64 X1)).setCell ⟨g0, j * 8 + 4 + 1, none⟩ (.int .i64 (X1 + 1))).setCell ⟨g0, j * 8 + 4 + 2, none⟩ (.float .f64 (floatOfInt .f64 (X1 + 1 + 1)))).ownsRow lo 5 1 (.slice a11 zl1 c11) zl1 _ from by
        have S0 := HO1.out.row.stored (j * 8 + 4) (.int .i64 X1)
        have S1 := S0.1.stored (j * 8 + 4 + 1) (.int .i64 (X1 + 1))
        have S2 := S1.1.stored (j * 8 + 4 + 2) (.float .f64 (floatOfInt .f64 (X1 + 1 + 1)))
        have r0 := ro1.kept S0.2 (owns_ne ro1 HO1.out.row (by decide))
        have r1 := r0.kept S1.2 (owns_ne r0 S0.1 (by decide))
        exact r1.kept S2.2 (owns_ne r1 S1.1 (by decide)))
      have EX1 := hid ex1
      have ZL1 := hid hzl1
      skip
      have WE := ((W1.setCell ⟨g0, j * 8 + 4, none⟩ (.int .i64 X1)).setCell ⟨g0, j * 8 + 4 + 1, none⟩ (.int .i64 (X1 + 1))).setCell ⟨g0, j * 8 + 4 + 2, none⟩ (.float .f64 (floatOfInt .f64 (X1 + 1 + 1)))
      clear ex1 ro1 fz1 ev1 hzl1 WE hz1
      skip
      go_wp2_with fail
      clear x0 x1 x2 x3 y0 y1 y2 hst
      obtain ⟨W31, hW31⟩ : ∃ W, ((W1.setCell ⟨g0, j * 8 + 4, none⟩ (.int .i64 X1)).setCell ⟨g0, j * 8 + 4 + 1, none⟩ (.int .i64 (X1 + 1))).setCell ⟨g0, j * 8 + 4 + 2, none⟩ (.float .f64 (floatOfInt .f64 (X1 + 1 + 1))) = W := ⟨_, rfl⟩
      rw [hW31] at R31 ⊢
      refine (markByteS_any (X1 + 1 + 1 + 1) (by omega) (by omega) (by omega) R31.out).mono ?_
      rintro e W2 ⟨rfl, o8, g8⟩
      have MK1 := HO1.out.mark k (i := j * 2 + 1) (by omega) (show j * 8 + 4 = (j * 2 + 1) * 4 by omega) (by decide) (X := X1) (by exact HX1.out) (by omega) (by omega) ZL1.out hW31 EX1.out g8 o8
      have HO2 := hid MK1.1
      have HK2 := hid (HK1.out.trans MK1.2)
      obtain ⟨X2, hX2⟩ : ∃ X : Int, X1 + 1 + 1 + 1 + (zl1 : Int) = X := ⟨_, rfl⟩
      rw [hX2]
      have HX2 := hid (show k + sumN (es.take (j * 2 + 1 + 1)) = X2 by
        have s1 := St1.out
        have s2 := HX1.out
        have s3 := ZL1.out
        unfold nmI at s1
        rw [s3] at s1
        omega)
      have hXb2 : 0 ≤ X2 ∧ X2 ≤ 450000000 := by omega
      clear MK1 o8 g8 hX2 R31 hW31 HO1 HK1
      go_wp2_with fail
      go_roundw
      case rel => exact ⟨j + 1, by omega, by go_num, by rw [show (j + 1) * 2 = j * 2 + 1 + 1 by omega, HX2.out], hid (by rw [show (j + 1) * 2 = j * 2 + 1 + 1 by omega]; exact HO2.out), HK2⟩
      case measure => simp [intOf]; omega
    · have hlt' : ¬ (j : Int) < (n : Int) := by omega
      go_wp2
      go_ret
      have e1 := HO.out
      rw [Qs_all k es (by omega)] at e1
      exact ⟨by rw [List.take_of_length_le (by omega)]; rfl, e1, HW.out⟩

end Go.Proofs.YtoppccfgcccijaaDoor