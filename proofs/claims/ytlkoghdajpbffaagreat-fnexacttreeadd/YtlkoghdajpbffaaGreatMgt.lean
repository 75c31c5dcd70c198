/- Texts of this proof in one: Kg11 Kh11 Of11 Uj11. -/
import Derived.Test.YtlkoghdajpbffaaGreatMgg
import Derived.Test.YtlkoghdajpbffaaGreatMgb
import Derived.Test.YtlkoghdajpbffaaGreatKf11
import Derived.Test.YtlkoghdajpbffaaGreatMgs
/- The contracts of the laws' markEntryS and heldEntryS. Conditions: entries of at most 2^21 bytes together. -/


namespace Go.Proofs.YtlkoghdajpbffaaGreat
open Go.RowKit
set_option maxRecDepth 100000
def flE (z : Int) : Nat := floatOfInt .f64 z
theorem flE_ok {z : Int} (h0 : 0 ≤ z) (h1 : z ≤ 1000000000000) : flE z < 18446744073709551616 ∧ FloatKind.f64.format.order (flE z) (flE z) = some .eq := by
 obtain ⟨n, rfl⟩ := Int.eq_ofNat_of_zero_le h0
 have hn : n < 2 ^ 53 := by omega
 unfold flE
 rw [of_F n hn]
 have hlt := F_lt n 1074 hn (by omega)
 have h64 : F n 1074 < 18446744073709551616 := by omega
 have hN : isN (F n 1074) = false := (isN_not _).2 (by omega)
 exact ⟨h64, order_eq _ _ h64 h64 hN hN rfl⟩
def mkE1 (k : Int) (e : En) : En := ⟨k, k + 1, flE (k + 2), marks (k + 3) e.Z.length, k + 3 + e.Z.length⟩
def nmE (e : En) : Nat := 4 + e.Z.length
def sumM : List En → Nat
 | [] => 0
 | e :: es => nmE e + sumM es
theorem sumM_app : ∀ a b : List En, sumM (a ++ b) = sumM a + sumM b
 | [], b => by simp [sumM]
 | e :: a, b => by simp [sumM, sumM_app a b]; omega
theorem sumM_step (es : List En) (k : Nat) (h : k < es.length) : sumM (es.take (k + 1)) = sumM (es.take k) + nmE (es.getD k en0) := by
 rw [take_snocE es k h, sumM_app]; simp [sumM]
theorem sumM_take (es : List En) (k : Nat) : sumM (es.take k) ≤ sumM es := by
 have : sumM es = sumM (es.take k ++ es.drop k) := by rw [List.take_append_drop]
 rw [this, sumM_app]; omega
theorem sumM_eq : ∀ es : List En, sumM es = es.length * 4 + sumE es
 | [] => rfl
 | e :: es => by simp [sumM, sumE, nmE, sumM_eq es]; omega
def mkEs : Int → List En → List En
 | _, [] => []
 | k, e :: es => mkE1 k e :: mkEs (k + nmE e) es
theorem mkEs_length : ∀ (k : Int) (es : List En), (mkEs k es).length = es.length
 | _, [] => rfl
 | k, e :: es => by simp [mkEs, mkEs_length]
theorem mkEs_at : ∀ (k : Int) (es : List En) (i : Nat), i < es.length → (mkEs k es).getD i en0 = mkE1 (k + sumM (es.take i)) (es.getD i en0)
 | k, [], i, h => by cases h
 | k, e :: es, 0, _ => by simp [mkEs, sumM]
 | k, e :: es, i + 1, h => by
  have ih := mkEs_at (k + nmE e) es i (by simpa using h)
  rw [mkEs, List.getD_cons_succ, ih, List.take_succ_cons, List.getD_cons_succ]
  simp only [sumM]
  rw [show k + (nmE e : Int) + (sumM (es.take i) : Nat) = k + ((nmE e + sumM (es.take i) : Nat) : Int) by omega]
theorem mkEs_app : ∀ (k : Int) (a b : List En), mkEs k (a ++ b) = mkEs k a ++ mkEs (k + sumM a) b
 | k, [], b => by simp [mkEs, sumM]
 | k, e :: a, b => by
  simp only [List.cons_append, mkEs, mkEs_app]
  rw [show k + (nmE e : Int) + (sumM a : Int) = k + ((sumM (e :: a) : Nat) : Int) by simp only [sumM]; omega]
theorem set_mkEs (k : Int) (es : List En) (i : Nat) (h : i < es.length) : (mkEs k (es.take i) ++ es.drop i).set i (mkE1 (k + sumM (es.take i)) (es.getD i en0)) = mkEs k (es.take (i + 1)) ++ es.drop (i + 1) := by
 rw [List.set_append_right _ _ (by rw [mkEs_length, List.length_take]; omega), mkEs_length, List.length_take, show i - min i es.length = 0 by omega, take_snocE es i h, mkEs_app, List.append_assoc]
 congr 1
 have : es.drop i = es.getD i en0 :: es.drop (i + 1) := by
  rw [List.drop_eq_getElem_cons h]; simp [List.getD, h]
 rw [this, List.set_cons_zero]
 rfl
theorem mkdropE_at (k : Int) (es : List En) (i : Nat) (h : i < es.length) : (mkEs k (es.take i) ++ es.drop i).getD i en0 = es.getD i en0 := by
 rw [getD_app, mkEs_length, List.length_take, if_neg (by omega), show i - min i es.length = 0 by omega]
 rw [List.drop_eq_getElem_cons h]; simp [List.getD, h]
theorem cellsE_set4 : ∀ (es : List En) (xs : List Value) (k : Nat) (e : En), xs.length = es.length → k < es.length → ((((cellsE es xs).set (k * 5) (.int .i64 e.K)).set (k * 5 + 1) (.int .i64 e.N)).set (k * 5 + 2) (.float .f64 e.F)).set (k * 5 + 4) (.int .i64 e.id) = cellsE (es.set k e) xs
 | q :: es, y :: xs, 0, e, _, _ => by simp [cellsE, cellsE1]
 | q :: es, y :: xs, k + 1, e, h, hk => by
  have ih := cellsE_set4 es xs k e (by simpa using h) (by simpa using hk)
  rw [show (k + 1) * 5 = k * 5 + 5 by omega]
  simp only [cellsE, cellsE1, List.cons_append, List.nil_append, List.set_cons_succ, ← ih]
set_option maxHeartbeats 6400000 in
theorem markEntryS {lo hi : Nat} {a : Option Addr} {n : Nat} (c : Nat) {es : List En} {w : World} (k : Int) (h : OwnE w lo hi (.slice a n c) es) (hl : es.length = n) (hn : n ≤ 2097152) (hs : sumE es ≤ 2097152) (hk0 : 0 ≤ k) (hk1 : k ≤ 400000000) :
 Calls Tryz.prog 63 #[.slice a n c, .int .i64 k] w fun e w' => e = .returned (.int .i64 (k + sumM es)) ∧ OwnE w' lo hi (.slice a n c) (mkEs k es) ∧ Within lo hi w w' := by
 obtain ⟨xs, ow, hB⟩ := h.own
 have HT := hid h.top
 have hxl : xs.length = n := by rw [hB.len, textsE_len, hl]
 have hsb : sumM es ≤ 10485760 := by have := sumM_eq es; omega
 rw [hl] at ow
 have HO := hid ow
 have HBB := hid hB
 clear h ow hB
 go_enter Tryz.func63, Tryz.ntmps63
 go_wp2
 go_loopw [1, 5] (fun x i wr => ∃ j : Nat, j ≤ n ∧ i = .int .i64 j ∧ x = .int .i64 (k + sumM (es.take j)) ∧ Hid (wr.ownsRow lo 48 5 (.slice a n c) n (cellsE (mkEs k (es.take j) ++ es.drop j) xs)) ∧ Hid (Bands wr lo hi xs (textsE (mkEs k (es.take j) ++ es.drop j))) ∧ Hid (Within lo hi w wr)) (fun _ i _ => n - (intOf i).toNat)
 case atStart => exact ⟨0, Nat.zero_le _, rfl, by simp [sumM], hid (by simpa [mkEs] using HO.out), hid (by simpa [mkEs] using HBB.out), hid (Within.refl _ _ _)⟩
 case round =>
  clear HO HBB
  obtain ⟨j, hj, rfl, rfl, HO, HB, HW⟩ := hrel
  by_cases hlt : j < n
  · have hlt' : (j : Int) < (n : Int) := by omega
    have hj0 : (0 : Int) ≤ (j : Int) := by omega
    have hpl : (mkEs k (es.take j) ++ es.drop j).length = n := by rw [List.length_append, mkEs_length, List.length_take, List.length_drop]; omega
    have HSet := hid (set_mkEs k es j (by omega))
    have hat := mkdropE_at k es j (by omega)
    have HStep := hid (sumM_step es j (by omega))
    have hz1 := sumM_take es (j + 1)
    have hzE := sumE_at es j (by omega)
    obtain ⟨X, hX⟩ : ∃ X : Int, k + sumM (es.take j) = X := ⟨_, rfl⟩
    have hX0 : 0 ≤ X ∧ X ≤ 420000000 := by have := sumM_take es j; omega
    rw [hX] at HSet ⊢
    have HX := hid hX
    generalize mkEs k (es.take j) ++ es.drop j = qs at *
    have hrow : ∃ g, a = some ⟨g, 0, none⟩ := by
     rcases HO.out.2 with ⟨_, h0⟩ | ⟨g, cap, cur, e, _⟩
     · omega
     · cases e; exact ⟨g, rfl⟩
    obtain ⟨g, rfl⟩ := hrow
    have hL5 : (cellsE qs xs).length = n * 5 := by rw [cellsE_len _ _ (by omega), hpl]
    have hca := fun q (hq : q < 5) => (HO.out.cellAt (j * 5 + q) (by omega)).trans (cellsE_at qs xs j q (by omega) (by omega) hq)
    rw [hat] at hca
    have hr1 := HB.out.own j
    rw [textsE_at, hat] at hr1
    obtain ⟨a1, c1, e1⟩ := own_sl hr1
    rw [e1] at hca
    have hgin : lo ≤ g ∧ g < hi := ⟨(HO.out.lt g rfl).1, HT.out g rfl⟩
    have fz : ∀ q, wr.frozen? ⟨g, q, none⟩ = false := fun q => HO.out.frozenAt q
    generalize es.getD j en0 = e at *
    obtain ⟨K, N, F, Z, id⟩ := e
    simp only [nmE] at HStep hr1 hca e1 HSet
    obtain ⟨zl, hzl⟩ : ∃ zl, Z.length = zl := ⟨_, rfl⟩
    simp only [mkE1, hzl] at HSet
    simp only at hzE
    rw [hzl] at HStep e1 hr1 hzE
    have hzy : zl ≤ 2097152 := by omega
    clear hzE
    have x0 : wr.cell? ⟨g, j * 5, none⟩ = some (.int .i64 K) := hca 0 (by omega)
    have x1 : wr.cell? ⟨g, j * 5 + 1, none⟩ = some (.int .i64 N) := hca 1 (by omega)
    have x2 : wr.cell? ⟨g, j * 5 + 2, none⟩ = some (.float .f64 F) := hca 2 (by omega)
    have x3 : wr.cell? ⟨g, j * 5 + 3, none⟩ = some (.slice a1 zl c1) := by have := hca 3 (by omega); rw [hzl] at this; exact this
    have y0 := fz (j * 5)
    have y1 := fz (j * 5 + 1)
    have y2 := fz (j * 5 + 2)
    have hst := fun w a z m => run_store Tryz.prog w a (.float .f64 (floatOfInt .f64 z)) m rfl
    have S0 := HO.out.stored (j * 5) (.int .i64 X)
    have S1 := S0.1.stored (j * 5 + 1) (.int .i64 (X + 1))
    have S2 := S1.1.stored (j * 5 + 2) (.float .f64 (floatOfInt .f64 (X + 1 + 1)))
    have B1 := HB.out.beside S0.2 (fun i => owns_ne (HB.out.own i) HO.out (by decide))
    have B2 := B1.beside S1.2 (fun i => owns_ne (B1.own i) S0.1 (by decide))
    have B3 := B2.beside S2.2 (fun i => owns_ne (B2.own i) S1.1 (by decide))
    have V3 := ((HW.out.trans (Within.setCell _ (p := ⟨g, j * 5, none⟩) hgin (.int .i64 X))).trans (Within.setCell _ (p := ⟨g, j * 5 + 1, none⟩) hgin (.int .i64 (X + 1)))).trans (Within.setCell _ (p := ⟨g, j * 5 + 2, none⟩) hgin (.float .f64 (floatOfInt .f64 (X + 1 + 1))))
    have r3 := B3.own j
    rw [textsE_at, hat, e1] at r3
    simp only at r3
    rw [hzl] at r3
    have i3 := B3.inr j
    rw [e1] at i3
    have K3 := hid S2.1
    have BB3 := hid B3
    have R3 := hid r3
    have I3 := hid i3
    have VV3 := hid V3
    have HE1 := hid e1
    have HL5 := hid hL5
    have HCA4 := hid (hca 4 (by omega))
    have HPL := hid hpl
    have HAT := hid hat
    have HGI := hid hgin
    clear S0 S1 S2 B1 B2 B3 V3 r3 i3 hca fz hr1 e1 hL5 HO HB HW hzl hpl hat hX
    go_wp2_with fail
    clear x0 x1 x2 x3 y0 y1 y2
    generalize ((wr.setCell ⟨g, j * 5, none⟩ (.int .i64 X)).setCell ⟨g, j * 5 + 1, none⟩ (.int .i64 (X + 1))).setCell ⟨g, j * 5 + 2, none⟩ (.float .f64 (floatOfInt .f64 (X + 1 + 1))) = W3 at *
    refine (markByteS_any (X + 1 + 1 + 1) (by omega) (by omega) (by omega) R3.out).mono ?_
    rintro e W8 ⟨rfl, o8, g8⟩
    have k8 := K3.out.kept g8 (owns_ne K3.out R3.out (by decide))
    have b8 := BB3.out.put (i := j) (by rw [textsE_len, HPL.out]; omega) (z := marks (X + 1 + 1 + 1) zl) (by rw [HE1.out]; exact g8) (by rw [HE1.out, marks_length]; exact o8) (marks_bd _ _)
    have v8 := VV3.out.trans (Within.grown g8 I3.out)
    obtain ⟨Q, hQ⟩ : ∃ Q : Int, X + 1 + 1 + 1 + (zl : Int) = Q := ⟨_, rfl⟩
    rw [hQ]
    have hQ0 : 0 ≤ Q ∧ Q ≤ 450000000 := by omega
    have x4 : W8.cell? ⟨g, j * 5 + 4, none⟩ = some (.int .i64 id) := by
     have hl5 := HL5.out
     rw [k8.cellAt (j * 5 + 4) (by omega), List.getElem?_set_ne (by omega), List.getElem?_set_ne (by omega), List.getElem?_set_ne (by omega), cellsE_at qs xs j 4 (by have := HPL.out; omega) (by have := HPL.out; omega) (by omega), HAT.out]; rfl
    have y4 := k8.frozenAt (j * 5 + 4)
    have S4 := k8.stored (j * 5 + 4) (.int .i64 Q)
    have B4 := b8.beside S4.2 (fun i => owns_ne (b8.own i) k8 (by decide))
    have V4 := v8.trans (Within.setCell _ (p := ⟨g, j * 5 + 4, none⟩) HGI.out (.int .i64 Q))
    have O4 := S4.1
    have hE : (⟨X, X + 1, flE (X + 2), marks (X + 3) zl, X + 3 + zl⟩ : En) = ⟨X, X + 1, floatOfInt .f64 (X + 1 + 1), marks (X + 1 + 1 + 1) zl, Q⟩ := by
     rw [← hQ, show X + 1 + 1 + 1 = X + 3 by omega, show X + 1 + 1 = X + 2 by omega]; rfl
    rw [cellsE_set4 qs xs j ⟨X, X + 1, floatOfInt .f64 (X + 1 + 1), marks (X + 1 + 1 + 1) zl, Q⟩ (by have := HPL.out; omega) (by have := HPL.out; omega), ← hE, HSet.out] at O4
    have B5 : Bands (W8.setCell ⟨g, j * 5 + 4, none⟩ (.int .i64 Q)) lo hi xs (textsE (mkEs k (es.take (j + 1)) ++ es.drop (j + 1))) := by
     rw [← HSet.out, hE]
     have : textsE (qs.set j ⟨X, X + 1, floatOfInt .f64 (X + 1 + 1), marks (X + 1 + 1 + 1) zl, Q⟩) = (textsE qs).set j (marks (X + 1 + 1 + 1) zl) := by simp [textsE, List.map_set]
     rw [this]; exact B4
    have N1 := hid O4
    have N2 := hid B5
    have N3 := hid V4
    have HQ := hid hQ
    clear k8 b8 v8 o8 g8 S4 B4 B5 V4 O4 hE hQ K3 BB3 R3 I3 VV3
    go_wp2_with fail
    go_roundw
    case rel => exact ⟨j + 1, by omega, by go_num, by rw [show (k + (sumM (es.take (j + 1)) : Int)) = Q + 1 by have := HStep.out; have := HX.out; have := HQ.out; omega], N1, N2, N3⟩
    case measure => simp [intOf]; omega
  · have hlt' : ¬ (j : Int) < (n : Int) := by omega
    have hjn : j = n := by omega
    subst hjn
    go_wp2
    go_ret
    have e0 : mkEs k (es.take j) ++ es.drop j = mkEs k es := by rw [List.take_of_length_le (by omega), List.drop_eq_nil_of_le (by omega), List.append_nil]
    have e1 := HO.out
    have e2 := HB.out
    rw [e0] at e1 e2
    refine ⟨by rw [List.take_of_length_le (by omega)]; rfl, ⟨⟨xs, by rw [mkEs_length, hl]; exact e1, e2⟩, HT.out, fun i => ?_⟩, HW.out⟩
    by_cases hc : i < es.length
    · rw [mkEs_at k es i hc]
      have h1 := sumM_take es i
      exact (flE_ok (z := k + sumM (es.take i) + 2) (by omega) (by omega)).1
    · rw [List.getD_eq_getElem?_getD, List.getElem?_eq_none (by rw [mkEs_length]; omega)]; simp [en0]
set_option maxHeartbeats 3200000 in
theorem heldEntryS {ad : Option Addr} {n : Nat} (cap : Nat) {es : List En} {w : World} (k : Int) (h : ReadsE w ad (mkEs k es)) (hl : es.length = n) (hn : n ≤ 2097152) (hs : sumE es ≤ 2097152) (hk0 : 0 ≤ k) (hk1 : k ≤ 400000000) :
 Calls Tryz.prog 65 #[.slice ad n cap, .int .i64 k] w fun e w' => e = .returned (.int .i64 (k + sumM es)) ∧ w' = w := by
 have hsb : sumM es ≤ 10485760 := by have := sumM_eq es; omega
 go_enter Tryz.func65, Tryz.ntmps65
 go_wp2
 go_loopw [1, 5] (fun x i wr => ∃ j : Nat, j ≤ n ∧ i = .int .i64 j ∧ x = .int .i64 (k + sumM (es.take j)) ∧ wr = w) (fun _ i _ => n - (intOf i).toNat)
 case atStart => exact ⟨0, Nat.zero_le _, rfl, by simp [sumM], rfl⟩
 case round =>
  obtain ⟨j, hj, rfl, rfl, rfl⟩ := hrel
  by_cases hlt : j < n
  · have hlt' : (j : Int) < (n : Int) := by omega
    have hj0 : (0 : Int) ≤ (j : Int) := by omega
    obtain ⟨b, off, a1, c1, rfl, bx, r1, _, _, _⟩ := h.at (k := j) (by rw [mkEs_length]; omega)
    have HStep := hid (sumM_step es j (by omega))
    have hz1 := sumM_take es (j + 1)
    have hzE := sumE_at es j (by omega)
    rw [mkEs_at k es j (by omega)] at bx r1
    obtain ⟨X, hX⟩ : ∃ X : Int, k + sumM (es.take j) = X := ⟨_, rfl⟩
    have hX0 : 0 ≤ X ∧ X ≤ 420000000 := by have := sumM_take es j; omega
    rw [hX] at bx r1 ⊢
    have HX := hid hX
    generalize es.getD j en0 = e at *
    obtain ⟨K, N, F, Z, id⟩ := e
    simp only [nmE] at HStep
    obtain ⟨zl, hzl⟩ : ∃ zl, Z.length = zl := ⟨_, rfl⟩
    simp only [mkE1, marks_length, hzl] at bx r1 HStep hzE
    have hzy : zl ≤ 2097152 := by omega
    clear hzE
    unfold flE at bx
    have o1 := (flE_ok (z := X + 2) (by omega) (by omega)).2
    unfold flE at o1
    obtain ⟨Q, hQ⟩ : ∃ Q : Int, X + 1 + 1 + 1 + (zl : Int) = Q := ⟨_, rfl⟩
    rw [show X + 3 + (zl : Int) = Q by omega, show X + 2 = X + 1 + 1 by omega] at bx
    rw [show X + 2 = X + 1 + 1 by omega] at o1
    rw [show X + 3 = X + 1 + 1 + 1 by omega] at r1
    have HQ := hid hQ
    have hQ0 : 0 ≤ Q ∧ Q ≤ 430000000 := by omega
    have hQn : ¬ Q < 0 := by omega
    have R1 := hid r1
    obtain ⟨x0, x1, x2, x3, x4⟩ := bx
    clear r1 hX hQ hzl
    go_wp2_with fail
    refine (heldByteS_any c1 (X + 1 + 1 + 1) R1.out (by omega) (by omega) (by omega)).mono ?_
    rintro e w1 ⟨rfl, e1⟩
    subst w1
    rw [HQ.out]
    go_wp2_with fail
    go_roundw
    case rel => exact ⟨j + 1, by omega, by go_num, by rw [show (k + (sumM (es.take (j + 1)) : Int)) = Q + 1 by have := HStep.out; have := HX.out; have := HQ.out; omega], by trivial⟩
    case measure => simp [intOf]; omega
  · have hlt' : ¬ (j : Int) < (n : Int) := by omega
    go_wp2
    go_ret
    exact ⟨by rw [List.take_of_length_le (by omega)]; rfl, rfl⟩
end Go.Proofs.YtlkoghdajpbffaaGreat
/- The contracts of the laws' markNodeS, heldNodeS, markTree, heldTree. Conditions: trees of at most 2^21 bytes, entries, kids and nodes together. -/


namespace Go.Proofs.YtlkoghdajpbffaaGreat
open Go.RowKit
set_option maxRecDepth 100000
def lf3 (k : Int) : Bool := k % 3 == 0
def mkD1 (k : Int) (d : Nd) : Nd := ⟨lf3 k, mkEs (k + 1) d.es, marksI (k + 1 + sumM d.es) d.ks.length⟩
def nmD (d : Nd) : Nat := 1 + sumM d.es + d.ks.length
def mkDs : Int → List Nd → List Nd
 | _, [] => []
 | k, d :: ds => mkD1 k d :: mkDs (k + nmD d) ds
theorem mkDs_length : ∀ (k : Int) (ds : List Nd), (mkDs k ds).length = ds.length
 | _, [] => rfl
 | k, d :: ds => by simp [mkDs, mkDs_length]
theorem mkDs_at : ∀ (k : Int) (ds : List Nd) (i : Nat), i < ds.length → (mkDs k ds).getD i nd0 = mkD1 (k + sumD nmD (ds.take i)) (ds.getD i nd0)
 | k, [], i, h => by cases h
 | k, d :: ds, 0, _ => by simp [mkDs, sumD]
 | k, d :: ds, i + 1, h => by
  have ih := mkDs_at (k + nmD d) ds i (by simpa using h)
  rw [mkDs, List.getD_cons_succ, ih, List.take_succ_cons, List.getD_cons_succ]
  simp only [sumD]
  rw [show k + (nmD d : Int) + (sumD nmD (ds.take i) : Nat) = k + ((nmD d + sumD nmD (ds.take i) : Nat) : Int) by omega]
theorem mkDs_app : ∀ (k : Int) (a b : List Nd), mkDs k (a ++ b) = mkDs k a ++ mkDs (k + sumD nmD a) b
 | k, [], b => by simp [mkDs, sumD]
 | k, d :: a, b => by
  simp only [List.cons_append, mkDs, mkDs_app]
  rw [show k + (nmD d : Int) + (sumD nmD a : Int) = k + ((sumD nmD (d :: a) : Nat) : Int) by simp only [sumD]; omega]
theorem set_mkDs (k : Int) (ds : List Nd) (i : Nat) (h : i < ds.length) : (mkDs k (ds.take i) ++ ds.drop i).set i (mkD1 (k + sumD nmD (ds.take i)) (ds.getD i nd0)) = mkDs k (ds.take (i + 1)) ++ ds.drop (i + 1) := by
 rw [List.set_append_right _ _ (by rw [mkDs_length, List.length_take]; omega), mkDs_length, List.length_take, show i - min i ds.length = 0 by omega, take_snocD ds i h, mkDs_app, List.append_assoc]
 congr 1
 have : ds.drop i = ds.getD i nd0 :: ds.drop (i + 1) := by
  rw [List.drop_eq_getElem_cons h]; simp [List.getD, h]
 rw [this, List.set_cons_zero]
 rfl
theorem mkdropD_at (k : Int) (ds : List Nd) (i : Nat) (h : i < ds.length) : (mkDs k (ds.take i) ++ ds.drop i).getD i nd0 = ds.getD i nd0 := by
 rw [getD_app, mkDs_length, List.length_take, if_neg (by omega), show i - min i ds.length = 0 by omega]
 rw [List.drop_eq_getElem_cons h]; simp [List.getD, h]
theorem nmD_le (d : Nd) : nmD d ≤ 1 + 4 * szD d := by have := sumM_eq d.es; unfold nmD szD; omega
theorem sumD_nm : ∀ ds : List Nd, sumD nmD ds ≤ ds.length + 4 * sumD szD ds
 | [] => by simp [sumD]
 | d :: ds => by have := sumD_nm ds; have := nmD_le d; simp [sumD]; omega
set_option maxHeartbeats 6400000 in
theorem markNodeS {lo hi : Nat} {a : Option Addr} {n : Nat} (c : Nat) {ds : List Nd} {w : World} (k : Int) (h : OwnD w lo hi (.slice a n c) ds) (hh : hi ≤ w.heap.size) (hl : ds.length = n) (hn : n ≤ 2097152) (hs : sumD szD ds ≤ 2097152) (hk0 : 0 ≤ k) (hk1 : k ≤ 300000000) :
 Calls Tryz.prog 36 #[.slice a n c, .int .i64 k] w fun e w' => e = .returned (.int .i64 (k + sumD nmD ds)) ∧ OwnD w' lo hi (.slice a n c) (mkDs k ds) ∧ Within lo hi w w' := by
 obtain ⟨ys, bs, ow, hB, hq⟩ := h.own
 have HQ := hid hq
 have HT := hid h.top
 have hyl : ys.length = n := by rw [hB.len]; exact hl
 have hnm : sumD nmD ds ≤ 10485760 := by have := sumD_nm ds; omega
 rw [hl] at ow
 have HO := hid ow
 have HBB := hid hB
 clear h ow hB hq
 go_enter Tryz.func36, Tryz.ntmps36
 go_wp2
 go_loopw [1, 5] (fun x i wr => ∃ j : Nat, j ≤ n ∧ i = .int .i64 j ∧ x = .int .i64 (k + sumD nmD (ds.take j)) ∧ Hid (wr.ownsRow lo 61 3 (.slice a n c) n (cellsD (mkDs k (ds.take j) ++ ds.drop j) ys)) ∧ Hid (BandsD wr lo hi ys (mkDs k (ds.take j) ++ ds.drop j) bs) ∧ Hid (Within lo hi w wr)) (fun _ i _ => n - (intOf i).toNat)
 case atStart => exact ⟨0, Nat.zero_le _, rfl, by simp [sumD], hid (by simpa [mkDs] using HO.out), hid (by simpa [mkDs] using HBB.out), hid (Within.refl _ _ _)⟩
 case round =>
  clear HO HBB
  obtain ⟨j, hj, rfl, rfl, HO, HB, HW⟩ := hrel
  by_cases hlt : j < n
  · have hlt' : (j : Int) < (n : Int) := by omega
    have hj0 : (0 : Int) ≤ (j : Int) := by omega
    have hpl : (mkDs k (ds.take j) ++ ds.drop j).length = n := by rw [List.length_append, mkDs_length, List.length_take, List.length_drop]; omega
    have HSet := hid (set_mkDs k ds j (by omega))
    have hat := mkdropD_at k ds j (by omega)
    have HStep := hid (sumD_step nmD ds j (by omega))
    have hz1 := sumD_take nmD ds (j + 1)
    have hz2 := sumD_at szD ds j (by omega)
    obtain ⟨X, hX⟩ : ∃ X : Int, k + sumD nmD (ds.take j) = X := ⟨_, rfl⟩
    have hX0 : 0 ≤ X ∧ X ≤ 320000000 := by have := sumD_take nmD ds j; omega
    rw [hX] at HSet ⊢
    have HX := hid hX
    generalize mkDs k (ds.take j) ++ ds.drop j = qs at *
    have hrow : ∃ g, a = some ⟨g, 0, none⟩ := by
     rcases HO.out.2 with ⟨_, h0⟩ | ⟨g, cap, cur, e, _⟩
     · omega
     · cases e; exact ⟨g, rfl⟩
    obtain ⟨g, rfl⟩ := hrow
    have hL3 : (cellsD qs ys).length = n * 3 := by rw [cellsD_len _ _ (by omega), hpl]
    have hca := fun q (hq : q < 3) => (HO.out.cellAt (j * 3 + q) (by omega)).trans (cellsD_at qs ys j q (by omega) (by omega) hq)
    rw [hat] at hca
    have S0 := HO.out.stored (j * 3) (.bool (lf3 X))
    have hB1 := HB.out.aside HO.out (by decide) (by decide) (by decide) S0.2
    have hD := hB1.own j (by omega)
    rw [hat] at hD
    have hin := HB.out.inr j (by omega)
    have hgq := HQ.out j (by omega) g rfl
    obtain ⟨m, hm1, hm2, oE, oK⟩ := hD.ex
    obtain ⟨a1, c1, e1⟩ := oE.slice
    obtain ⟨a2, c2, e2⟩ := oK.slice
    rw [e1] at oE
    rw [e2] at oK
    have x0 : wr.cell? ⟨g, j * 3, none⟩ = some (.bool (ds.getD j nd0).leaf) := hca 0 (by omega)
    have x1 : (wr.setCell ⟨g, j * 3, none⟩ (.bool (lf3 X))).cell? ⟨g, j * 3 + 1, none⟩ = some (.slice a1 (ds.getD j nd0).es.length c1) := by
     rw [S0.1.cellAt (j * 3 + 1) (by omega), List.getElem?_set_ne (by omega), cellsD_at qs ys j 1 (by omega) (by omega) (by omega), ← e1]; rfl
    have x1' : wr.cell? ⟨g, j * 3 + 1, none⟩ = some (.slice a1 (ds.getD j nd0).es.length c1) := by
     rw [HO.out.cellAt (j * 3 + 1) (by omega), cellsD_at qs ys j 1 (by omega) (by omega) (by omega), ← e1]; rfl
    have y0 := HO.out.frozenAt (j * 3)
    have hgin : lo ≤ g ∧ g < hi := ⟨(HO.out.lt g rfl).1, HT.out g rfl⟩
    have V1 := HW.out.trans (Within.setCell _ (p := ⟨g, j * 3, none⟩) hgin (.bool (lf3 X)))
    have hsz : hi ≤ (wr.setCell ⟨g, j * 3, none⟩ (.bool (lf3 X))).heap.size := by rw [set_size]; exact Nat.le_trans hh HW.out.size
    have OE := hid oE
    have OK := hid oK
    have HS0 := hid S0.1
    have HB1 := hid hB1
    have VV1 := hid V1
    have HSZ := hid hsz
    have HIN := hid hin
    have HGQ := hid hgq
    have HMM := hid (And.intro hm1 hm2)
    have HE1 := hid e1
    have HE2 := hid e2
    have HPL := hid hpl
    have HL3 := hid hL3
    have HAT := hid hat
    have HLT := hid (HO.out.lt g rfl).2
    clear hca S0 hB1 hD hin hgq hm1 hm2 oE oK V1 hsz e1 e2 hpl hL3 hat HO HB HW hX hgin
    generalize ds.getD j nd0 = d at *
    obtain ⟨lf, es, ks⟩ := d
    simp only [szD, nmD] at hz2 HStep x0 x1 x1' OE OK HE1 HE2
    simp only [mkD1] at HSet
    obtain ⟨q, hq⟩ : ∃ q, es.length = q := ⟨_, rfl⟩
    obtain ⟨u, hu⟩ : ∃ u, ks.length = u := ⟨_, rfl⟩
    rw [hq] at hz2 x1 x1' HE1 OE
    rw [hu] at hz2 HStep HE2 OK HSet
    have HQL := hid hq
    have HUL := hid hu
    clear hq hu
    have hB3 : (X % 3 == 0) = lf3 X := rfl
    have hr0 : 0 ≤ X % 3 := by omega
    have hr1 : X % 3 < 3 := by omega
    go_wp2_with fail
    clear x0 x1 x1' y0 hr0 hr1 hB3
    generalize wr.setCell ⟨g, j * 3, none⟩ (.bool (lf3 X)) = A at *
    refine (markEntryS c1 (X + 1) OE.out HQL.out (by omega) (by omega) (by omega) (by omega)).mono ?_
    rintro e Bw ⟨rfl, oE, wE⟩
    obtain ⟨Y, hY⟩ : ∃ Y : Int, X + 1 + sumM es = Y := ⟨_, rfl⟩
    rw [hY]
    have hsme := sumM_eq es
    have hql := HQL.out
    have hY0 : 0 ≤ Y ∧ Y ≤ 340000000 := by omega
    have x2 : Bw.cell? ⟨g, j * 3 + 2, none⟩ = some (.slice a2 u c2) := by
     have h1 := HGQ.out
     have h2 := HMM.out
     have h3 := HLT.out
     have h4 := HL3.out
     have h5 := HPL.out
     rw [World.cell?_of_block (w := A) (a := ⟨g, j * 3 + 2, none⟩) (wE.block g (by have := (HS0.out.lt g rfl).2; exact this) (by omega)), HS0.out.cellAt (j * 3 + 2) (by omega), List.getElem?_set_ne (by omega), cellsD_at qs ys j 2 (by omega) (by omega) (by omega), HAT.out]
     show some (ys.getD j nilP).2 = _
     rw [HE2.out]
    have oK := OK.out.agree (w' := Bw) (fun p p1 p2 => wE.block p (by have := HSZ.out; have := HIN.out; omega) (by omega))
    have OEB := hid oE
    have OKB := hid oK
    have WE := hid wE
    have HY := hid hY
    clear oE oK wE hY hsme hql
    go_wp2_with fail
    clear x2
    have oK0 := OKB.out.own
    rw [HUL.out] at oK0
    refine (markIntS_any Y (by omega) (by omega) (by omega) oK0).mono ?_
    rintro e C ⟨rfl, oI, gI⟩
    have h2 := HMM.out
    have hin := HIN.out
    have hszA := HSZ.out
    have ktop := OKB.out.top
    have wAC : Within (bs.getD j (0, 0)).1 (bs.getD j (0, 0)).2 A C := ⟨gI.os.trans WE.out.os, gI.tape.trans WE.out.tape, gI.output.trans WE.out.output, Nat.le_trans WE.out.size gI.size, fun p p1 p2 => by
     rw [gI.block p (by have := WE.out.size; omega) (fun e => by have e1 := (oK0.lt p e.symm).1; have e2 := ktop p e.symm; omega), WE.out.block p p1 (by omega)]⟩
    have oEC := OEB.out.agree (w' := C) (fun p p1 p2 => gI.block p (by have := WE.out.size; omega) (fun e => by have e1 := (oK0.lt p e.symm).1; omega))
    have hD : OwnD1 C (bs.getD j (0, 0)).1 (bs.getD j (0, 0)).2 (ys.getD j nilP) ⟨lf3 X, mkEs (X + 1) es, marksI (X + 1 + sumM es) u⟩ := by
     refine ⟨m, h2.1, h2.2, ?_, ?_⟩
     · rw [HE1.out]; exact oEC
     · rw [HE2.out]
       refine ⟨?_, ktop, ?_⟩
       · simp only [marksI_length, HY.out]; exact oI
       · intro i; simp only [HY.out]; exact marksI_bd _ _ _ (by omega) (by omega) (by omega)
    have hBn := HB1.out.put (i := j) (by have := HPL.out; omega) wAC hszA hD
    have hOn : C.ownsRow lo 61 3 (.slice (some ⟨g, 0, none⟩) n c) n (cellsD (qs.set j ⟨lf3 X, mkEs (X + 1) es, marksI (X + 1 + sumM es) u⟩) ys) := by
     rw [← cellsD_set1 qs ys j ⟨lf3 X, mkEs (X + 1) es, marksI (X + 1 + sumM es) u⟩ (by have := HPL.out; omega) (by have := HPL.out; omega)]
     refine owns_agree (lo := g) (hi := g + 1) HS0.out (fun p p1 p2 => wAC.block p ?_ ?_) (fun p hp => ?_)
     · have := (HS0.out.lt g rfl).2; omega
     · obtain rfl : p = g := by omega
       have := HGQ.out; omega
     · have : p = g := by simpa [Value.ownBlock] using hp.symm
       omega
    rw [HSet.out] at hBn hOn
    have N1 := hid hOn
    have N2 := hid hBn
    have N3 := hid (VV1.out.trans (show Within lo hi A C from ⟨wAC.os, wAC.tape, wAC.output, wAC.size, fun p p1 p2 => wAC.block p p1 (by omega)⟩))
    clear hOn hBn hD oEC wAC oI gI oK0 ktop h2 hin hszA
    go_wp2_with fail
    go_roundw
    case rel => exact ⟨j + 1, by omega, by go_num, by rw [show (k + (sumD nmD (ds.take (j + 1)) : Int)) = Y + u by have := HStep.out; have := HX.out; have := HY.out; omega], N1, N2, N3⟩
    case measure => simp [intOf]; omega
  · have hlt' : ¬ (j : Int) < (n : Int) := by omega
    have hjn : j = n := by omega
    subst hjn
    go_wp2
    go_ret
    have e0 : mkDs k (ds.take j) ++ ds.drop j = mkDs k ds := by rw [List.take_of_length_le (by omega), List.drop_eq_nil_of_le (by omega), List.append_nil]
    have e1 := HO.out
    have e2 := HB.out
    rw [e0] at e1 e2
    exact ⟨by rw [List.take_of_length_le (by omega)]; rfl, ⟨⟨ys, bs, by rw [mkDs_length, hl]; exact e1, e2, fun i hi g hg => HQ.out i (by rw [mkDs_length] at hi; exact hi) g hg⟩, HT.out⟩, HW.out⟩
set_option maxHeartbeats 3200000 in
theorem heldNodeS {ad : Option Addr} {n : Nat} (cap : Nat) {ds : List Nd} {w : World} (k : Int) (h : ReadsD w ad (mkDs k ds)) (hl : ds.length = n) (hn : n ≤ 2097152) (hs : sumD szD ds ≤ 2097152) (hk0 : 0 ≤ k) (hk1 : k ≤ 300000000) :
 Calls Tryz.prog 38 #[.slice ad n cap, .int .i64 k] w fun e w' => e = .returned (.int .i64 (k + sumD nmD ds)) ∧ w' = w := by
 have hnm : sumD nmD ds ≤ 10485760 := by have := sumD_nm ds; omega
 go_enter Tryz.func38, Tryz.ntmps38
 go_wp2
 go_loopw [1, 5] (fun x i wr => ∃ j : Nat, j ≤ n ∧ i = .int .i64 j ∧ x = .int .i64 (k + sumD nmD (ds.take j)) ∧ wr = w) (fun _ i _ => n - (intOf i).toNat)
 case atStart => exact ⟨0, Nat.zero_le _, rfl, by simp [sumD], rfl⟩
 case round =>
  obtain ⟨j, hj, rfl, rfl, rfl⟩ := hrel
  by_cases hlt : j < n
  · have hlt' : (j : Int) < (n : Int) := by omega
    have hj0 : (0 : Int) ≤ (j : Int) := by omega
    obtain ⟨b, off, a1, c1, a2, c2, rfl, x0, x1, x2, r1, _, i1, _⟩ := h.at (k := j) (by rw [mkDs_length]; omega)
    have HStep := hid (sumD_step nmD ds j (by omega))
    have hz1 := sumD_take nmD ds (j + 1)
    have hz2 := sumD_at szD ds j (by omega)
    rw [mkDs_at k ds j (by omega)] at x0 x1 x2 r1 i1
    obtain ⟨X, hX⟩ : ∃ X : Int, k + sumD nmD (ds.take j) = X := ⟨_, rfl⟩
    have hX0 : 0 ≤ X ∧ X ≤ 320000000 := by have := sumD_take nmD ds j; omega
    rw [hX] at x0 x1 x2 r1 i1 ⊢
    have HX := hid hX
    generalize ds.getD j nd0 = d at *
    obtain ⟨lf, es, ks⟩ := d
    simp only [nmD, szD] at HStep hz2
    simp only [mkD1, mkEs_length, marksI_length] at x0 x1 x2 r1 i1
    obtain ⟨q, hq⟩ : ∃ q, es.length = q := ⟨_, rfl⟩
    obtain ⟨u, hu⟩ : ∃ u, ks.length = u := ⟨_, rfl⟩
    rw [hq] at x1 hz2
    rw [hu] at x2 i1 hz2 HStep
    obtain ⟨Y, hY⟩ : ∃ Y : Int, X + 1 + sumM es = Y := ⟨_, rfl⟩
    have hsme := sumM_eq es
    have hY0 : 0 ≤ Y ∧ Y ≤ 340000000 := by omega
    have hYn : ¬ Y < 0 := by omega
    rw [hY] at i1
    obtain ⟨T, hT⟩ : ∃ T : Int, Y + u = T := ⟨_, rfl⟩
    have hTn : ¬ T < 0 := by omega
    have HTT := hid hT
    have HY := hid hY
    have HQL := hid hq
    have R1 := hid r1
    have I1 := hid i1
    have hB3 : (X % 3 == 0) = lf3 X := rfl
    have hB4 : (lf3 X != lf3 X) = false := by simp
    have hr0 : 0 ≤ X % 3 := by omega
    have hr1 : X % 3 < 3 := by omega
    clear r1 i1 hX hY hT hsme hq hu
    go_wp2_with fail
    refine (heldEntryS c1 (X + 1) R1.out HQL.out (by omega) (by omega) (by omega) (by omega)).mono ?_
    rintro e w1 ⟨rfl, e1⟩
    subst w1
    rw [HY.out]
    go_wp2_with fail
    refine (heldIntS_any c2 Y I1.out (by omega) (by omega) (by omega)).mono ?_
    rintro e w1 ⟨rfl, e1⟩
    subst w1
    rw [HTT.out]
    go_wp2_with fail
    go_roundw
    case rel => exact ⟨j + 1, by omega, by go_num, by rw [show (k + (sumD nmD (ds.take (j + 1)) : Int)) = T by have := HStep.out; have := HX.out; have := HY.out; have := HTT.out; omega], by trivial⟩
    case measure => simp [intOf]; omega
  · have hlt' : ¬ (j : Int) < (n : Int) := by omega
    go_wp2
    go_ret
    exact ⟨by rw [List.take_of_length_le (by omega)]; rfl, rfl⟩
set_option maxHeartbeats 1600000 in
theorem markTree {lo hi : Nat} {a : Option Addr} {n : Nat} (c : Nat) (rt : Int) {ds : List Nd} {w : World} (k : Int) (h : OwnD w lo hi (.slice a n c) ds) (hh : hi ≤ w.heap.size) (hl : ds.length = n) (hn : n ≤ 2097152) (hs : sumD szD ds ≤ 2097152) (hk0 : 0 ≤ k) (hk1 : k ≤ 300000000) :
 Calls Tryz.prog 12 #[.agg #[.slice a n c, .int .i64 rt], .int .i64 k] w fun e w' => e = .returned (.int .i64 (k + sumD nmD ds)) ∧ OwnD w' lo hi (.slice a n c) (mkDs k ds) ∧ Within lo hi w w' := by
 have hA := Below.alloc1 w (.cells #[.slice a n c, .int .i64 rt] 33)
 have h1 := hid (h.below hA hh)
 have G0 := hid (Within.of_below (lo := lo) (hi := hi) hA qN)
 have HS := hid (show hi ≤ (w.alloc (.cells #[.slice a n c, .int .i64 rt] 33)).heap.size by rw [alloc_size]; omega)
 clear h hA
 go_enter Tryz.func12, Tryz.ntmps12
 go_wp2_with fail
 refine (markNodeS c k h1.out HS.out hl hn hs hk0 hk1).mono ?_
 rintro e W1 ⟨rfl, o1, G1⟩
 have O1 := hid o1
 have HG := hid (G0.out.trans G1)
 clear o1 G1
 go_wp2_with fail
 go_ret
 exact ⟨rfl, O1.out, HG.out⟩
set_option maxHeartbeats 1600000 in
theorem heldTree {ad : Option Addr} {n : Nat} (cap : Nat) (rt : Int) {ds : List Nd} {w : World} (k : Int) (h : ReadsD w ad (mkDs k ds)) (hl : ds.length = n) (hn : n ≤ 2097152) (hs : sumD szD ds ≤ 2097152) (hk0 : 0 ≤ k) (hk1 : k ≤ 300000000) :
 Calls Tryz.prog 14 #[.agg #[.slice ad n cap, .int .i64 rt], .int .i64 k] w fun e w' => e = .returned (.int .i64 (k + sumD nmD ds)) ∧ Below w.heap.size w w' := by
 have hB := Below.alloc1 w (.cells #[.slice ad n cap, .int .i64 rt] 33)
 have H1 := hid (h.below hB qN)
 have HB := hid hB
 obtain ⟨Y, hY⟩ : ∃ Y : Int, k + sumD nmD ds = Y := ⟨_, rfl⟩
 have q2 : ¬ Y < 0 := by omega
 have HY := hid hY
 clear hB h hY
 go_enter Tryz.func14, Tryz.ntmps14
 go_wp2_with fail
 refine (heldNodeS cap k H1.out hl hn hs hk0 hk1).mono ?_
 rintro e w1 ⟨rfl, e1⟩
 subst w1
 rw [HY.out]
 go_wp2_with fail
 go_ret
 exact ⟨by rw [HY.out]; rfl, HB.out⟩
end Go.Proofs.YtlkoghdajpbffaaGreat
/- What FnExactTreeDrop's walk rests on: sizes behind a drop, the room of lists, nodes told by types. No statement of its own; no conditions. -/


namespace Go.Proofs.YtlkoghdajpbffaaGreat
open Go.RowKit
set_option maxRecDepth 100000
section
variable {w w' : World} {ad : Option Addr} {N : Nat} {ds : List Nd}
theorem CapD.below (h : CapD w ad N) (hr : ReadsD w ad ds) (hl : ds.length = N) (hb : Below w.heap.size w w') : CapD w' ad N := fun k hk b off n c a e hc => by
 obtain ⟨b', off', a', c', a2, c2, e', h0, h1, h2, _⟩ := hr.at (k := k) (by omega)
 rw [e] at e'
 cases e'
 exact h k hk e ((hb.cell (p := ⟨b, off + k * 3 + 1, none⟩) (World.block_lt_of_cell? w _ h1)).symm.trans hc)
theorem KapD.below (h : KapD w ad N) (hr : ReadsD w ad ds) (hl : ds.length = N) (hb : Below w.heap.size w w') : KapD w' ad N := fun k hk b off n c a e hc => by
 obtain ⟨b', off', a', c', a2, c2, e', h0, h1, h2, _⟩ := hr.at (k := k) (by omega)
 rw [e] at e'
 cases e'
 exact h k hk e ((hb.cell (p := ⟨b, off + k * 3 + 2, none⟩) (World.block_lt_of_cell? w _ h2)).symm.trans hc)
theorem OwnD.nsr {lo hi : Nat} {v : Value} (h : OwnD w lo hi v ds) : ∃ ys, NsR w lo v ds ys := by
 obtain ⟨ys, bs, o, hB, _⟩ := h.own
 refine ⟨ys, hB.len, o, fun i hi => ?_⟩
 obtain ⟨m, _, _, oE, oK⟩ := (hB.own i hi).ex
 obtain ⟨xs, he⟩ := oE.enr
 exact ⟨⟨_, xs, he⟩, ⟨⟨_, oK.own⟩, oK.bd⟩⟩
theorem NsR.cap {b n c : Nat} {a : Option Addr} {ys : List (Value × Value)} (h : NsR w b (.slice a n c) ds ys) (hl : ds.length = n) : CapD w a n ∧ KapD w a n := by
 have o := h.own
 rw [hl] at o
 have key : ∀ k, k < n → ∀ {b1 off : Nat}, a = some ⟨b1, off, none⟩ → ∀ j, j < 3 → w.cell? ⟨b1, off + k * 3 + j, none⟩ = (cellsD1 (ds.getD k nd0) (ys.getD k nilP))[j]? := fun k hk b1 off e j hj => by
  subst e
  rcases o.2 with ⟨e2, hz⟩ | ⟨g, cp, cu, e2, _⟩
  · omega
  · cases e2
    rw [Nat.zero_add]
    exact (o.cellAt (k * 3 + j) (by omega)).trans (cellsD_at ds ys k j h.len (by omega) hj)
 refine ⟨fun k hk b1 off n1 c1 a1 e hc => ?_, fun k hk b1 off n1 c1 a1 e hc hn => ?_⟩
 · have h1 := key k hk e 1 (by omega)
   obtain ⟨b2, xs, oE⟩ := (h.nd k (by omega)).es
   have h2 : (ys.getD k nilP).1 = .slice a1 n1 c1 := by
    rw [hc] at h1
    exact (Option.some.inj h1).symm
   have oo := oE.own
   rw [h2] at oo
   rcases oo.2 with ⟨e3, hz⟩ | ⟨g, cp, cu, e3, _, _, q1, q2, _⟩
   · cases e3; exact ⟨Nat.le_refl _, Nat.zero_le _, .inl ⟨rfl, rfl⟩⟩
   · cases e3; exact ⟨q1, q2, .inr ⟨_, _, rfl⟩⟩
 · have h1 := key k hk e 2 (by omega)
   obtain ⟨b2, oK⟩ := (h.nd k (by omega)).ks.own
   have h2 : (ys.getD k nilP).2 = .slice a1 n1 c1 := by
    rw [hc] at h1
    exact (Option.some.inj h1).symm
   rw [h2] at oK
   rcases oK.2 with ⟨e3, hz⟩ | ⟨g, cp, cu, e3, _⟩
   · cases e3; rfl
   · cases e3; cases hn
theorem NsR.row {b p : Nat} {v : Value} {ys : List (Value × Value)} {cs cs' : Array Value} {fz : Nat × Nat} (h : NsR w b v ds ys) (hp : w.heap[p]? = some (.cells cs 33 fz)) : NsR (w.setRow p cs') b v ds ys := by
 have g2 := row_grown11 w p cs'
 refine ⟨h.len, h.own.kept g2 (.inr (fun e => ?_)), fun i hi => (h.nd i hi).kn (KN.grown g2 (fun q hq => by obtain rfl := Option.some.inj hq; exact ⟨_, _, _, hp, .inr rfl⟩))⟩
 rcases h.own.2 with ⟨e2, _⟩ | ⟨g, cp, cu, e2, _, hg, _⟩
 · rw [e2] at e; cases e
 · rw [e2] at e
   have e3 : g = p := by first | exact Option.some.inj e | exact (Option.some.inj e).symm
   rw [e3, hp] at hg
   simp only [Option.some.injEq, Obj.cells.injEq] at hg
   exact absurd hg.2.1 (by decide)
end
end Go.Proofs.YtlkoghdajpbffaaGreat
/- The room of the entries' lists in a tree that is read. No statement of its own; no conditions. -/

namespace Go.Proofs.YtlkoghdajpbffaaGreat
open Go.RowKit
set_option maxRecDepth 100000
def EapD (w : World) (ad : Option Addr) (N : Nat) : Prop := ∀ (k : Nat), k < N → ∀ {b off n c : Nat} {a : Option Addr}, ad = some ⟨b, off, none⟩ → w.cell? ⟨b, off + k * 3 + 1, none⟩ = some (.slice a n c) → a = none → c = 0
section
variable {w w' : World} {ad : Option Addr} {N : Nat} {ds : List Nd}
theorem EapD.below (h : EapD w ad N) (hr : ReadsD w ad ds) (hl : ds.length = N) (hb : Below w.heap.size w w') : EapD w' ad N := fun k hk b off n c a e hc => by
 obtain ⟨b', off', a', c', a2, c2, e', h0, h1, h2, _⟩ := hr.at (k := k) (by omega)
 rw [e] at e'
 cases e'
 exact h k hk e ((hb.cell (p := ⟨b, off + k * 3 + 1, none⟩) (World.block_lt_of_cell? w _ h1)).symm.trans hc)
theorem NsR.eap {b n c : Nat} {a : Option Addr} {ys : List (Value × Value)} (h : NsR w b (.slice a n c) ds ys) (hl : ds.length = n) : EapD w a n := by
 have o := h.own
 rw [hl] at o
 intro k hk b1 off n1 c1 a1 e hc hn
 have h1 : w.cell? ⟨b1, off + k * 3 + 1, none⟩ = (cellsD1 (ds.getD k nd0) (ys.getD k nilP))[1]? := by
  subst e
  rcases o.2 with ⟨e2, hz⟩ | ⟨g, cp, cu, e2, _⟩
  · omega
  · cases e2
    rw [Nat.zero_add]
    exact (o.cellAt (k * 3 + 1) (by omega)).trans (cellsD_at ds ys k 1 h.len (by omega) (by omega))
 obtain ⟨b2, xs, oE⟩ := (h.nd k (by omega)).es
 have h2 : (ys.getD k nilP).1 = .slice a1 n1 c1 := by
  rw [hc] at h1
  exact (Option.some.inj h1).symm
 have oo := oE.own
 rw [h2] at oo
 rcases oo.2 with ⟨e3, hz⟩ | ⟨g, cp, cu, e3, _⟩
 · cases e3; rfl
 · cases e3; cases hn
end
end Go.Proofs.YtlkoghdajpbffaaGreat
