/- The contracts of the laws' markEntryS and heldEntryS. Conditions: entries of at most 2^21 bytes together. -/
import Derived.Test.YtphmlndkjgldkaaKc11
import Derived.Test.YtphmlndkjgldkaaMga
namespace Go.Proofs.Ytphmlndkjgldkaa
open Go.RowKit
set_option maxRecDepth 100000
def flE (z : Int) : Nat := floatOfInt .f64 z
theorem flE_ok {z : Int} (h0 : 0 ≤ z) (h1 : z ≤ 1000000000000) : flE z < 18446744073709551616 ∧ FloatKind.f64.format.order (flE z) (flE z) = some .eq := by
 obtain ⟨n, rfl⟩ := Int.eq_ofNat_of_zero_le h0
 have hn : n < 2 ^ 53 := by omega
 unfold flE
 rw [of_F n hn]
 have hlt := F_lt n 1074 hn (by omega)
 have h64 : F n 1074 < 18446744073709551616 := by omega
 have hN : isN (F n 1074) = false := (isN_not _).2 (by omega)
 exact ⟨h64, order_eq _ _ h64 h64 hN hN rfl⟩
def mkE1 (k : Int) (e : En) : En := ⟨k, k + 1, flE (k + 2), marks (k + 3) e.Z.length, k + 3 + e.Z.length⟩
def nmE (e : En) : Nat := 4 + e.Z.length
def sumM : List En → Nat
 | [] => 0
 | e :: es => nmE e + sumM es
theorem sumM_app : ∀ a b : List En, sumM (a ++ b) = sumM a + sumM b
 | [], b => by simp [sumM]
 | e :: a, b => by simp [sumM, sumM_app a b]; omega
theorem sumM_step (es : List En) (k : Nat) (h : k < es.length) : sumM (es.take (k + 1)) = sumM (es.take k) + nmE (es.getD k en0) := by
 rw [take_snocE es k h, sumM_app]; simp [sumM]
theorem sumM_take (es : List En) (k : Nat) : sumM (es.take k) ≤ sumM es := by
 have : sumM es = sumM (es.take k ++ es.drop k) := by rw [List.take_append_drop]
 rw [this, sumM_app]; omega
theorem sumM_eq : ∀ es : List En, sumM es = es.length * 4 + sumE es
 | [] => rfl
 | e :: es => by simp [sumM, sumE, nmE, sumM_eq es]; omega
def mkEs : Int → List En → List En
 | _, [] => []
 | k, e :: es => mkE1 k e :: mkEs (k + nmE e) es
theorem mkEs_length : ∀ (k : Int) (es : List En), (mkEs k es).length = es.length
 | _, [] => rfl
 | k, e :: es => by simp [mkEs, mkEs_length]
theorem mkEs_at : ∀ (k : Int) (es : List En) (i : Nat), i < es.length → (mkEs k es).getD i en0 = mkE1 (k + sumM (es.take i)) (es.getD i en0)
 | k, [], i, h => by cases h
 | k, e :: es, 0, _ => by simp [mkEs, sumM]
 | k, e :: es, i + 1, h => by
  have ih := mkEs_at (k + nmE e) es i (by simpa using h)
  rw [mkEs, List.getD_cons_succ, ih, List.take_succ_cons, List.getD_cons_succ]
  simp only [sumM]
  rw [show k + (nmE e : Int) + (sumM (es.take i) : Nat) = k + ((nmE e + sumM (es.take i) : Nat) : Int) by omega]
theorem mkEs_app : ∀ (k : Int) (a b : List En), mkEs k (a ++ b) = mkEs k a ++ mkEs (k + sumM a) b
 | k, [], b => by simp [mkEs, sumM]
 | k, e :: a, b => by
  simp only [List.cons_append, mkEs, mkEs_app]
  rw [show k + (nmE e : Int) + (sumM a : Int) = k + ((sumM (e :: a) : Nat) : Int) by simp only [sumM]; omega]
theorem set_mkEs (k : Int) (es : List En) (i : Nat) (h : i < es.length) : (mkEs k (es.take i) ++ es.drop i).set i (mkE1 (k + sumM (es.take i)) (es.getD i en0)) = mkEs k (es.take (i + 1)) ++ es.drop (i + 1) := by
 rw [List.set_append_right _ _ (by rw [mkEs_length, List.length_take]; omega), mkEs_length, List.length_take, show i - min i es.length = 0 by omega, take_snocE es i h, mkEs_app, List.append_assoc]
 congr 1
 have : es.drop i = es.getD i en0 :: es.drop (i + 1) := by
  rw [List.drop_eq_getElem_cons h]; simp [List.getD, h]
 rw [this, List.set_cons_zero]
 rfl
theorem mkdropE_at (k : Int) (es : List En) (i : Nat) (h : i < es.length) : (mkEs k (es.take i) ++ es.drop i).getD i en0 = es.getD i en0 := by
 rw [getD_app, mkEs_length, List.length_take, if_neg (by omega), show i - min i es.length = 0 by omega]
 rw [List.drop_eq_getElem_cons h]; simp [List.getD, h]
theorem cellsE_set4 : ∀ (es : List En) (xs : List Value) (k : Nat) (e : En), xs.length = es.length → k < es.length → ((((cellsE es xs).set (k * 5) (.int .i64 e.K)).set (k * 5 + 1) (.int .i64 e.N)).set (k * 5 + 2) (.float .f64 e.F)).set (k * 5 + 4) (.int .i64 e.id) = cellsE (es.set k e) xs
 | q :: es, y :: xs, 0, e, _, _ => by simp [cellsE, cellsE1]
 | q :: es, y :: xs, k + 1, e, h, hk => by
  have ih := cellsE_set4 es xs k e (by simpa using h) (by simpa using hk)
  rw [show (k + 1) * 5 = k * 5 + 5 by omega]
  simp only [cellsE, cellsE1, List.cons_append, List.nil_append, List.set_cons_succ, ← ih]
set_option maxHeartbeats 6400000 in
theorem markEntryS {lo hi : Nat} {a : Option Addr} {n : Nat} (c : Nat) {es : List En} {w : World} (k : Int) (h : OwnE w lo hi (.slice a n c) es) (hl : es.length = n) (hn : n ≤ 2097152) (hs : sumE es ≤ 2097152) (hk0 : 0 ≤ k) (hk1 : k ≤ 400000000) :
 Calls Try.prog 35 #[.slice a n c, .int .i64 k] w fun e w' => e = .returned (.int .i64 (k + sumM es)) ∧ OwnE w' lo hi (.slice a n c) (mkEs k es) ∧ Within lo hi w w' := by
 obtain ⟨xs, ow, hB⟩ := h.own
 have HT := hid h.top
 have hxl : xs.length = n := by rw [hB.len, textsE_len, hl]
 have hsb : sumM es ≤ 10485760 := by have := sumM_eq es; omega
 rw [hl] at ow
 have HO := hid ow
 have HBB := hid hB
 clear h ow hB
 go_enter Try.func35, Try.ntmps35
 go_wp2
 go_loopw [1, 5] (fun x i wr => ∃ j : Nat, j ≤ n ∧ i = .int .i64 j ∧ x = .int .i64 (k + sumM (es.take j)) ∧ Hid (wr.ownsRow lo 35 5 (.slice a n c) n (cellsE (mkEs k (es.take j) ++ es.drop j) xs)) ∧ Hid (Bands wr lo hi xs (textsE (mkEs k (es.take j) ++ es.drop j))) ∧ Hid (Within lo hi w wr)) (fun _ i _ => n - (intOf i).toNat)
 case atStart => exact ⟨0, Nat.zero_le _, rfl, by simp [sumM], hid (by simpa [mkEs] using HO.out), hid (by simpa [mkEs] using HBB.out), hid (Within.refl _ _ _)⟩
 case round =>
  clear HO HBB
  obtain ⟨j, hj, rfl, rfl, HO, HB, HW⟩ := hrel
  by_cases hlt : j < n
  · have hlt' : (j : Int) < (n : Int) := by omega
    have hj0 : (0 : Int) ≤ (j : Int) := by omega
    have hpl : (mkEs k (es.take j) ++ es.drop j).length = n := by rw [List.length_append, mkEs_length, List.length_take, List.length_drop]; omega
    have HSet := hid (set_mkEs k es j (by omega))
    have hat := mkdropE_at k es j (by omega)
    have HStep := hid (sumM_step es j (by omega))
    have hz1 := sumM_take es (j + 1)
    have hzE := sumE_at es j (by omega)
    obtain ⟨X, hX⟩ : ∃ X : Int, k + sumM (es.take j) = X := ⟨_, rfl⟩
    have hX0 : 0 ≤ X ∧ X ≤ 420000000 := by have := sumM_take es j; omega
    rw [hX] at HSet ⊢
    have HX := hid hX
    generalize mkEs k (es.take j) ++ es.drop j = qs at *
    have hrow : ∃ g, a = some ⟨g, 0, none⟩ := by
     rcases HO.out.2 with ⟨_, h0⟩ | ⟨g, cap, cur, e, _⟩
     · omega
     · cases e; exact ⟨g, rfl⟩
    obtain ⟨g, rfl⟩ := hrow
    have hL5 : (cellsE qs xs).length = n * 5 := by rw [cellsE_len _ _ (by omega), hpl]
    have hca := fun q (hq : q < 5) => (HO.out.cellAt (j * 5 + q) (by omega)).trans (cellsE_at qs xs j q (by omega) (by omega) hq)
    rw [hat] at hca
    have hr1 := HB.out.own j
    rw [textsE_at, hat] at hr1
    obtain ⟨a1, c1, e1⟩ := own_sl hr1
    rw [e1] at hca
    have hgin : lo ≤ g ∧ g < hi := ⟨(HO.out.lt g rfl).1, HT.out g rfl⟩
    have fz : ∀ q, wr.frozen? ⟨g, q, none⟩ = false := fun q => HO.out.frozenAt q
    generalize es.getD j en0 = e at *
    obtain ⟨K, N, F, Z, id⟩ := e
    simp only [nmE] at HStep hr1 hca e1 HSet
    obtain ⟨zl, hzl⟩ : ∃ zl, Z.length = zl := ⟨_, rfl⟩
    simp only [mkE1, hzl] at HSet
    simp only at hzE
    rw [hzl] at HStep e1 hr1 hzE
    have hzy : zl ≤ 2097152 := by omega
    clear hzE
    have x0 : wr.cell? ⟨g, j * 5, none⟩ = some (.int .i64 K) := hca 0 (by omega)
    have x1 : wr.cell? ⟨g, j * 5 + 1, none⟩ = some (.int .i64 N) := hca 1 (by omega)
    have x2 : wr.cell? ⟨g, j * 5 + 2, none⟩ = some (.float .f64 F) := hca 2 (by omega)
    have x3 : wr.cell? ⟨g, j * 5 + 3, none⟩ = some (.slice a1 zl c1) := by have := hca 3 (by omega); rw [hzl] at this; exact this
    have y0 := fz (j * 5)
    have y1 := fz (j * 5 + 1)
    have y2 := fz (j * 5 + 2)
    have hst := fun w a z m => run_store Try.prog w a (.float .f64 (floatOfInt .f64 z)) m rfl
    have S0 := HO.out.stored (j * 5) (.int .i64 X)
    have S1 := S0.1.stored (j * 5 + 1) (.int .i64 (X + 1))
    have S2 := S1.1.stored (j * 5 + 2) (.float .f64 (floatOfInt .f64 (X + 1 + 1)))
    have B1 := HB.out.beside S0.2 (fun i => owns_ne (HB.out.own i) HO.out (by decide))
    have B2 := B1.beside S1.2 (fun i => owns_ne (B1.own i) S0.1 (by decide))
    have B3 := B2.beside S2.2 (fun i => owns_ne (B2.own i) S1.1 (by decide))
    have V3 := ((HW.out.trans (Within.setCell _ (p := ⟨g, j * 5, none⟩) hgin (.int .i64 X))).trans (Within.setCell _ (p := ⟨g, j * 5 + 1, none⟩) hgin (.int .i64 (X + 1)))).trans (Within.setCell _ (p := ⟨g, j * 5 + 2, none⟩) hgin (.float .f64 (floatOfInt .f64 (X + 1 + 1))))
    have r3 := B3.own j
    rw [textsE_at, hat, e1] at r3
    simp only at r3
    rw [hzl] at r3
    have i3 := B3.inr j
    rw [e1] at i3
    have K3 := hid S2.1
    have BB3 := hid B3
    have R3 := hid r3
    have I3 := hid i3
    have VV3 := hid V3
    have HE1 := hid e1
    have HL5 := hid hL5
    have HCA4 := hid (hca 4 (by omega))
    have HPL := hid hpl
    have HAT := hid hat
    have HGI := hid hgin
    clear S0 S1 S2 B1 B2 B3 V3 r3 i3 hca fz hr1 e1 hL5 HO HB HW hzl hpl hat hX
    go_wp2_with fail
    clear x0 x1 x2 x3 y0 y1 y2
    generalize ((wr.setCell ⟨g, j * 5, none⟩ (.int .i64 X)).setCell ⟨g, j * 5 + 1, none⟩ (.int .i64 (X + 1))).setCell ⟨g, j * 5 + 2, none⟩ (.float .f64 (floatOfInt .f64 (X + 1 + 1))) = W3 at *
    refine (markByteS_any (X + 1 + 1 + 1) (by omega) (by omega) (by omega) R3.out).mono ?_
    rintro e W8 ⟨rfl, o8, g8⟩
    have k8 := K3.out.kept g8 (owns_ne K3.out R3.out (by decide))
    have b8 := BB3.out.put (i := j) (by rw [textsE_len, HPL.out]; omega) (z := marks (X + 1 + 1 + 1) zl) (by rw [HE1.out]; exact g8) (by rw [HE1.out, marks_length]; exact o8) (marks_bd _ _)
    have v8 := VV3.out.trans (Within.grown g8 I3.out)
    obtain ⟨Q, hQ⟩ : ∃ Q : Int, X + 1 + 1 + 1 + (zl : Int) = Q := ⟨_, rfl⟩
    rw [hQ]
    have hQ0 : 0 ≤ Q ∧ Q ≤ 450000000 := by omega
    have x4 : W8.cell? ⟨g, j * 5 + 4, none⟩ = some (.int .i64 id) := by
     have hl5 := HL5.out
     rw [k8.cellAt (j * 5 + 4) (by omega), List.getElem?_set_ne (by omega), List.getElem?_set_ne (by omega), List.getElem?_set_ne (by omega), cellsE_at qs xs j 4 (by have := HPL.out; omega) (by have := HPL.out; omega) (by omega), HAT.out]; rfl
    have y4 := k8.frozenAt (j * 5 + 4)
    have S4 := k8.stored (j * 5 + 4) (.int .i64 Q)
    have B4 := b8.beside S4.2 (fun i => owns_ne (b8.own i) k8 (by decide))
    have V4 := v8.trans (Within.setCell _ (p := ⟨g, j * 5 + 4, none⟩) HGI.out (.int .i64 Q))
    have O4 := S4.1
    have hE : (⟨X, X + 1, flE (X + 2), marks (X + 3) zl, X + 3 + zl⟩ : En) = ⟨X, X + 1, floatOfInt .f64 (X + 1 + 1), marks (X + 1 + 1 + 1) zl, Q⟩ := by
     rw [← hQ, show X + 1 + 1 + 1 = X + 3 by omega, show X + 1 + 1 = X + 2 by omega]; rfl
    rw [cellsE_set4 qs xs j ⟨X, X + 1, floatOfInt .f64 (X + 1 + 1), marks (X + 1 + 1 + 1) zl, Q⟩ (by have := HPL.out; omega) (by have := HPL.out; omega), ← hE, HSet.out] at O4
    have B5 : Bands (W8.setCell ⟨g, j * 5 + 4, none⟩ (.int .i64 Q)) lo hi xs (textsE (mkEs k (es.take (j + 1)) ++ es.drop (j + 1))) := by
     rw [← HSet.out, hE]
     have : textsE (qs.set j ⟨X, X + 1, floatOfInt .f64 (X + 1 + 1), marks (X + 1 + 1 + 1) zl, Q⟩) = (textsE qs).set j (marks (X + 1 + 1 + 1) zl) := by simp [textsE, List.map_set]
     rw [this]; exact B4
    have N1 := hid O4
    have N2 := hid B5
    have N3 := hid V4
    have HQ := hid hQ
    clear k8 b8 v8 o8 g8 S4 B4 B5 V4 O4 hE hQ K3 BB3 R3 I3 VV3
    go_wp2_with fail
    go_roundw
    case rel => exact ⟨j + 1, by omega, by go_num, by rw [show (k + (sumM (es.take (j + 1)) : Int)) = Q + 1 by have := HStep.out; have := HX.out; have := HQ.out; omega], N1, N2, N3⟩
    case measure => simp [intOf]; omega
  · have hlt' : ¬ (j : Int) < (n : Int) := by omega
    have hjn : j = n := by omega
    subst hjn
    go_wp2
    go_ret
    have e0 : mkEs k (es.take j) ++ es.drop j = mkEs k es := by rw [List.take_of_length_le (by omega), List.drop_eq_nil_of_le (by omega), List.append_nil]
    have e1 := HO.out
    have e2 := HB.out
    rw [e0] at e1 e2
    refine ⟨by rw [List.take_of_length_le (by omega)]; rfl, ⟨⟨xs, by rw [mkEs_length, hl]; exact e1, e2⟩, HT.out, fun i => ?_⟩, HW.out⟩
    by_cases hc : i < es.length
    · rw [mkEs_at k es i hc]
      have h1 := sumM_take es i
      exact (flE_ok (z := k + sumM (es.take i) + 2) (by omega) (by omega)).1
    · rw [List.getD_eq_getElem?_getD, List.getElem?_eq_none (by rw [mkEs_length]; omega)]; simp [en0]
set_option maxHeartbeats 3200000 in
theorem heldEntryS {ad : Option Addr} {n : Nat} (cap : Nat) {es : List En} {w : World} (k : Int) (h : ReadsE w ad (mkEs k es)) (hl : es.length = n) (hn : n ≤ 2097152) (hs : sumE es ≤ 2097152) (hk0 : 0 ≤ k) (hk1 : k ≤ 400000000) :
 Calls Try.prog 36 #[.slice ad n cap, .int .i64 k] w fun e w' => e = .returned (.int .i64 (k + sumM es)) ∧ w' = w := by
 have hsb : sumM es ≤ 10485760 := by have := sumM_eq es; omega
 go_enter Try.func36, Try.ntmps36
 go_wp2
 go_loopw [1, 5] (fun x i wr => ∃ j : Nat, j ≤ n ∧ i = .int .i64 j ∧ x = .int .i64 (k + sumM (es.take j)) ∧ wr = w) (fun _ i _ => n - (intOf i).toNat)
 case atStart => exact ⟨0, Nat.zero_le _, rfl, by simp [sumM], rfl⟩
 case round =>
  obtain ⟨j, hj, rfl, rfl, rfl⟩ := hrel
  by_cases hlt : j < n
  · have hlt' : (j : Int) < (n : Int) := by omega
    have hj0 : (0 : Int) ≤ (j : Int) := by omega
    obtain ⟨b, off, a1, c1, rfl, bx, r1, _, _, _⟩ := h.at (k := j) (by rw [mkEs_length]; omega)
    have HStep := hid (sumM_step es j (by omega))
    have hz1 := sumM_take es (j + 1)
    have hzE := sumE_at es j (by omega)
    rw [mkEs_at k es j (by omega)] at bx r1
    obtain ⟨X, hX⟩ : ∃ X : Int, k + sumM (es.take j) = X := ⟨_, rfl⟩
    have hX0 : 0 ≤ X ∧ X ≤ 420000000 := by have := sumM_take es j; omega
    rw [hX] at bx r1 ⊢
    have HX := hid hX
    generalize es.getD j en0 = e at *
    obtain ⟨K, N, F, Z, id⟩ := e
    simp only [nmE] at HStep
    obtain ⟨zl, hzl⟩ : ∃ zl, Z.length = zl := ⟨_, rfl⟩
    simp only [mkE1, marks_length, hzl] at bx r1 HStep hzE
    have hzy : zl ≤ 2097152 := by omega
    clear hzE
    unfold flE at bx
    have o1 := (flE_ok (z := X + 2) (by omega) (by omega)).2
    unfold flE at o1
    obtain ⟨Q, hQ⟩ : ∃ Q : Int, X + 1 + 1 + 1 + (zl : Int) = Q := ⟨_, rfl⟩
    rw [show X + 3 + (zl : Int) = Q by omega, show X + 2 = X + 1 + 1 by omega] at bx
    rw [show X + 2 = X + 1 + 1 by omega] at o1
    rw [show X + 3 = X + 1 + 1 + 1 by omega] at r1
    have HQ := hid hQ
    have hQ0 : 0 ≤ Q ∧ Q ≤ 430000000 := by omega
    have hQn : ¬ Q < 0 := by omega
    have R1 := hid r1
    obtain ⟨x0, x1, x2, x3, x4⟩ := bx
    clear r1 hX hQ hzl
    go_wp2_with fail
    refine (heldByteS_any c1 (X + 1 + 1 + 1) R1.out (by omega) (by omega) (by omega)).mono ?_
    rintro e w1 ⟨rfl, e1⟩
    subst w1
    rw [HQ.out]
    go_wp2_with fail
    go_roundw
    case rel => exact ⟨j + 1, by omega, by go_num, by rw [show (k + (sumM (es.take (j + 1)) : Int)) = Q + 1 by have := HStep.out; have := HX.out; have := HQ.out; omega], by trivial⟩
    case measure => simp [intOf]; omega
  · have hlt' : ¬ (j : Int) < (n : Int) := by omega
    go_wp2
    go_ret
    exact ⟨by rw [List.take_of_length_le (by omega)]; rfl, rfl⟩
end Go.Proofs.Ytphmlndkjgldkaa
