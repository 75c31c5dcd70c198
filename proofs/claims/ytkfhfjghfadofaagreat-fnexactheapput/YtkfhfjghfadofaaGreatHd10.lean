/- The contracts of the laws' szPageS, markPageS, heldPageS, toHeap, szHeap, eqHeap, markHeap, heldHeap. Conditions: heaps of at most 2^21 bytes and slots together. -/
import Derived.Test.YtkfhfjghfadofaaGreatMga
namespace Go.Proofs.YtkfhfjghfadofaaGreat
open Go.RowKit
set_option maxRecDepth 100000
set_option maxHeartbeats 1600000 in
theorem szPageL (L : Int) {a : Option Addr} {n : Nat} (c : Nat) {ss : List (List Int)} {w : World} (h : ReadsS w a ss) (hl : ss.length = n) (hn : n ≤ 9223372036854775807) (left : Int) (h0 : 0 ≤ left) (h1 : left ≤ 1048576) :
 Calls Tryz.prog 126 #[.agg #[.int .i64 L, .slice a n c], .int .i64 left] w fun e w' => e = .returned (.int .i64 (lft left (n + tot ss))) ∧ Below w.heap.size w w' := by
 have hB := Below.alloc1 w (.cells #[.int .i64 L, .slice a n c] 148)
 have H1 := h.below hB (Nat.le_refl _)
 obtain ⟨M, hM⟩ : ∃ M : Int, lft left (n + tot ss) = M := ⟨_, rfl⟩
 have hM0 : M < 0 → M = -1 := by unfold lft at hM; split at hM <;> omega
 have HM := hid hM
 have HM0 := hid hM0
 clear hM hM0
 go_enter Tryz.func126, Tryz.ntmps126
 go_wp2_with fail
 refine (szByteSS c H1 hl hn left h0 h1).mono ?_
 rintro e w1 ⟨rfl, rfl⟩
 rw [HM.out]
 by_cases hq : M < 0
 · go_wp2_with fail
   go_ret
   exact ⟨by rw [HM.out, HM0.out hq]; rfl, hB⟩
 · go_wp2_with fail
   go_ret
   exact ⟨by rw [HM.out]; rfl, hB⟩
set_option maxHeartbeats 1600000 in
theorem szPageS {ad : Option Addr} {n : Nat} (cap : Nat) {ps : List Pg} {w : World} (h : ReadsG w ad ps) (hl : ps.length = n) (hn : n ≤ 9223372036854775807) (left : Int) (h0 : 0 ≤ left) (h1 : left ≤ 1048576) :
 Calls Tryz.prog 81 #[.slice ad n cap, .int .i64 left] w fun e w' => e = .returned (.int .i64 (lft left (n + sumG szP ps))) ∧ Below w.heap.size w w' := by
 have a1 : (0 : Int) ≤ (n : Int) := by omega
 have a2 : (n : Int) ≤ 9223372036854775807 := by omega
 by_cases hbig : left < n
 · have q : left - (n : Int) < 0 := by omega
   have HE := hid (show lft left (n + sumG szP ps) = -1 by unfold lft; rw [if_pos (by omega)])
   go_enter Tryz.func81, Tryz.ntmps81
   go_wp2
   go_ret
   exact ⟨by rw [HE.out]; rfl, Below.refl _ _⟩
 have q : ¬ left - (n : Int) < 0 := by omega
 have hn2 : n ≤ 1048576 := by omega
 obtain ⟨L, hL⟩ : ∃ L : Int, left - n = L := ⟨_, rfl⟩
 have hL0 : 0 ≤ L := by omega
 have hL1 : L ≤ 1048576 := by omega
 have HG := hid (show ∀ t : Nat, lft left (n + t) = lft L t by intro t; unfold lft; by_cases hh : L < t; rw [if_pos (by omega), if_pos hh]; rw [if_neg (by omega), if_neg hh]; omega)
 have HL := hid hL
 go_enter Tryz.func81, Tryz.ntmps81
 go_wp2
 clear hL q
 go_loopw [1, 5] (fun l i wr => ∃ (k : Nat) (x : Int), k ≤ n ∧ i = .int .i64 k ∧ l = .int .i64 x ∧ 0 ≤ x ∧ x ≤ 1048576 ∧ Hid (x = L - sumG szP (ps.take k)) ∧ Hid (Below w.heap.size w wr)) (fun _ i _ => n - (intOf i).toNat)
 case atStart => exact ⟨0, L, Nat.zero_le _, rfl, rfl, hL0, hL1, hid (by simp [sumG]), hid (Below.refl _ _)⟩
 case round =>
  obtain ⟨k, x, hk, rfl, rfl, hx0, hx1, HX, hB⟩ := hrel
  by_cases hlt : k < n
  · have hlt' : (k : Int) < (n : Int) := by omega
    have hk0 : (0 : Int) ≤ (k : Int) := by omega
    obtain ⟨b, off, a, c, rfl, hca, hcx, hr0, hmx⟩ := h.at (k := k) (by omega)
    unfold maxLen at hmx
    have bl := World.block_lt_of_cell? w _ hcx
    replace hcx := (hB.out.cell (p := ⟨b, off + k * 2 + 1, none⟩) bl).trans hcx
    replace hca := (hB.out.cell (p := ⟨b, off + k * 2, none⟩) bl).trans hca
    have hr := hid (hr0.below hB.out (Nat.le_refl _))
    have HT := hid (sumG_step szP ps k (by omega))
    have HU := hid (sumG_take szP ps (k + 1))
    generalize ps.getD k pg0 = p at *
    obtain ⟨A, ss⟩ := p
    simp only [szP] at hca hcx hmx HT hr
    obtain ⟨m, hm⟩ : ∃ m, ss.length = m := ⟨_, rfl⟩
    rw [hm] at hcx hmx HT
    obtain ⟨y, hy⟩ : ∃ y : Int, lft x (m + tot ss) = y := ⟨_, rfl⟩
    have HY := hid hy
    have HM := hid hm
    have hy2 : (x < (m + tot ss : Nat) ∧ y = -1) ∨ (0 ≤ y ∧ y ≤ 1048576 ∧ y = x - (m + tot ss : Nat)) := by
     unfold lft at hy
     by_cases hh : x < (m + tot ss : Nat)
     · rw [if_pos hh] at hy; exact .inl ⟨hh, hy.symm⟩
     · rw [if_neg hh] at hy; exact .inr ⟨by omega, by omega, hy.symm⟩
    have HY2 := hid hy2
    clear hr0 hm hy hy2
    go_wp2_with fail
    refine (szPageL A c hr.out.rd HM.out (by omega) x hx0 hx1).mono ?_
    rintro e w1 ⟨rfl, b1⟩
    rw [HY.out]
    have HB := hid (hB.out.trans (b1.mono hB.out.size))
    clear b1
    rcases HY2.out with ⟨hbm, rfl⟩ | ⟨hy0, hy1, hye⟩
    · go_wp2_with fail
      go_ret
      refine ⟨?_, HB.out⟩
      rw [HG.out]
      unfold lft
      rw [if_pos (by have := HT.out; have := HU.out; have := HX.out; omega)]
      rfl
    · have hy2 : ¬ y < 0 := by omega
      have HYE := hid hye
      clear hye HY2
      go_wp2_with fail
      go_roundw
      case rel => exact ⟨k + 1, y, by omega, by go_num, rfl, hy0, hy1, hid (by have := HT.out; have := HX.out; have := HYE.out; omega), HB⟩
      case measure => simp [intOf]; omega
  · have hlt' : ¬ (k : Int) < (n : Int) := by omega
    go_wp2
    go_ret
    refine ⟨?_, hB.out⟩
    rw [HG.out]
    have := HX.out
    rw [List.take_of_length_le (by omega)] at this
    unfold lft
    rw [if_neg (by omega), this]
    rfl
set_option maxHeartbeats 3200000 in
theorem markPageS {lo hi : Nat} {a : Option Addr} {n : Nat} (c : Nat) {ps : List Pg} {w : World} (k : Int) (h : OwnG w lo hi (.slice a n c) ps) (hh : hi ≤ w.heap.size) (hl : ps.length = n) (hn : n ≤ 2097152) (hs : sumG szP ps ≤ 2097152) (hk0 : 0 ≤ k) (hk1 : k ≤ 400000000) :
 Calls Tryz.prog 87 #[.slice a n c, .int .i64 k] w fun e w' => e = .returned (.int .i64 (k + sumG nmP ps)) ∧ OwnG w' lo hi (.slice a n c) (mkG k ps) ∧ Within lo hi w w' := by
 obtain ⟨ys, bs, o, hB, hq⟩ := h.own
 have HQ := hid hq
 have HT := hid h.top
 have hyl : ys.length = n := by rw [hB.len]; simp [hl]
 have hnm := nm_le ps
 rw [hl] at o hnm
 have HO := hid o
 have HBB := hid hB
 clear h o hB hq
 go_enter Tryz.func87, Tryz.ntmps87
 go_wp2
 go_loopw [1, 5] (fun x i wr => ∃ j : Nat, j ≤ n ∧ i = .int .i64 j ∧ x = .int .i64 (k + sumG nmP (ps.take j)) ∧ Hid (wr.ownsRow lo 87 2 (.slice a n c) n (cellsN (fsts (mkG k (ps.take j) ++ ps.drop j)) ys)) ∧ Hid (BandsP wr lo hi ys ((mkG k (ps.take j) ++ ps.drop j).map (·.2)) bs) ∧ Hid (Within lo hi w wr)) (fun _ i _ => n - (intOf i).toNat)
 case atStart => exact ⟨0, Nat.zero_le _, rfl, by simp [sumG], hid (by simpa [mkG] using HO.out), hid (by simpa [mkG] using HBB.out), hid (Within.refl _ _ _)⟩
 case round =>
  obtain ⟨j, hj, rfl, rfl, HO, HB, HW⟩ := hrel
  by_cases hlt : j < n
  · have hlt' : (j : Int) < (n : Int) := by omega
    have hj0 : (0 : Int) ≤ (j : Int) := by omega
    have hpl : (mkG k (ps.take j) ++ ps.drop j).length = n := by rw [List.length_append, mkG_length, List.length_take, List.length_drop]; omega
    have HSet := hid (set_mkG k ps j (by omega))
    have hat := mkdropG_at k ps j (by omega)
    have HStep := hid (sumG_step nmP ps j (by omega))
    have hz1 := sumG_take nmP ps (j + 1)
    have hz2 := sumG_at szP ps j (by omega)
    obtain ⟨X, hX⟩ : ∃ X : Int, k + sumG nmP (ps.take j) = X := ⟨_, rfl⟩
    have hX0 : 0 ≤ X ∧ X ≤ 410000000 := by have := sumG_take nmP ps j; omega
    rw [hX] at HSet ⊢
    have HX := hid hX
    generalize mkG k (ps.take j) ++ ps.drop j = qs at *
    have hrow : ∃ g, a = some ⟨g, 0, none⟩ := by
     rcases HO.out.2 with ⟨_, h0⟩ | ⟨g, cap, cur, e, _⟩
     · omega
     · cases e; exact ⟨g, rfl⟩
    obtain ⟨g, rfl⟩ := hrow
    have hc := cellsN_at (fsts qs) ys j (by rw [fsts_length]; omega) (by rw [fsts_length]; omega)
    have hlen2 : (cellsN (fsts qs) ys).length = n * 2 := by rw [cellsN_length _ _ (by rw [fsts_length]; omega), fsts_length]; omega
    have hcy := HO.out.cellAt (j * 2) (by omega)
    have hcz := HO.out.cellAt (j * 2 + 1) (by omega)
    rw [hc.1] at hcy
    rw [hc.2] at hcz
    have hfr : wr.frozen? ⟨g, j * 2, none⟩ = false := HO.out.frozenAt (j * 2)
    have R := HO.out.stored (j * 2) (.int .i64 X)
    have hB1 := HB.out.aside HO.out (by decide) (by decide) R.2
    have hown := hB1.own j (by simp; omega)
    rw [snds_at, hat] at hown
    have hB2 := hid hB1
    obtain ⟨a1, c1, e1, _⟩ := hown.slice
    rw [e1] at hown hcz
    have hcz2 : (wr.setCell ⟨g, j * 2, none⟩ (.int .i64 X)).cell? ⟨g, j * 2 + 1, none⟩ = some (.slice a1 (ps.getD j pg0).2.length c1) := by
     rw [R.1.cellAt (j * 2 + 1) (by omega), List.getElem?_set_ne (by omega), hc.2, e1]
    have hres : qs.set j (X, mkS (X + 1) (ps.getD j pg0).2) = mkG k (ps.take (j + 1)) ++ ps.drop (j + 1) := HSet.out
    have HRes := hid hres
    have HSn := hid (snds_at qs j)
    have Rr := hid R
    have HOwn := hid hown
    have HE1 := hid e1
    have HQj := hid (HQ.out j (by omega) g rfl)
    have HInr := hid (HB.out.inr j (by simp; omega))
    have HW1 := hid (HW.out.trans (Within.setCell wr (p := ⟨g, j * 2, none⟩) ⟨(HO.out.lt g rfl).1, HT.out g rfl⟩ (.int .i64 X)))
    have hsz : hi ≤ wr.heap.size := Nat.le_trans hh HW.out.size
    generalize ps.getD j pg0 = p at *
    obtain ⟨A, ss⟩ := p
    simp only [szP, nmP] at hz2 HStep hcz2 hcz HOwn HRes
    obtain ⟨m, hm⟩ : ∃ m, ss.length = m := ⟨_, rfl⟩
    rw [hm] at hz2 hcz2 hcz HOwn
    have HM := hid hm
    clear hc hB1 R hown hres hm e1 hX HSet
    go_wp2_with fail
    obtain ⟨xs, oS, hBS⟩ := HOwn.out.own
    rw [HM.out] at oS
    refine (markByteSS (lo := (bs.getD j (0, 0)).1) (hi := (bs.getD j (0, 0)).2) (ys := []) (ts := []) (e1 := 22) (X + 1) (by decide) HM.out (by have := hBS.len; have := HM.out; omega) (by omega) (by omega) (by omega) (by omega) oS oS (by simpa using hBS)).mono ?_
    rintro e W1 ⟨rfl, oS1, _, hB1, G1⟩
    have hP : OwnP W1 (bs.getD j (0, 0)).1 (bs.getD j (0, 0)).2 (.slice a1 m c1) (mkS (X + 1) ss) := ⟨⟨xs, by rw [mkS_length, HM.out]; exact oS1, by simpa using hB1⟩, HOwn.out.top⟩
    have hBn := hB2.out.put (i := j) (by simp; omega) G1 (by rw [show (wr.setCell ⟨g, j * 2, none⟩ (.int .i64 X)).heap.size = wr.heap.size from set_size _ _ _]; exact hsz) (by rw [HE1.out, HM.out]; exact hP)
    have hOn : W1.ownsRow lo 87 2 (.slice (some ⟨g, 0, none⟩) n c) n (cellsN (fsts (qs.set j (X, mkS (X + 1) ss))) ys) := by
     have e2 : cellsN (fsts (qs.set j (X, mkS (X + 1) ss))) ys = (cellsN (fsts qs) ys).set (j * 2) (.int .i64 X) := by
      rw [fsts_set]
      exact (cellsN_set1 (fsts qs) ys j (X, []) (by rw [fsts_length]; omega) (by rw [fsts_length]; omega)).symm
     rw [e2]
     refine owns_agree (lo := g) (hi := g + 1) Rr.out.1 (fun q h1 h2 => G1.block q ?_ ?_) (fun q hq => ?_)
     · have := (Rr.out.1.lt g rfl).2; omega
     · obtain rfl : q = g := by omega
       have := HQj.out; omega
     · have : q = g := by simpa [Value.ownBlock] using hq.symm
       omega
    have HBn := hid (show BandsP W1 lo hi ys ((mkG k (ps.take (j + 1)) ++ ps.drop (j + 1)).map (·.2)) bs by rw [← HRes.out, List.map_set]; exact hBn)
    have HOn := hid (show W1.ownsRow lo 87 2 (.slice (some ⟨g, 0, none⟩) n c) n (cellsN (fsts (mkG k (ps.take (j + 1)) ++ ps.drop (j + 1))) ys) by rw [← HRes.out]; exact hOn)
    have HWn := hid (HW1.out.trans (show Within lo hi _ W1 from ⟨G1.os, G1.tape, G1.output, G1.size, fun q hq1 hq2 => G1.block q hq1 (by have := HInr.out; omega)⟩))
    clear hP hBn hOn oS1 hB1 G1 oS hBS
    go_wp2_with fail
    go_roundw
    case rel => exact ⟨j + 1, by omega, by go_num, by rw [show (k + (sumG nmP (ps.take (j + 1)) : Int)) = X + 1 + tot ss by have := HStep.out; have := HX.out; omega], HOn, HBn, HWn⟩
    case measure => simp [intOf]; omega
  · have hlt' : ¬ (j : Int) < (n : Int) := by omega
    have hjn : j = n := by omega
    subst hjn
    go_wp2
    go_ret
    have e0 : mkG k (ps.take j) ++ ps.drop j = mkG k ps := by rw [List.take_of_length_le (by omega), List.drop_eq_nil_of_le (by omega), List.append_nil]
    have e1 := HO.out
    have e2 := HB.out
    rw [e0] at e1 e2
    refine ⟨by rw [List.take_of_length_le (by omega)]; rfl, ⟨⟨ys, bs, by rw [mkG_length, hl]; exact e1, e2, fun i hi g hg => HQ.out i (by rw [mkG_length] at hi; exact hi) g hg⟩, HT.out⟩, HW.out⟩
set_option maxHeartbeats 1600000 in
theorem heldPageS {ad : Option Addr} {n : Nat} (cap : Nat) {ps : List Pg} {w : World} (k : Int) (h : ReadsG w ad (mkG k ps)) (hl : ps.length = n) (hn : n ≤ 2097152) (hs : sumG szP ps ≤ 2097152) (hk0 : 0 ≤ k) (hk1 : k ≤ 400000000) :
 Calls Tryz.prog 89 #[.slice ad n cap, .int .i64 k] w fun e w' => e = .returned (.int .i64 (k + sumG nmP ps)) ∧ w' = w := by
 have hnm := nm_le ps
 rw [hl] at hnm
 go_enter Tryz.func89, Tryz.ntmps89
 go_wp2
 go_loopw [1, 5] (fun x i wr => ∃ j : Nat, j ≤ n ∧ i = .int .i64 j ∧ x = .int .i64 (k + sumG nmP (ps.take j)) ∧ wr = w) (fun _ i _ => n - (intOf i).toNat)
 case atStart => exact ⟨0, Nat.zero_le _, rfl, by simp [sumG], rfl⟩
 case round =>
  obtain ⟨j, hj, rfl, rfl, rfl⟩ := hrel
  by_cases hlt : j < n
  · have hlt' : (j : Int) < (n : Int) := by omega
    have hj0 : (0 : Int) ≤ (j : Int) := by omega
    obtain ⟨b, off, a, c, rfl, hca, hcx, hr, hmx⟩ := h.at (k := j) (by rw [mkG_length]; omega)
    have HStep := hid (sumG_step nmP ps j (by omega))
    have hz1 := sumG_take nmP ps (j + 1)
    have hz2 := sumG_at szP ps j (by omega)
    rw [mkG_at k ps j (by omega)] at hca hcx hr
    obtain ⟨X, hX⟩ : ∃ X : Int, k + sumG nmP (ps.take j) = X := ⟨_, rfl⟩
    have hX0 : 0 ≤ X ∧ X ≤ 410000000 := by have := sumG_take nmP ps j; omega
    rw [hX] at hca hcx hr ⊢
    have HX := hid hX
    simp only [mkS_length] at hcx
    generalize ps.getD j pg0 = p at *
    obtain ⟨A, ss⟩ := p
    simp only [szP, nmP] at hz2 HStep hcx hr
    obtain ⟨m, hm⟩ : ∃ m, ss.length = m := ⟨_, rfl⟩
    rw [hm] at hz2 hcx
    have HM := hid hm
    have HR := hid hr
    have q1 : (X != X) = false := by simp
    obtain ⟨Y, hY⟩ : ∃ Y : Int, X + 1 + tot ss = Y := ⟨_, rfl⟩
    have q2 : ¬ Y < 0 := by omega
    have HY := hid hY
    clear hm hX hr hY
    go_wp2_with fail
    refine (heldByteSS c (X + 1) HR.out.rd HM.out (by omega) (by omega) (by omega) (by omega)).mono ?_
    rintro e w1 ⟨rfl, e1⟩
    subst w1
    rw [HY.out]
    go_wp2_with fail
    go_roundw
    case rel => exact ⟨j + 1, by omega, by go_num, by rw [show (k + (sumG nmP (ps.take (j + 1)) : Int)) = Y by have := HStep.out; have := HX.out; have := HY.out; omega], by trivial⟩
    case measure => simp [intOf]; omega
  · have hlt' : ¬ (j : Int) < (n : Int) := by omega
    go_wp2
    go_ret
    exact ⟨by rw [List.take_of_length_le (by omega)]; rfl, rfl⟩
end Go.Proofs.YtkfhfjghfadofaaGreat
