/- The contracts of the laws' toItemS, szItemS, eqItemS, toPairS, szPairS, eqPairS. Conditions: items of at most 2^21 bytes together. -/
import Derived.Test.YtoppccfgcccijaaDoorEc13
import Derived.Test.YtoppccfgcccijaaDoorRa18
import Derived.Test.YtoppccfgcccijaaDoorNm9
namespace Go.Proofs.YtoppccfgcccijaaDoor
open Go.RowKit
set_option maxRecDepth 100000

set_option maxHeartbeats 6400000 in
theorem toPairS {ad : Option Addr} {n : Nat} (cap : Nat) {es : List Im} {w : World} (h : ReadsM w ad es) (hl : es.length = n * 2) (hn : n ≤ 2097152) (hs : sumI es ≤ 2097152) :
    Calls Tryd.prog 44 #[.slice ad n cap] w fun e w' => e = .returned (.slice (some ⟨w.heap.size, 0, none⟩) n n) ∧ OwnM 69 8 w' w.heap.size w'.heap.size (.slice (some ⟨w.heap.size, 0, none⟩) n n) n es ∧ Below w.heap.size w w' := by
  obtain ⟨i0, hi, hz0, hz1, hz2⟩ := info_parts Tryd.infoPr18
  have HFL := hid (fun i => h.fl i)
  go_enter Tryd.func44, Tryd.ntmps44
  go_wp2_with (at_make; refine wpList_make_full _ rfl _ _ 44 rfl w.heap.size 69 i0 (.agg #[.int .i64 0, .int .i64 0, .float .f64 0, .slice none 0 0, .int .i64 0, .int .i64 0, .float .f64 0, .slice none 0 0]) 8 Tryd.underlying44 hi hz0 hz1 _ _ _ _ n rfl rfl (by omega) (by omega) ?b2 ?b3 (Nat.le_refl _) ?_)
  case b2 => rw [hz2]; omega
  case b3 => unfold maxLen; omega
  intro sn0' hown0 hgrow0
  go_wp2
  go_loopw [4] (fun i wr => ∃ (k : Nat) (xs : List Value), k ≤ n ∧ i = .int .i64 k ∧ xs.length = (k * 2) ∧ Hid (wr.ownsRow w.heap.size 69 8 (.slice (some ⟨w.heap.size, 0, none⟩) n n) n (cellsI (es.take (k * 2) ++ List.replicate ((n - k) * 2) im0) (xs ++ List.replicate ((n - k) * 2) nilS))) ∧ Hid (Bands wr w.heap.size wr.heap.size xs (textsI (es.take (k * 2)))) ∧ Hid (Below w.heap.size w wr))
    (fun i _ => n - (intOf i).toNat)
  case atStart =>
    refine ⟨0, [], Nat.zero_le _, rfl, rfl, hid ?_, hid (by simpa [textsI] using Bands.nil _ _ _), hid ((Below.refl _ _).grown hgrow0 (Nat.le_refl _) (fun k h => by cases h))⟩
    rw [made8n, ← nilS, ← zeroIm] at hown0
    simpa using hown0
  case round =>
    obtain ⟨k, xs, hk, rfl, hx, hown, hB, hnx⟩ := hrel
    by_cases hlt : k < n
    · have hlt' : (k : Int) < (n : Int) := by omega
      obtain ⟨b, off, a, c, rfl, bx0, r0, _, _, _⟩ := h.at (k := k * 2) (by omega)
      obtain ⟨b', off', a2, c2, e', bx1, r1, _, _, _⟩ := h.at (k := k * 2 + 1) (by omega)
      obtain ⟨rfl, rfl⟩ : b = b' ∧ off = off' := by simpa using e'
      have bx := bx0.below hnx.out (Nat.le_refl _)
      have by' := bx1.below hnx.out (Nat.le_refl _)
      have hr := hid (r0.below hnx.out (Nat.le_refl _))
      have hr2 := hid (r1.below hnx.out (Nat.le_refl _))
      have hlen := sumI_at es (k * 2) (by omega)
      have hlen2 := sumI_at es (k * 2 + 1) (by omega)
      have HT := hid (take_snocI2 es k (by omega))
      have HBD := hid r0.bd
      have HBD2 := hid r1.bd
      generalize es.getD (k * 2) im0 = e at *
      generalize es.getD (k * 2 + 1) im0 = e2 at *
      obtain ⟨K, N, F, Z⟩ := e
      obtain ⟨K2, N2, F2, Z2⟩ := e2
      obtain ⟨m, hm⟩ : ∃ m, Z.length = m := ⟨_, rfl⟩
      obtain ⟨m2, hm2⟩ : ∃ m2, Z2.length = m2 := ⟨_, rfl⟩
      simp only at bx by' hlen hlen2 hr hr2 HBD HBD2
      rw [hm] at bx hlen hr
      rw [hm2] at by' hlen2 hr2
      have hmm : m ≤ 2097152 := by omega
      have hmm2 : m2 ≤ 2097152 := by omega
      have HM := hid hm
      have HM2 := hid hm2
      have hst := fun w a m => run_store Tryd.prog w a (.float .f64 F) m rfl
      have hst2 := fun w a m => run_store Tryd.prog w a (.float .f64 F2) m rfl
      obtain ⟨c0, c1, c20, c3⟩ := bx
      obtain ⟨c4, c5, c6, c7⟩ := by'
      rw [show off + k * 2 * 4 = off + k * 8 by omega] at c0 c1 c20 c3
      rw [show off + (k * 2 + 1) * 4 = off + k * 8 + 4 by omega] at c4 c5 c6 c7
      clear bx0 r0 bx1 r1 hm hm2 hown0 hgrow0 hlen hlen2 e'
      go_wp2_with fail
      clear c0 c1 c20 c3 c4 c5 c6 c7
      refine (toPair K N F c K2 N2 F2 c2 hr.out hr2.out (by omega) (by omega)).mono ?_
      rintro e w1 ⟨g, g2, mid, rfl, o1, o2, hgm, hm1, hm2, b1⟩
      have hown1 := owns_below b1 (by have := hnx.out.size; omega) hown.out
      have hxl : (xs ++ List.replicate ((n - k) * 2) nilS).length = (es.take (k * 2) ++ List.replicate ((n - k) * 2) im0).length := by simp; omega
      have hel : (es.take (k * 2) ++ List.replicate ((n - k) * 2) im0).length = (n * 2) := by simp; omega
      have hzl : (cellsI (es.take (k * 2) ++ List.replicate ((n - k) * 2) im0) (xs ++ List.replicate ((n - k) * 2) nilS)).length = n * 8 := by
        rw [cellsI_len _ _ hxl, hel]; omega
      have hcc : ∀ q, q < 8 → ∃ v, w1.cell? ⟨w.heap.size, k * 8 + q, none⟩ = some v := fun q hq => by
        rw [hown1.cellAt (k * 8 + q) (by omega)]
        exact ⟨_, List.getElem?_eq_getElem (by omega)⟩
      obtain ⟨v0, d0⟩ := hcc 0 (by omega)
      obtain ⟨v1, d1⟩ := hcc 1 (by omega)
      obtain ⟨v2, d2⟩ := hcc 2 (by omega)
      obtain ⟨v3, d3⟩ := hcc 3 (by omega)
      obtain ⟨v4, d4⟩ := hcc 4 (by omega)
      obtain ⟨v5, d5⟩ := hcc 5 (by omega)
      obtain ⟨v6, d6⟩ := hcc 6 (by omega)
      obtain ⟨v7, d7⟩ := hcc 7 (by omega)
      simp only [Nat.add_zero] at d0
      have fz : ∀ q, w1.frozen? ⟨w.heap.size, q, none⟩ = false := fun q => hown1.frozenAt q
      have f0 := fz (k * 8)
      have f1 := fz (k * 8 + 1)
      have f2 := fz (k * 8 + 2)
      have f3 := fz (k * 8 + 3)
      have f4 := fz (k * 8 + 4)
      have f5 := fz (k * 8 + 5)
      have f6 := fz (k * 8 + 6)
      have f7 := fz (k * 8 + 7)
      have S0 := hown1.stored (k * 8) (.int .i64 K)
      have S1 := S0.1.stored (k * 8 + 1) (.int .i64 N)
      have S2 := S1.1.stored (k * 8 + 2) (.float .f64 F)
      have S3 := S2.1.stored (k * 8 + 3) (.slice (some ⟨g, 0, none⟩) m m)
      have S4 := S3.1.stored (k * 8 + 4) (.int .i64 K2)
      have S5 := S4.1.stored (k * 8 + 5) (.int .i64 N2)
      have S6 := S5.1.stored (k * 8 + 6) (.float .f64 F2)
      have S7 := S6.1.stored (k * 8 + 7) (.slice (some ⟨g2, 0, none⟩) m2 m2)
      have og := o1.lt g rfl
      have hB0 : Bands w1 w.heap.size mid (xs ++ [.slice (some ⟨g, 0, none⟩) m m]) (textsI (es.take (k * 2)) ++ [Z]) := (hB.out.agree (Agree.below b1 (Nat.le_refl _))).append (Bands.one_top (by rw [HM.out]; exact o1) HBD.out (by intro q hq; simp [Value.ownBlock] at hq; omega)) (by have := hnx.out.size; omega) hm1
      have hB1 : Bands w1 w.heap.size w1.heap.size ((xs ++ [.slice (some ⟨g, 0, none⟩) m m]) ++ [.slice (some ⟨g2, 0, none⟩) m2 m2]) ((textsI (es.take (k * 2)) ++ [Z]) ++ [Z2]) := hB0.snoc (by have := hnx.out.size; omega) hm2 (by rw [HM2.out]; exact o2) HBD2.out (Nat.le_refl _)
      have B1 := hB1.beside S0.2 (fun i => owns_ne (hB1.own i) hown1 (by decide))
      have B2 := B1.beside S1.2 (fun i => owns_ne (B1.own i) S0.1 (by decide))
      have B3 := B2.beside S2.2 (fun i => owns_ne (B2.own i) S1.1 (by decide))
      have B4 := B3.beside S3.2 (fun i => owns_ne (B3.own i) S2.1 (by decide))
      have B5 := B4.beside S4.2 (fun i => owns_ne (B4.own i) S3.1 (by decide))
      have B6 := B5.beside S5.2 (fun i => owns_ne (B5.own i) S4.1 (by decide))
      have B7 := B6.beside S6.2 (fun i => owns_ne (B6.own i) S5.1 (by decide))
      have B8 := B7.beside S7.2 (fun i => owns_ne (B7.own i) S6.1 (by decide))
      have V9 := (((((((((hnx.out.trans (b1.mono hnx.out.size)).setCell (p := ⟨w.heap.size, k * 8, none⟩) (Nat.le_refl _) (.int .i64 K)).setCell (p := ⟨w.heap.size, k * 8 + 1, none⟩) (Nat.le_refl _) (.int .i64 N)).setCell (p := ⟨w.heap.size, k * 8 + 2, none⟩) (Nat.le_refl _) (.float .f64 F)).setCell (p := ⟨w.heap.size, k * 8 + 3, none⟩) (Nat.le_refl _) (.slice (some ⟨g, 0, none⟩) m m)).setCell (p := ⟨w.heap.size, k * 8 + 4, none⟩) (Nat.le_refl _) (.int .i64 K2)).setCell (p := ⟨w.heap.size, k * 8 + 5, none⟩) (Nat.le_refl _) (.int .i64 N2)).setCell (p := ⟨w.heap.size, k * 8 + 6, none⟩) (Nat.le_refl _) (.float .f64 F2)).setCell (p := ⟨w.heap.size, k * 8 + 7, none⟩) (Nat.le_refl _) (.slice (some ⟨g2, 0, none⟩) m2 m2))
      have O9 := S7.1
      rw [cellsI_set8 _ _ k ⟨K, N, F, Z⟩ ⟨K2, N2, F2, Z2⟩ _ _ hxl (by rw [hel]; omega), set_rep13 _ k n im0 _ _ (by simp; omega) hlt, set_rep13 xs k n nilS _ _ hx hlt, ← HT.out] at O9
      have HO := hid O9
      have HBB := hid B8
      have HV := hid V9
      clear S0 S1 S2 S3 S4 S5 S6 S7 og hB0 hB1 B1 B2 B3 B4 B5 B6 B7 B8 V9 O9 hown1 o1 o2 hgm hm1 hm2 b1 hzl hcc fz hxl hel
      go_wp2_with fail
      go_roundw
      case rel => exact ⟨k + 1, xs ++ [.slice (some ⟨g, 0, none⟩) m m, .slice (some ⟨g2, 0, none⟩) m2 m2], by omega, by go_num, by simp [hx]; omega, HO, hid (by rw [HT.out, textsI_app]; simpa [textsI] using HBB.out), HV⟩
      case measure => simp [intOf]; omega
    · go_wp2
      go_ret
      have hkn : k = n := by omega
      subst hkn
      refine ⟨rfl, ⟨⟨xs, ?_, ?_⟩, (fun g hg => (hown.out.lt g hg).2), HFL.out, by omega⟩, hnx.out⟩
      · have := hown.out
        rw [List.take_of_length_le (by omega)] at this
        simpa using this
      · have := hB.out
        rw [List.take_of_length_le (by omega)] at this
        exact this

set_option maxHeartbeats 1600000 in
theorem szPairS {ad : Option Addr} {n : Nat} (cap : Nat) {es : List Im} {w : World} (h : ReadsM w ad es) (hl : es.length = n * 2) (hn : n ≤ 9223372036854775807) (left : Int) (h0 : 0 ≤ left) (h1 : left ≤ 1048576) :
    Calls Tryd.prog 40 #[.slice ad n cap, .int .i64 left] w fun e w' => e = .returned (.int .i64 (lft13 left (n + sumI es))) ∧ Below w.heap.size w w' := by
  have a1 : (0 : Int) ≤ (n : Int) := by omega
  have a2 : (n : Int) ≤ 9223372036854775807 := by omega
  by_cases hbig : left < n
  · have q : left - (n : Int) < 0 := by omega
    have HE := hid (show lft13 left (n + sumI es) = -1 by unfold lft13; rw [if_pos (by omega)])
    go_enter Tryd.func40, Tryd.ntmps40
    go_wp2
    go_ret
    exact ⟨by rw [HE.out]; rfl, Below.refl _ _⟩
  have q : ¬ left - (n : Int) < 0 := by omega
  have hn2 : n ≤ 1048576 := by omega
  obtain ⟨L, hL⟩ : ∃ L : Int, left - n = L := ⟨_, rfl⟩
  have hL0 : 0 ≤ L := by omega
  have hL1 : L ≤ 1048576 := by omega
  have HG := hid (show ∀ t : Nat, lft13 left (n + t) = lft13 L t by intro t; unfold lft13; by_cases hh : L < t; rw [if_pos (by omega), if_pos hh]; rw [if_neg (by omega), if_neg hh]; omega)
  have HL := hid hL
  go_enter Tryd.func40, Tryd.ntmps40
  go_wp2
  clear hL q
  go_loopw [1, 5] (fun l i wr => ∃ (k : Nat) (x : Int), k ≤ n ∧ i = .int .i64 k ∧ l = .int .i64 x ∧ 0 ≤ x ∧ x ≤ 1048576 ∧ Hid (x = L - sumI (es.take (k * 2))) ∧ Hid (Below w.heap.size w wr)) (fun _ i _ => n - (intOf i).toNat)
  case atStart => exact ⟨0, L, Nat.zero_le _, rfl, rfl, hL0, hL1, hid (by simp [sumI]), hid (Below.refl _ _)⟩
  case round =>
    obtain ⟨k, x, hk, rfl, rfl, hx0, hx1, HX, hB⟩ := hrel
    by_cases hlt : k < n
    · have hlt' : (k : Int) < (n : Int) := by omega
      have hk0 : (0 : Int) ≤ (k : Int) := by omega
      obtain ⟨b, off, a, c, rfl, bx0, r0, _, hmx, _⟩ := h.at (k := k * 2) (by omega)
      obtain ⟨b', off', a2, c2, e', bx1, r1, _, hmx2, _⟩ := h.at (k := k * 2 + 1) (by omega)
      obtain ⟨rfl, rfl⟩ : b = b' ∧ off = off' := by simpa using e'
      unfold maxLen at hmx hmx2
      have bx := bx0.below hB.out (Nat.le_refl _)
      have by' := bx1.below hB.out (Nat.le_refl _)
      have HT := hid (sumI_step2 es k (by omega))
      have HU := hid (sumI_take es ((k + 1) * 2))
      generalize es.getD (k * 2) im0 = e at *
      generalize es.getD (k * 2 + 1) im0 = e2 at *
      obtain ⟨K, N, F, Z⟩ := e
      obtain ⟨K2, N2, F2, Z2⟩ := e2
      simp only at bx by' hmx hmx2 HT
      obtain ⟨m, hm⟩ : ∃ m, Z.length = m := ⟨_, rfl⟩
      obtain ⟨m2, hm2⟩ : ∃ m2, Z2.length = m2 := ⟨_, rfl⟩
      rw [hm] at bx hmx HT
      rw [hm2] at by' hmx2 HT
      have hst := fun w a m => run_store Tryd.prog w a (.float .f64 F) m rfl
      have hst2 := fun w a m => run_store Tryd.prog w a (.float .f64 F2) m rfl
      obtain ⟨c0, c1, c20, c3⟩ := bx
      obtain ⟨c4, c5, c6, c7⟩ := by'
      rw [show off + k * 2 * 4 = off + k * 8 by omega] at c0 c1 c20 c3
      rw [show off + (k * 2 + 1) * 4 = off + k * 8 + 4 by omega] at c4 c5 c6 c7
      clear r0 r1 hm hm2 bx0 bx1 e'
      obtain ⟨M, hM⟩ : ∃ M : Nat, (m + m2) = M := ⟨_, rfl⟩
      obtain ⟨y, hy⟩ : ∃ y : Int, lft13 x (m + m2) = y := ⟨_, rfl⟩
      have HY := hid hy
      have HM := hid hM
      have hy2 : (x < (M : Nat) ∧ y = -1) ∨ (0 ≤ y ∧ y ≤ 1048576 ∧ y = x - (M : Nat)) := by
        unfold lft13 at hy
        by_cases hh : x < ((m + m2 : Nat) : Int)
        · rw [if_pos hh] at hy; exact .inl ⟨by omega, hy.symm⟩
        · rw [if_neg hh] at hy; exact .inr ⟨by omega, by omega, by omega⟩
      have HY2 := hid hy2
      clear hy hy2 hM
      go_wp2_with fail
      clear c0 c1 c20 c3 c4 c5 c6 c7
      refine (szPair K N F a m c K2 N2 F2 a2 m2 c2 x (by omega) (by omega) hx0 hx1 wr).mono ?_
      rintro e w1 ⟨rfl, b1⟩
      rw [HY.out]
      have HB := hid (hB.out.trans (b1.mono hB.out.size))
      clear b1
      rcases HY2.out with ⟨hbm, rfl⟩ | ⟨hy0, hy1, hye⟩
      · go_wp2_with fail
        go_ret
        refine ⟨?_, HB.out⟩
        rw [HG.out]
        unfold lft13
        rw [if_pos (by have := HT.out; have := HU.out; have := HX.out; have := HM.out; omega)]
        rfl
      · have hy2 : ¬ y < 0 := by omega
        have HYE := hid hye
        clear hye HY2
        go_wp2_with fail
        go_roundw
        case rel => exact ⟨k + 1, y, by omega, by go_num, rfl, hy0, hy1, hid (by have := HT.out; have := HX.out; have := HYE.out; have := HM.out; omega), HB⟩
        case measure => simp [intOf]; omega
    · have hlt' : ¬ (k : Int) < (n : Int) := by omega
      go_wp2
      go_ret
      refine ⟨?_, hB.out⟩
      rw [HG.out]
      have := HX.out
      rw [List.take_of_length_le (by omega)] at this
      unfold lft13
      rw [if_neg (by omega), this]
      rfl

set_option maxHeartbeats 6400000 in
theorem eqPairS {ad ad' : Option Addr} {n : Nat} (cap cap' : Nat) {es fs : List Im} {w : World} (h : ReadsM w ad es) (h' : ReadsM w ad' fs) (hSm : SameM es fs) (hl : es.length = n * 2) (hn : n ≤ 2097152) (hs : sumI es ≤ 2097152) :
    Calls Tryd.prog 50 #[.slice ad n cap, .slice ad' n cap'] w fun e w' => e = .returned (.bool true) ∧ Below w.heap.size w w' := by
  have hlf := hSm.1
  go_enter Tryd.func50, Tryd.ntmps50
  go_wp2
  go_loopw [5] (fun i wr => ∃ k : Nat, k ≤ n ∧ i = .int .i64 k ∧ Hid (Below w.heap.size w wr)) (fun i _ => n - (intOf i).toNat)
  case atStart => exact ⟨0, Nat.zero_le _, rfl, hid (Below.refl _ _)⟩
  case round =>
    obtain ⟨k, hk, rfl, hS⟩ := hrel
    by_cases hlt : k < n
    · have hlt' : (k : Int) < (n : Int) := by omega
      have hk0 : (0 : Int) ≤ (k : Int) := by omega
      obtain ⟨b, off, a1, c1, rfl, bx, r1, _, _, hf⟩ := h.at (k := k * 2) (by omega)
      obtain ⟨b', off', a1', c1', rfl, bx', r1', _, _, hf'⟩ := h'.at (k := k * 2) (by omega)
      have hlen := sumI_at es (k * 2) (by omega)
      have hsm := hSm.2 (k * 2)
      obtain ⟨bq, oq, a2, c2, eq1, bz, r2, _, _, hg⟩ := h.at (k := k * 2 + 1) (by omega)
      obtain ⟨bq', oq', a2', c2', eq2, bz', r2', _, _, hg'⟩ := h'.at (k := k * 2 + 1) (by omega)
      obtain ⟨rfl, rfl⟩ : b = bq ∧ off = oq := by simpa using eq1
      obtain ⟨rfl, rfl⟩ : b' = bq' ∧ off' = oq' := by simpa using eq2
      have hlen2 := sumI_at es (k * 2 + 1) (by omega)
      have hsm2 := hSm.2 (k * 2 + 1)
      generalize es.getD (k * 2 + 1) im0 = e2 at *
      generalize fs.getD (k * 2 + 1) im0 = e3 at *
      obtain ⟨K2, N2, F2, Z2⟩ := e2
      obtain ⟨K3, N3, F2', Z3⟩ := e3
      obtain ⟨e21, e22, hsf2, e24⟩ := hsm2
      simp only at e21 e22 hsf2 e24
      subst e21 e22 e24
      simp only at bz bz' r2 r2' hlen2 hg hg'
      obtain ⟨zl2, hzl2⟩ : ∃ zl, Z2.length = zl := ⟨_, rfl⟩
      rw [hzl2] at bz bz' r2 r2' hlen2
      generalize es.getD (k * 2) im0 = e at *
      generalize fs.getD (k * 2) im0 = e1 at *
      obtain ⟨K, N, F, Z⟩ := e
      obtain ⟨K1, N1, F', Z1⟩ := e1
      obtain ⟨e11, e12, hsf, e14⟩ := hsm
      simp only at e11 e12 hsf e14
      subst e11 e12 e14
      simp only at bx bx' r1 r1' hlen hf hf'
      obtain ⟨zl, hzl⟩ : ∃ zl, Z.length = zl := ⟨_, rfl⟩
      rw [hzl] at bx bx' r1 r1' hlen
      have bD := (Still.drew wr).below wr.heap.size
      have hz2 : zl ≤ 2097152 := by omega
      have hz3 : zl2 ≤ 2097152 := by omega
      rw [show off + k * 2 * 4 = off + k * 8 by omega] at bx
      rw [show off' + k * 2 * 4 = off' + k * 8 by omega] at bx'
      rw [show off + (k * 2 + 1) * 4 = off + k * 8 + 4 by omega] at bz
      rw [show off' + (k * 2 + 1) * 4 = off' + k * 8 + 4 by omega] at bz'
      have BX2 := hid ((bz.below hS.out (Nat.le_refl _)).below bD (Nat.le_refl _))
      have BY2 := hid ((bz'.below hS.out (Nat.le_refl _)).below bD (Nat.le_refl _))
      have R2 := hid ((r2.below hS.out (Nat.le_refl _)).below bD (Nat.le_refl _))
      have R4 := hid ((r2'.below hS.out (Nat.le_refl _)).below bD (Nat.le_refl _))
      have HG := hid hg
      have HG' := hid hg'
      have HSm2 := hid hsf2
      clear bz bz' r2 r2' hlen2 hzl2 hg hg' hsf2 eq1 eq2
      have BX := hid ((bx.below hS.out (Nat.le_refl _)).below bD (Nat.le_refl _))
      have BY := hid ((bx'.below hS.out (Nat.le_refl _)).below bD (Nat.le_refl _))
      have R1 := hid ((r1.below hS.out (Nat.le_refl _)).below bD (Nat.le_refl _))
      have R3 := hid ((r1'.below hS.out (Nat.le_refl _)).below bD (Nat.le_refl _))
      have HF := hid hf
      have HF' := hid hf'
      have HSm := hid hsf
      clear bx bx' r1 r1' hlen hzl hf hf' hsf
      go_wp2
      replace hS := hid (hS.out.trans (bD.mono hS.out.size))
      clear bD
      refine region_K 99 (fun W => (Box4 W b (off + k * 8) K N F (.slice a1 zl c1) ∧ Box4 W b (off + k * 8 + 4) K2 N2 F2 (.slice a2 zl2 c2)) ∧ (Box4 W b' (off' + k * 8) K N F' (.slice a1' zl c1') ∧ Box4 W b' (off' + k * 8 + 4) K2 N2 F2' (.slice a2' zl2 c2'))) (by kernel_rfl) ?_ (fun hHeld => ?_)
      · exact ⟨⟨BX.out, BX2.out⟩, ⟨BY.out, BY2.out⟩⟩
      generalize wr.drew = v0 at *
      refine anyK_take2 (i := 0) (v := ?v0) rfl (by kernel_rfl) (by kernel_rfl) (by kernel_rfl) (by rfl) (fun _ _ _ h => h) (by rfl) hHeld ?hy0 (some 17) (by rfl) ?rest0
      case hy0 => (intro W hSw; obtain ⟨⟨⟨x0, x1, x2, x3⟩, ⟨x4, x5, x6, x7⟩⟩, ⟨⟨y0, y1, y2, y3⟩, ⟨y4, y5, y6, y7⟩⟩⟩ := hSw; go_simp; (try with_reducible rfl))
      try simp only [Act.put, List.setIfInBounds_toArray, List.set_cons_succ, List.set_cons_zero]
      refine anyK_take2 (i := 1) (v := ?v1) rfl (by kernel_rfl) (by kernel_rfl) (by kernel_rfl) (by rfl) (fun _ _ _ h => h) (by rfl) hHeld ?hy1 (some 18) (by rfl) ?rest1
      case hy1 => (intro W hSw; obtain ⟨⟨⟨x0, x1, x2, x3⟩, ⟨x4, x5, x6, x7⟩⟩, ⟨⟨y0, y1, y2, y3⟩, ⟨y4, y5, y6, y7⟩⟩⟩ := hSw; go_simp; (try with_reducible rfl))
      try simp only [Act.put, List.setIfInBounds_toArray, List.set_cons_succ, List.set_cons_zero]
      refine anyK_take2 (i := 2) (v := ?v2) rfl (by kernel_rfl) (by kernel_rfl) (by kernel_rfl) (by rfl) (fun _ _ _ h => h) (by rfl) hHeld ?hy2 (some 19) (by rfl) ?rest2
      case hy2 => (intro W hSw; obtain ⟨⟨⟨x0, x1, x2, x3⟩, ⟨x4, x5, x6, x7⟩⟩, ⟨⟨y0, y1, y2, y3⟩, ⟨y4, y5, y6, y7⟩⟩⟩ := hSw; go_simp; (try with_reducible rfl))
      try simp only [Act.put, List.setIfInBounds_toArray, List.set_cons_succ, List.set_cons_zero]
      refine anyK_take2 (i := 3) (v := ?v3) rfl (by kernel_rfl) (by kernel_rfl) (by kernel_rfl) (by rfl) (fun _ _ _ h => h) (by rfl) hHeld ?hy3 (some 20) (by rfl) ?rest3
      case hy3 => (intro W hSw; obtain ⟨⟨⟨x0, x1, x2, x3⟩, ⟨x4, x5, x6, x7⟩⟩, ⟨⟨y0, y1, y2, y3⟩, ⟨y4, y5, y6, y7⟩⟩⟩ := hSw; go_simp; (try with_reducible rfl))
      try simp only [Act.put, List.setIfInBounds_toArray, List.set_cons_succ, List.set_cons_zero]
      refine anyK_take2 (i := 4) (v := ?v4) rfl (by kernel_rfl) (by kernel_rfl) (by kernel_rfl) (by rfl) (fun _ _ _ h => h) (by rfl) hHeld ?hy4 (some 21) (by rfl) ?rest4
      case hy4 => (intro W hSw; obtain ⟨⟨⟨x0, x1, x2, x3⟩, ⟨x4, x5, x6, x7⟩⟩, ⟨⟨y0, y1, y2, y3⟩, ⟨y4, y5, y6, y7⟩⟩⟩ := hSw; go_simp; (try with_reducible rfl))
      try simp only [Act.put, List.setIfInBounds_toArray, List.set_cons_succ, List.set_cons_zero]
      refine anyK_take2 (i := 5) (v := ?v5) rfl (by kernel_rfl) (by kernel_rfl) (by kernel_rfl) (by rfl) (fun _ _ _ h => h) (by rfl) hHeld ?hy5 (some 22) (by rfl) ?rest5
      case hy5 => (intro W hSw; obtain ⟨⟨⟨x0, x1, x2, x3⟩, ⟨x4, x5, x6, x7⟩⟩, ⟨⟨y0, y1, y2, y3⟩, ⟨y4, y5, y6, y7⟩⟩⟩ := hSw; go_simp; (try with_reducible rfl))
      try simp only [Act.put, List.setIfInBounds_toArray, List.set_cons_succ, List.set_cons_zero]
      refine anyK_take2 (i := 6) (v := ?v6) rfl (by kernel_rfl) (by kernel_rfl) (by kernel_rfl) (by rfl) (fun _ _ _ h => h) (by rfl) hHeld ?hy6 (some 23) (by rfl) ?rest6
      case hy6 => (intro W hSw; obtain ⟨⟨⟨x0, x1, x2, x3⟩, ⟨x4, x5, x6, x7⟩⟩, ⟨⟨y0, y1, y2, y3⟩, ⟨y4, y5, y6, y7⟩⟩⟩ := hSw; go_simp; (try with_reducible rfl))
      try simp only [Act.put, List.setIfInBounds_toArray, List.set_cons_succ, List.set_cons_zero]
      refine anyK_take2 (i := 7) (v := ?v7) rfl (by kernel_rfl) (by kernel_rfl) (by kernel_rfl) (by rfl) (fun _ _ _ h => h) (by rfl) hHeld ?hy7 (some 24) (by rfl) ?rest7
      case hy7 => (intro W hSw; obtain ⟨⟨⟨x0, x1, x2, x3⟩, ⟨x4, x5, x6, x7⟩⟩, ⟨⟨y0, y1, y2, y3⟩, ⟨y4, y5, y6, y7⟩⟩⟩ := hSw; go_simp; (try with_reducible rfl))
      try simp only [Act.put, List.setIfInBounds_toArray, List.set_cons_succ, List.set_cons_zero]
      refine anyK_step (i := 8) (by kernel_rfl) rfl (fun KP hK => ?_)
      go_simp
      refine (eqPair K N F F' c1 c1' K2 N2 F2 F2' c2 c2' HF.out HF'.out HG.out HG'.out HSm.out HSm2.out R1.out R3.out R2.out R4.out hz2 hz3).mono ?_
      rintro e u ⟨rfl, b1⟩
      have HS2 := hid (hS.out.trans (b1.mono hS.out.size))
      replace BX := hid (BX.out.below b1 (Nat.le_refl _))
      replace BY := hid (BY.out.below b1 (Nat.le_refl _))
      replace BX2 := hid (BX2.out.below b1 (Nat.le_refl _))
      replace BY2 := hid (BY2.out.below b1 (Nat.le_refl _))
      clear b1
      go_wp2_with fail
      clear hHeld
      refine hK.out _ _ ⟨⟨BX.out, BX2.out⟩, ⟨BY.out, BY2.out⟩⟩ (fun hHeld => ?_)
      clear hK KP
      try simp only [Act.put, List.setIfInBounds_toArray, List.set_cons_succ, List.set_cons_zero]
      refine anyK_step (i := 9) (by kernel_rfl) rfl (fun KP hK => ?_)
      go_simp
      clear hHeld
      refine hK.out _ _ ⟨⟨BX.out, BX2.out⟩, ⟨BY.out, BY2.out⟩⟩ (fun hHeld => ?_)
      clear hK KP
      try simp only [Act.put, List.setIfInBounds_toArray, List.set_cons_succ, List.set_cons_zero]
      refine anyK_done (by kernel_rfl) ?_ _
      clear hHeld
      go_wp2_with fail
      go_roundw
      case rel => exact ⟨k + 1, by omega, by go_num, HS2⟩
      case measure => simp [intOf]; omega
    · have hlt' : ¬ (k : Int) < (n : Int) := by omega
      go_wp2
      go_ret
      exact ⟨rfl, hS.out⟩

end Go.Proofs.YtoppccfgcccijaaDoor