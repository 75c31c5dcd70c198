/- The contracts of the laws' toDeedS, szDeedS, eqDeedS. Conditions: deeds of at most 2^21 bytes together. -/
import Derived.Test.YtnbpblephmjfnaaGreatGb14
import Derived.Test.YtnbpblephmjfnaaGreatMgc
namespace Go.Proofs.YtnbpblephmjfnaaGreat
open Go.RowKit
set_option maxRecDepth 100000
theorem madeV (n : Nat) : (madeCells #[.int .i64 0, .int .i64 0, .int .i64 0, .slice none 0 0, .slice none 0 0] (n * 5)).toList = (List.replicate n [Value.int .i64 0, .int .i64 0, .int .i64 0, nilS, nilS]).flatten := by
 have h : ∀ n : Nat, (madeCells #[.int .i64 0, .int .i64 0, .int .i64 0, .slice none 0 0, .slice none 0 0] (n * 5)).toList = (List.range (n * 5)).map (fun i => #[.int .i64 0, .int .i64 0, .int .i64 0, .slice none 0 0, .slice none 0 0][i % 5]!) := by
  intro n
  simp [madeCells]
 rw [h]
 induction n with
 | zero => rfl
 | succ n ih =>
  rw [show (n + 1) * 5 = n * 5 + 5 by omega, List.range_add, List.map_append, ih, List.replicate_succ', List.flatten_append]
  congr 1
  simp [List.range_succ, nilS]
theorem zeroV (n : Nat) : cellsV (List.replicate n tk0) (List.replicate n mt0) = (List.replicate n [Value.int .i64 0, .int .i64 0, .int .i64 0, nilS, nilS]).flatten := by
 induction n with
 | zero => rfl
 | succ n ih => rw [List.replicate_succ, List.replicate_succ, cellsV, ih, List.replicate_succ]; rfl
theorem cellsV_set5 : ∀ (ts : List Tk) (ms : List Mt) (k : Nat) (t : Tk) (m : Mt), ms.length = ts.length → k < ts.length → ((((((cellsV ts ms).set (k * 5) (.int .i64 t.xid)).set (k * 5 + 1) (.int .i64 t.begun)).set (k * 5 + 2) (.int .i64 t.ended)).set (k * 5 + 3) (m.y)).set (k * 5 + 4) (m.z)) = cellsV (ts.set k t) (ms.set k m)
 | q :: ts, y :: ms, 0, t, m, _, _ => by simp [cellsV, cellsV1]
 | q :: ts, y :: ms, k + 1, t, m, h, hk => by
  have ih := cellsV_set5 ts ms k t m (by simpa using h) (by simpa using hk)
  rw [show (k + 1) * 5 = k * 5 + 5 by omega]
  simp only [cellsV, cellsV1, List.cons_append, List.nil_append, List.set_cons_succ, ← ih]
theorem BandsT.besideV {w w' : World} {lo hi : Nat} {ms : List Mt} {ts : List Tk} (h : BandsT w lo hi ms ts) {base : Nat} {s n : Nat} {v : Value} {xs : List Value} (o : w.ownsRow base 68 s v n xs) (g : w.grownBy w' v.ownBlock) : BandsT w' lo hi ms ts :=
 h.keep (Keeps.grown (X := fun b => v.ownBlock = some b) g (fun _ e => e)) (fun i hi k hk => (h.own i hi).off o (by decide) (by decide) (by decide) hk)
theorem OwnV.b {w : World} {lo hi : Nat} {v : Value} {ts : List Tk} (h : OwnV w lo hi v ts) : ∃ ms, w.ownsRow lo 68 5 v ts.length (cellsV ts ms) ∧ BandsT w lo hi ms ts := by
 obtain ⟨ms, hm, o, h1, h2⟩ := h.own
 exact ⟨ms, o, hm, h1, h2⟩
theorem BandsT.v {w : World} {lo hi : Nat} {v : Value} {ts : List Tk} {ms : List Mt} (h : BandsT w lo hi ms ts) (o : w.ownsRow lo 68 5 v ts.length (cellsV ts ms)) (ht : ∀ g, v.ownBlock = some g → g < hi) : OwnV w lo hi v ts := ⟨⟨ms, h.len, o, h.own, h.apart⟩, ht⟩
set_option maxHeartbeats 6400000 in
theorem toDeedS {ad : Option Addr} {n : Nat} (cap : Nat) {ts : List Tk} {w : World} (h : ReadsV w ad ts) (hl : ts.length = n) (hn : n ≤ 2097152) (hs : sumT ts ≤ 2097152) :
 Calls Tryz.prog 18 #[.slice ad n cap] w fun e w' => e = .returned (.slice (some ⟨w.heap.size, 0, none⟩) n n) ∧ OwnV w' w.heap.size w'.heap.size (.slice (some ⟨w.heap.size, 0, none⟩) n n) ts ∧ Below w.heap.size w w' := by
 obtain ⟨i0, hi, hz0, hz1, hz2⟩ := info_parts Tryz.infoDd
 go_enter Tryz.func18, Tryz.ntmps18
 go_wp2_with (at_make; refine wpList_make_full _ rfl _ _ 24 rfl w.heap.size 68 i0 (.agg #[.int .i64 0, .int .i64 0, .int .i64 0, .slice none 0 0, .slice none 0 0]) 5 Tryz.underlying24 hi hz0 hz1 _ _ _ _ n rfl rfl (by omega) (by omega) ?b2 ?b3 (Nat.le_refl _) ?_)
 case b2 => rw [hz2]; omega
 case b3 => unfold maxLen; omega
 intro sn0' hown0 hgrow0
 go_wp2
 go_loopw [4] (fun i wr => ∃ (k : Nat) (ms : List Mt), k ≤ n ∧ i = .int .i64 k ∧ ms.length = k ∧ Hid (wr.ownsRow w.heap.size 68 5 (.slice (some ⟨w.heap.size, 0, none⟩) n n) n (cellsV (ts.take k ++ List.replicate (n - k) tk0) (ms ++ List.replicate (n - k) mt0))) ∧ Hid (BandsT wr w.heap.size wr.heap.size ms (ts.take k)) ∧ Hid (Below w.heap.size w wr))
  (fun i _ => n - (intOf i).toNat)
 case atStart =>
  refine ⟨0, [], Nat.zero_le _, rfl, rfl, hid ?_, hid (by simpa using BandsT.nil _ _ _), hid ((Below.refl _ _).grown hgrow0 (Nat.le_refl _) (fun k h => by cases h))⟩
  rw [madeV, ← zeroV] at hown0
  simpa using hown0
 case round =>
  obtain ⟨k, ms, hk, rfl, hx, hown, hB, hnx⟩ := hrel
  by_cases hlt : k < n
  · have hlt' : (k : Int) < (n : Int) := by omega
    obtain ⟨b, off, a1, c1, a2, c2, rfl, bx0, r1, m1, r2, m2⟩ := h.at (k := k) (by omega)
    have bx := bx0.below hnx.out (Nat.le_refl _)
    have hr1 := hid (r1.below hnx.out (Nat.le_refl _))
    have hr2 := hid (r2.below hnx.out (Nat.le_refl _))
    have hlen := sumT_at ts k (by omega)
    have HT := hid (take_snocT ts k (by omega))
    generalize ts.getD k tk0 = t at *
    obtain ⟨xi, be, en, al, rs, ws, inn, ou⟩ := t
    obtain ⟨n1, hn1⟩ : ∃ n1, rs.length = n1 := ⟨_, rfl⟩
    obtain ⟨n2, hn2⟩ : ∃ n2, ws.length = n2 := ⟨_, rfl⟩
    simp only [szT] at bx hlen hr1 hr2
    rw [hn1, hn2] at bx hlen
    have HN1 := hid hn1
    have HN2 := hid hn2
    have HLE := hid (show n1 ≤ 2097152 ∧ n2 ≤ 2097152 ∧ sumI (fl2 rs) ≤ 2097152 ∧ sumI ws ≤ 2097152 by omega)
    obtain ⟨c0, c1', c2', c3, c4⟩ := bx
    simp only at c0 c1' c2'
    clear bx0 r1 r2 hn1 hn2 hown0 hgrow0 hlen
    go_wp2_with fail
    clear c0 c1' c2' c3 c4
    refine (toDeed xi be en al inn ou c1 c2 hr1.out hr2.out HN1.out HN2.out HLE.out.1 HLE.out.2.2.1 HLE.out.2.1 HLE.out.2.2.2).mono ?_
    rintro e w1 ⟨g1, g2, XX, YY, rfl, o1, b1⟩
    have hown1 := owns_below b1 (by have := hnx.out.size; omega) hown.out
    have hxl : (ms ++ List.replicate (n - k) mt0).length = (ts.take k ++ List.replicate (n - k) tk0).length := by simp; omega
    have hel : (ts.take k ++ List.replicate (n - k) tk0).length = n := by simp; omega
    have hzl : (cellsV (ts.take k ++ List.replicate (n - k) tk0) (ms ++ List.replicate (n - k) mt0)).length = n * 5 := by
     rw [cellsV_len _ _ hxl, hel]
    have hcc : ∀ q, q < 5 → ∃ v, w1.cell? ⟨w.heap.size, k * 5 + q, none⟩ = some v := fun q hq => by
     rw [hown1.cellAt (k * 5 + q) (by omega)]
     exact ⟨_, List.getElem?_eq_getElem (by omega)⟩
    obtain ⟨v0, d0⟩ := hcc 0 (by omega)
    obtain ⟨v1, d1⟩ := hcc 1 (by omega)
    obtain ⟨v2, d2⟩ := hcc 2 (by omega)
    obtain ⟨v3, d3⟩ := hcc 3 (by omega)
    obtain ⟨v4, d4⟩ := hcc 4 (by omega)
    simp only [Nat.add_zero] at d0
    have fz : ∀ q, w1.frozen? ⟨w.heap.size, q, none⟩ = false := fun q => hown1.frozenAt q
    have f0 := fz (k * 5)
    have f1 := fz (k * 5 + 1)
    have f2 := fz (k * 5 + 2)
    have f3 := fz (k * 5 + 3)
    have f4 := fz (k * 5 + 4)
    have S0 := hown1.stored (k * 5) (.int .i64 xi)
    have S1 := S0.1.stored (k * 5 + 1) (.int .i64 be)
    have S2 := S1.1.stored (k * 5 + 2) (.int .i64 en)
    have S3 := S2.1.stored (k * 5 + 3) (.slice (some ⟨g1, 0, none⟩) n1 n1)
    have S4 := S3.1.stored (k * 5 + 4) (.slice (some ⟨g2, 0, none⟩) n2 n2)
    have B0 : BandsT w1 w.heap.size w1.heap.size (ms ++ [⟨.slice (some ⟨g1, 0, none⟩) n1 n1, XX, .slice (some ⟨g2, 0, none⟩) n2 n2, YY⟩]) (ts.take k ++ [⟨xi, be, en, al, rs, ws, inn, ou⟩]) := (hB.out.agree (Agree.below b1 (Nat.le_refl _))).snoc (by have := hnx.out.size; omega) b1.size o1
    have B1 := B0.besideV hown1 S0.2
    have B2 := B1.besideV S0.1 S1.2
    have B3 := B2.besideV S1.1 S2.2
    have B4 := B3.besideV S2.1 S3.2
    have B5 := B4.besideV S3.1 S4.2
    have V9 := ((((((hnx.out.trans (b1.mono hnx.out.size)).setCell (p := ⟨w.heap.size, k * 5, none⟩) (Nat.le_refl _) (.int .i64 xi)).setCell (p := ⟨w.heap.size, k * 5 + 1, none⟩) (Nat.le_refl _) (.int .i64 be)).setCell (p := ⟨w.heap.size, k * 5 + 2, none⟩) (Nat.le_refl _) (.int .i64 en)).setCell (p := ⟨w.heap.size, k * 5 + 3, none⟩) (Nat.le_refl _) (.slice (some ⟨g1, 0, none⟩) n1 n1)).setCell (p := ⟨w.heap.size, k * 5 + 4, none⟩) (Nat.le_refl _) (.slice (some ⟨g2, 0, none⟩) n2 n2))
    have B9 := B5.mono (hi' := (((((w1.setCell ⟨w.heap.size, k * 5, none⟩ (.int .i64 xi)).setCell ⟨w.heap.size, k * 5 + 1, none⟩ (.int .i64 be)).setCell ⟨w.heap.size, k * 5 + 2, none⟩ (.int .i64 en)).setCell ⟨w.heap.size, k * 5 + 3, none⟩ (.slice (some ⟨g1, 0, none⟩) n1 n1)).setCell ⟨w.heap.size, k * 5 + 4, none⟩ (.slice (some ⟨g2, 0, none⟩) n2 n2)).heap.size) (Nat.le_refl _) (by simp only [set_size]; exact Nat.le_refl _)
    have O9 := S4.1
    have E9 := cellsV_set5 (ts.take k ++ List.replicate (n - k) tk0) (ms ++ List.replicate (n - k) mt0) k ⟨xi, be, en, al, rs, ws, inn, ou⟩ ⟨.slice (some ⟨g1, 0, none⟩) n1 n1, XX, .slice (some ⟨g2, 0, none⟩) n2 n2, YY⟩ hxl (by rw [hel]; omega)
    rw [set_rep9 _ k n tk0 _ (by simp; omega) hlt, set_rep9 ms k n mt0 _ hx hlt, ← HT.out] at E9
    simp only at E9
    rw [E9] at O9
    have HO := hid O9
    have HBB := hid B9
    have HV := hid V9
    clear S0 S1 S2 S3 S4 B0 B1 B2 B3 B4 B5 B9 V9 O9 E9 hown1 o1 b1 hzl hcc fz hxl hel
    go_wp2_with fail
    go_roundw
    case rel => exact ⟨k + 1, ms ++ [⟨.slice (some ⟨g1, 0, none⟩) n1 n1, XX, .slice (some ⟨g2, 0, none⟩) n2 n2, YY⟩], by omega, by go_num, by simp [hx], HO, hid (by rw [HT.out]; exact HBB.out), HV⟩
    case measure => simp [intOf]; omega
  · go_wp2
    go_ret
    have hkn : k = n := by omega
    subst hkn
    have o9 := hown.out
    have b9 := hB.out
    rw [List.take_of_length_le (by omega)] at o9 b9
    refine ⟨rfl, b9.v ?_ (fun g hg => (hown.out.lt g hg).2), hnx.out⟩
    rw [hl]
    simpa using o9
set_option maxHeartbeats 1600000 in
theorem szDeedS {ad : Option Addr} {n : Nat} (cap : Nat) {ts : List Tk} {w : World} (h : ReadsV w ad ts) (hl : ts.length = n) (hn : n ≤ 9223372036854775807) (left : Int) (h0 : 0 ≤ left) (h1 : left ≤ 1048576) :
 Calls Tryz.prog 16 #[.slice ad n cap, .int .i64 left] w fun e w' => e = .returned (.int .i64 (lft13 left (n + sumT ts))) ∧ Below w.heap.size w w' := by
 have a1 : (0 : Int) ≤ (n : Int) := by omega
 have a2 : (n : Int) ≤ 9223372036854775807 := by omega
 by_cases hbig : left < n
 · have q : left - (n : Int) < 0 := by omega
   have HE := hid (show lft13 left (n + sumT ts) = -1 by unfold lft13; rw [if_pos (by omega)])
   go_enter Tryz.func16, Tryz.ntmps16
   go_wp2
   go_ret
   exact ⟨by rw [HE.out]; rfl, Below.refl _ _⟩
 have q : ¬ left - (n : Int) < 0 := by omega
 have hn2 : n ≤ 1048576 := by omega
 obtain ⟨L, hL⟩ : ∃ L : Int, left - n = L := ⟨_, rfl⟩
 have hL0 : 0 ≤ L := by omega
 have hL1 : L ≤ 1048576 := by omega
 have HG := hid (show ∀ t : Nat, lft13 left (n + t) = lft13 L t by intro t; unfold lft13; by_cases hh : L < t; rw [if_pos (by omega), if_pos hh]; rw [if_neg (by omega), if_neg hh]; omega)
 have HL := hid hL
 go_enter Tryz.func16, Tryz.ntmps16
 go_wp2
 clear hL q
 go_loopw [1, 5] (fun l i wr => ∃ (k : Nat) (x : Int), k ≤ n ∧ i = .int .i64 k ∧ l = .int .i64 x ∧ 0 ≤ x ∧ x ≤ 1048576 ∧ Hid (x = L - sumT (ts.take k)) ∧ Hid (Below w.heap.size w wr)) (fun _ i _ => n - (intOf i).toNat)
 case atStart => exact ⟨0, L, Nat.zero_le _, rfl, rfl, hL0, hL1, hid (by simp [sumT]), hid (Below.refl _ _)⟩
 case round =>
  obtain ⟨k, x, hk, rfl, rfl, hx0, hx1, HX, hB⟩ := hrel
  by_cases hlt : k < n
  · have hlt' : (k : Int) < (n : Int) := by omega
    have hk0 : (0 : Int) ≤ (k : Int) := by omega
    obtain ⟨b, off, x1, c1, x2, c2, rfl, bx0, r1, hm1, r2, hm2⟩ := h.at (k := k) (by omega)
    unfold maxLen at hm1 hm2
    have bx := bx0.below hB.out (Nat.le_refl _)
    have R1 := hid (r1.below hB.out (Nat.le_refl _))
    have R2 := hid (r2.below hB.out (Nat.le_refl _))
    have HT := hid (sumT_step ts k (by omega))
    have HU := hid (sumT_take ts (k + 1))
    generalize ts.getD k tk0 = t at *
    obtain ⟨xi, be, en, al, rs, ws, inn, ou⟩ := t
    simp only [szT] at bx hm1 hm2 HT R1 R2
    obtain ⟨n1, hn1⟩ : ∃ n1, rs.length = n1 := ⟨_, rfl⟩
    obtain ⟨n2, hn2'⟩ : ∃ n2, ws.length = n2 := ⟨_, rfl⟩
    rw [hn1, hn2'] at bx HT
    rw [hn1] at hm1
    rw [hn2'] at hm2
    obtain ⟨c0, c1', c2', c3, c4⟩ := bx
    simp only at c0 c1' c2'
    obtain ⟨M, hM⟩ : ∃ M : Nat, (n1 + sumI (fl2 rs)) + (n2 + sumI ws) = M := ⟨_, rfl⟩
    obtain ⟨y, hy⟩ : ∃ y : Int, lft13 x ((n1 + sumI (fl2 rs)) + (n2 + sumI ws)) = y := ⟨_, rfl⟩
    have HY := hid hy
    have HM := hid hM
    have HN1 := hid hn1
    have HN2 := hid hn2'
    have HMX := hid (And.intro hm1 hm2)
    have hy2 : (x < (M : Nat) ∧ y = -1) ∨ (0 ≤ y ∧ y ≤ 1048576 ∧ y = x - (M : Nat)) := by
     rw [hM] at hy
     unfold lft13 at hy
     by_cases hh : x < (M : Int)
     · rw [if_pos hh] at hy; exact .inl ⟨by omega, hy.symm⟩
     · rw [if_neg hh] at hy; exact .inr ⟨by omega, by omega, by omega⟩
    have HY2 := hid hy2
    clear hy hy2 hM bx0 r1 r2 hn1 hn2' hm1 hm2
    go_wp2_with fail
    clear c0 c1' c2' c3 c4
    refine (szDeed xi be en c1 c2 R1.out R2.out HN1.out HN2.out (by have := HMX.out; omega) (by have := HMX.out; omega) x hx0 hx1).mono ?_
    rintro e w1 ⟨rfl, b1⟩
    rw [HY.out]
    have HB := hid (hB.out.trans (b1.mono hB.out.size))
    clear b1
    rcases HY2.out with ⟨hbm, rfl⟩ | ⟨hy0, hy1, hye⟩
    · go_wp2_with fail
      go_ret
      refine ⟨?_, HB.out⟩
      rw [HG.out]
      unfold lft13
      rw [if_pos (by have := HT.out; have := HU.out; have := HX.out; have := HM.out; omega)]
      rfl
    · have hy2 : ¬ y < 0 := by omega
      have HYE := hid hye
      clear hye HY2
      go_wp2_with fail
      go_roundw
      case rel => exact ⟨k + 1, y, by omega, by go_num, rfl, hy0, hy1, hid (by have := HT.out; have := HX.out; have := HYE.out; have := HM.out; omega), HB⟩
      case measure => simp [intOf]; omega
  · have hlt' : ¬ (k : Int) < (n : Int) := by omega
    go_wp2
    go_ret
    refine ⟨?_, hB.out⟩
    rw [HG.out]
    have := HX.out
    rw [List.take_of_length_le (by omega)] at this
    unfold lft13
    rw [if_neg (by omega), this]
    rfl
set_option maxHeartbeats 6400000 in
theorem eqDeedS {ad ad' : Option Addr} {n : Nat} (cap cap' : Nat) {ts us : List Tk} {w : World} (h : ReadsV w ad ts) (h' : ReadsV w ad' us) (hSm : SameT ts us) (hl : ts.length = n) (hn : n ≤ 2097152) (hs : sumT ts ≤ 2097152) :
 Calls Tryz.prog 20 #[.slice ad n cap, .slice ad' n cap'] w fun e w' => e = .returned (.bool true) ∧ Below w.heap.size w w' := by
 have hlf := hSm.1
 go_enter Tryz.func20, Tryz.ntmps20
 go_wp2
 go_loopw [5] (fun i wr => ∃ k : Nat, k ≤ n ∧ i = .int .i64 k ∧ Hid (Below w.heap.size w wr)) (fun i _ => n - (intOf i).toNat)
 case atStart => exact ⟨0, Nat.zero_le _, rfl, hid (Below.refl _ _)⟩
 case round =>
  obtain ⟨k, hk, rfl, hS⟩ := hrel
  by_cases hlt : k < n
  · have hlt' : (k : Int) < (n : Int) := by omega
    have hk0 : (0 : Int) ≤ (k : Int) := by omega
    obtain ⟨b, off, p1, c1, p2, c2, rfl, bx, r1, _, r2, _⟩ := h.at (k := k) (by omega)
    obtain ⟨b', off', q1, d1, q2, d2, rfl, bx', s1, _, s2, _⟩ := h'.at (k := k) (by omega)
    have hlen := sumT_at ts k (by omega)
    have hsm := hSm.2 k
    generalize ts.getD k tk0 = t at *
    generalize us.getD k tk0 = u at *
    obtain ⟨xi, be, en, al, rs, ws, inn, ou⟩ := t
    obtain ⟨xi', be', en', al', rs', ws', inn', ou'⟩ := u
    obtain ⟨e1, e2, e3, e4, hA, hW, e5, e6⟩ := hsm
    simp only at e1 e2 e3 e4 hA hW e5 e6
    subst e1 e2 e3 e4 e5 e6
    simp only [szT] at bx bx' r1 r2 s1 s2 hlen
    obtain ⟨n1, hn1⟩ : ∃ n1, rs.length = n1 := ⟨_, rfl⟩
    obtain ⟨n2, hn2⟩ : ∃ n2, ws.length = n2 := ⟨_, rfl⟩
    have hn1' : rs'.length = n1 := by rw [same_rs hA, hn1]
    have hn2' : ws'.length = n2 := by rw [← hW.1, hn2]
    rw [hn1, hn2] at bx hlen
    rw [hn1', hn2'] at bx'
    have HN := hid (And.intro hn1 hn2)
    have HLE := hid (show n1 ≤ 2097152 ∧ n2 ≤ 2097152 ∧ sumI (fl2 rs) ≤ 2097152 ∧ sumI ws ≤ 2097152 by omega)
    have bD := (Still.drew wr).below wr.heap.size
    have BX := hid ((bx.below hS.out (Nat.le_refl _)).below bD (Nat.le_refl _))
    have BY := hid ((bx'.below hS.out (Nat.le_refl _)).below bD (Nat.le_refl _))
    have R1 := hid ((r1.below hS.out (Nat.le_refl _)).below bD (Nat.le_refl _))
    have R2 := hid ((r2.below hS.out (Nat.le_refl _)).below bD (Nat.le_refl _))
    have R3 := hid ((s1.below hS.out (Nat.le_refl _)).below bD (Nat.le_refl _))
    have R4 := hid ((s2.below hS.out (Nat.le_refl _)).below bD (Nat.le_refl _))
    have HA := hid hA
    have HW := hid hW
    clear bx bx' r1 r2 s1 s2 hlen hn1 hn2 hn1' hn2' hA hW
    go_wp2
    replace hS := hid (hS.out.trans (bD.mono hS.out.size))
    clear bD
    refine region_K 99 (fun W => Box5 W b (off + k * 5) ⟨xi, be, en, al, rs, ws, inn, ou⟩ (.slice p1 n1 c1) (.slice p2 n2 c2) ∧ Box5 W b' (off' + k * 5) ⟨xi, be, en, al, rs', ws', inn, ou⟩ (.slice q1 n1 d1) (.slice q2 n2 d2)) (by kernel_rfl) ?_ (fun hHeld => ?_)
    · exact ⟨BX.out, BY.out⟩
    generalize wr.drew = v0 at *
    refine anyK_take2 (i := 0) (v := ?v0) rfl (by kernel_rfl) (by kernel_rfl) (by kernel_rfl) (by rfl) (fun _ _ _ h => h) (by rfl) hHeld ?hy0 (some 17) (by rfl) ?rest0
    case hy0 => (intro W hSw; obtain ⟨⟨x0, x1, x2, x3, x4⟩, ⟨y0, y1, y2, y3, y4⟩⟩ := hSw; go_simp; (try with_reducible rfl))
    try simp only [Act.put, List.setIfInBounds_toArray, List.set_cons_succ, List.set_cons_zero]
    refine anyK_take2 (i := 1) (v := ?v1) rfl (by kernel_rfl) (by kernel_rfl) (by kernel_rfl) (by rfl) (fun _ _ _ h => h) (by rfl) hHeld ?hy1 (some 18) (by rfl) ?rest1
    case hy1 => (intro W hSw; obtain ⟨⟨x0, x1, x2, x3, x4⟩, ⟨y0, y1, y2, y3, y4⟩⟩ := hSw; go_simp; (try with_reducible rfl))
    try simp only [Act.put, List.setIfInBounds_toArray, List.set_cons_succ, List.set_cons_zero]
    refine anyK_take2 (i := 2) (v := ?v2) rfl (by kernel_rfl) (by kernel_rfl) (by kernel_rfl) (by rfl) (fun _ _ _ h => h) (by rfl) hHeld ?hy2 (some 19) (by rfl) ?rest2
    case hy2 => (intro W hSw; obtain ⟨⟨x0, x1, x2, x3, x4⟩, ⟨y0, y1, y2, y3, y4⟩⟩ := hSw; go_simp; (try with_reducible rfl))
    try simp only [Act.put, List.setIfInBounds_toArray, List.set_cons_succ, List.set_cons_zero]
    refine anyK_take2 (i := 3) (v := ?v3) rfl (by kernel_rfl) (by kernel_rfl) (by kernel_rfl) (by rfl) (fun _ _ _ h => h) (by rfl) hHeld ?hy3 (some 20) (by rfl) ?rest3
    case hy3 => (intro W hSw; obtain ⟨⟨x0, x1, x2, x3, x4⟩, ⟨y0, y1, y2, y3, y4⟩⟩ := hSw; go_simp; (try with_reducible rfl))
    try simp only [Act.put, List.setIfInBounds_toArray, List.set_cons_succ, List.set_cons_zero]
    refine anyK_take2 (i := 4) (v := ?v4) rfl (by kernel_rfl) (by kernel_rfl) (by kernel_rfl) (by rfl) (fun _ _ _ h => h) (by rfl) hHeld ?hy4 (some 21) (by rfl) ?rest4
    case hy4 => (intro W hSw; obtain ⟨⟨x0, x1, x2, x3, x4⟩, ⟨y0, y1, y2, y3, y4⟩⟩ := hSw; go_simp; (try with_reducible rfl))
    try simp only [Act.put, List.setIfInBounds_toArray, List.set_cons_succ, List.set_cons_zero]
    refine anyK_take2 (i := 5) (v := ?v5) rfl (by kernel_rfl) (by kernel_rfl) (by kernel_rfl) (by rfl) (fun _ _ _ h => h) (by rfl) hHeld ?hy5 (some 22) (by rfl) ?rest5
    case hy5 => (intro W hSw; obtain ⟨⟨x0, x1, x2, x3, x4⟩, ⟨y0, y1, y2, y3, y4⟩⟩ := hSw; go_simp; (try with_reducible rfl))
    try simp only [Act.put, List.setIfInBounds_toArray, List.set_cons_succ, List.set_cons_zero]
    refine anyK_take2 (i := 6) (v := ?v6) rfl (by kernel_rfl) (by kernel_rfl) (by kernel_rfl) (by rfl) (fun _ _ _ h => h) (by rfl) hHeld ?hy6 (some 23) (by rfl) ?rest6
    case hy6 => (intro W hSw; obtain ⟨⟨x0, x1, x2, x3, x4⟩, ⟨y0, y1, y2, y3, y4⟩⟩ := hSw; go_simp; (try with_reducible rfl))
    try simp only [Act.put, List.setIfInBounds_toArray, List.set_cons_succ, List.set_cons_zero]
    refine anyK_take2 (i := 7) (v := ?v7) rfl (by kernel_rfl) (by kernel_rfl) (by kernel_rfl) (by rfl) (fun _ _ _ h => h) (by rfl) hHeld ?hy7 (some 24) (by rfl) ?rest7
    case hy7 => (intro W hSw; obtain ⟨⟨x0, x1, x2, x3, x4⟩, ⟨y0, y1, y2, y3, y4⟩⟩ := hSw; go_simp; (try with_reducible rfl))
    try simp only [Act.put, List.setIfInBounds_toArray, List.set_cons_succ, List.set_cons_zero]
    refine anyK_step (i := 8) (by kernel_rfl) rfl (fun KP hK => ?_)
    go_simp
    refine (eqDeed xi be en c1 d1 c2 d2 R1.out R3.out R2.out R4.out HA.out HW.out HN.out.1 HN.out.2 HLE.out.1 HLE.out.2.2.1 HLE.out.2.1 HLE.out.2.2.2).mono ?_
    rintro e u ⟨rfl, b1⟩
    have HS2 := hid (hS.out.trans (b1.mono hS.out.size))
    replace BX := hid (BX.out.below b1 (Nat.le_refl _))
    replace BY := hid (BY.out.below b1 (Nat.le_refl _))
    clear b1
    go_wp2_with fail
    clear hHeld
    refine hK.out _ _ ⟨BX.out, BY.out⟩ (fun hHeld => ?_)
    clear hK KP
    try simp only [Act.put, List.setIfInBounds_toArray, List.set_cons_succ, List.set_cons_zero]
    refine anyK_step (i := 9) (by kernel_rfl) rfl (fun KP hK => ?_)
    go_simp
    clear hHeld
    refine hK.out _ _ ⟨BX.out, BY.out⟩ (fun hHeld => ?_)
    clear hK KP
    try simp only [Act.put, List.setIfInBounds_toArray, List.set_cons_succ, List.set_cons_zero]
    refine anyK_done (by kernel_rfl) ?_ _
    clear hHeld
    go_wp2_with fail
    go_roundw
    case rel => exact ⟨k + 1, by omega, by go_num, HS2⟩
    case measure => simp [intOf]; omega
  · have hlt' : ¬ (k : Int) < (n : Int) := by omega
    go_wp2
    go_ret
    exact ⟨rfl, hS.out⟩
end Go.Proofs.YtnbpblephmjfnaaGreat