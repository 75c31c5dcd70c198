/- The contracts of the laws' toDeed, szDeed, eqDeed. Conditions: deeds of at most 2^21 bytes, reads and writes together. -/
import Derived.Test.YtnbpblephmjfnaaGreatMgc
namespace Go.Proofs.YtnbpblephmjfnaaGreat
open Go.RowKit
set_option maxRecDepth 100000
theorem Tryz.infoDd : (Tryz.prog.info? 68).map (fun i => (i.zero, i.size, i.bytes)) = some (some (.agg #[.int .i64 0, .int .i64 0, .int .i64 0, .slice none 0 0, .slice none 0 0]), 5, 72) := by kernel_rfl
theorem size_dd : (Tryz.prog.info? 68).map (·.size) = some 5 := by kernel_rfl
set_option maxHeartbeats 6400000 in
theorem toDeed (xi be en : Int) (al inn ou : Bool) {ad : Option Addr} {n : Nat} (cap : Nat) {bd : Option Addr} {m : Nat} (cp : Nat) {rs : List (Im × Im)} {ws : List Im} {w : World} (h : ReadsM w ad (fl2 rs)) (hk : ReadsM w bd ws) (hl : rs.length = n) (hm : ws.length = m) (hn : n ≤ 2097152) (hs : sumI (fl2 rs) ≤ 2097152) (hmm : m ≤ 2097152) (hs2 : sumI ws ≤ 2097152) :
 Calls Tryz.prog 57 #[.agg #[.int .i64 xi, .int .i64 be, .int .i64 en, .slice ad n cap, .slice bd m cp]] w fun e w' => ∃ g1 g2 X Y, e = .returned (.agg #[.int .i64 xi, .int .i64 be, .int .i64 en, .slice (some ⟨g1, 0, none⟩) n n, .slice (some ⟨g2, 0, none⟩) m m]) ∧ OwnT1 w' w.heap.size w'.heap.size ⟨.slice (some ⟨g1, 0, none⟩) n n, X, .slice (some ⟨g2, 0, none⟩) m m, Y⟩ ⟨xi, be, en, al, rs, ws, inn, ou⟩ ∧ Below w.heap.size w w' := by
 obtain ⟨z3, r1, r2, b3⟩ := three w (.cells #[.int .i64 xi, .int .i64 be, .int .i64 en, .slice ad n cap, .slice bd m cp] 100) (.cells #[.int .i64 0, .int .i64 0, .int .i64 0, .slice none 0 0, .slice none 0 0] 68) (.cells #[.int .i64 xi, .int .i64 be, .int .i64 en, .slice none 0 0, .slice none 0 0] 68)
 have r0 := three_first w (.cells #[.int .i64 xi, .int .i64 be, .int .i64 en, .slice ad n cap, .slice bd m cp] 100) (.cells #[.int .i64 0, .int .i64 0, .int .i64 0, .slice none 0 0, .slice none 0 0] 68) (.cells #[.int .i64 xi, .int .i64 be, .int .i64 en, .slice none 0 0, .slice none 0 0] 68)
 have H0 := hid r0
 have H1 := hid r1
 have H2 := hid r2
 have HB := hid b3
 have HZ := hid z3
 have HE := hid (h.below b3 (Nat.le_refl _))
 have HK0 := hid hk
 have HL2 := hid (show (fl2 rs).length = n * 2 by rw [fl2_len, hl])
 clear r0 r1 r2 b3 z3 h hk
 go_enter Tryz.func57, Tryz.ntmps57
 go_wp2_with fail
 generalize (((w.alloc (.cells #[.int .i64 xi, .int .i64 be, .int .i64 en, .slice ad n cap, .slice bd m cp] 100)).alloc (.cells #[.int .i64 0, .int .i64 0, .int .i64 0, .slice none 0 0, .slice none 0 0] 68)).alloc (.cells #[.int .i64 xi, .int .i64 be, .int .i64 en, .slice none 0 0, .slice none 0 0] 68)) = X at *
 refine (toSpanS cap HE.out HL2.out hn hs).mono ?_
 rintro e w1 ⟨rfl, oE, b⟩
 have z := HZ.out
 have bs := b.size
 have t0 := (b.block w.heap.size (by omega)).trans H0.out
 have t1 := (b.block (w.heap.size + 1) (by omega)).trans H1.out
 have t2 := (b.block (w.heap.size + 1 + 1) (by omega)).trans H2.out
 have d1 : w1.cell? ⟨(w.heap.size + 1 + 1), 3, none⟩ = some (.slice none 0 0) := by rw [cell_of_row _ _ _ _ _ _ t2]; rfl
 have f1 : w1.frozen? ⟨(w.heap.size + 1 + 1), 3, none⟩ = false := frozen_of_row _ _ _ _ _ t2
 have v2 := heap_setCell_same w1 (w.heap.size + 1 + 1) 3 _ 68 (.slice (some ⟨X.heap.size, 0, none⟩) n n) t2
 have v1 := (heap_setCell_other w1 ⟨(w.heap.size + 1 + 1), 3, none⟩ (w.heap.size + 1) (.slice (some ⟨X.heap.size, 0, none⟩) n n) (by simp)).trans t1
 have v0 := (heap_setCell_other w1 ⟨(w.heap.size + 1 + 1), 3, none⟩ w.heap.size (.slice (some ⟨X.heap.size, 0, none⟩) n n) (by simp; omega)).trans t0
 have c2 : (w1.setCell ⟨(w.heap.size + 1 + 1), 3, none⟩ (.slice (some ⟨X.heap.size, 0, none⟩) n n)).cell? ⟨w.heap.size, 4, none⟩ = some (.slice bd m cp) := by rw [cell_of_row _ _ _ _ _ _ v0]; rfl
 have c2' : w1.cell? ⟨w.heap.size, 4, none⟩ = some (.slice bd m cp) := by rw [cell_of_row _ _ _ _ _ _ t0]; rfl
 have bU := (HB.out.trans (b.mono (by omega))).setCell (p := ⟨(w.heap.size + 1 + 1), 3, none⟩) (by simp; omega) (.slice (some ⟨X.heap.size, 0, none⟩) n n)
 have gU := grown_set13 w1 (w.heap.size + 1 + 1) 3 (.slice (some ⟨X.heap.size, 0, none⟩) n n)
 have zU : (w1.setCell ⟨(w.heap.size + 1 + 1), 3, none⟩ (.slice (some ⟨X.heap.size, 0, none⟩) n n)).heap.size = w1.heap.size := set_size _ _ _
 have OE := hid (show OwnM 74 8 (w1.setCell ⟨(w.heap.size + 1 + 1), 3, none⟩ (.slice (some ⟨X.heap.size, 0, none⟩) n n)) X.heap.size w1.heap.size (.slice (some ⟨X.heap.size, 0, none⟩) n n) n (fl2 rs) from oE.agree (fun k k1 k2 => gU.block k k2 (by simp; omega)))
 have HK1 := hid (HK0.out.below bU (Nat.le_refl _))
 have V0 := hid v0
 have V1 := hid v1
 have V2 := hid v2
 have BU := hid bU
 have ZU := hid zU
 have ZB := hid bs
 clear t0 t1 t2 v0 v1 v2 bU gU zU oE b H0 H1 H2 HB z bs
 go_wp2_with fail
 clear d1 f1 c2 c2'
 generalize w1.setCell ⟨(w.heap.size + 1 + 1), 3, none⟩ (.slice (some ⟨X.heap.size, 0, none⟩) n n) = U at *
 refine (toItemS cp HK1.out hm hmm hs2).mono ?_
 rintro e w2 ⟨rfl, oK, b⟩
 have bs2 := b.size
 have zu := ZU.out
 have z := HZ.out
 have bs := ZB.out
 have t0 := (b.block w.heap.size (by omega)).trans V0.out
 have t1 := (b.block (w.heap.size + 1) (by omega)).trans V1.out
 have t2 := (b.block (w.heap.size + 1 + 1) (by omega)).trans V2.out
 have P0 := hid (And.intro t0 (And.intro t1 t2))
 have d5 : w2.cell? ⟨(w.heap.size + 1 + 1), 4, none⟩ = some (.slice none 0 0) := by rw [cell_of_row _ _ _ _ _ _ t2]; rfl
 have f5 : w2.frozen? ⟨(w.heap.size + 1 + 1), 4, none⟩ = false := frozen_of_row _ _ _ _ _ t2
 have q1 := (heap_setCell_other w2 ⟨(w.heap.size + 1 + 1), 4, none⟩ (w.heap.size + 1) (.slice (some ⟨U.heap.size, 0, none⟩) m m) (by simp)).trans t1
 have y5 := heap_setCell_same w2 (w.heap.size + 1 + 1) 4 _ 68 (.slice (some ⟨U.heap.size, 0, none⟩) m m) t2
 have hne : w.heap.size ≠ (w.heap.size + 1 + 1) := by omega
 have KA : Keeps (fun k => k = (w.heap.size + 1 + 1)) w2 (w2.setCell ⟨(w.heap.size + 1 + 1), 4, none⟩ (.slice (some ⟨U.heap.size, 0, none⟩) m m)) := Keeps.set (X := fun k => k = (w.heap.size + 1 + 1)) w2 (p := ⟨(w.heap.size + 1 + 1), 4, none⟩) rfl _
 have zA : (w2.setCell ⟨(w.heap.size + 1 + 1), 4, none⟩ (.slice (some ⟨U.heap.size, 0, none⟩) m m)).heap.size = w2.heap.size := by rw [set_size]
 have gB := row_grown13 (w2.setCell ⟨(w.heap.size + 1 + 1), 4, none⟩ (.slice (some ⟨U.heap.size, 0, none⟩) m m)) (w.heap.size + 1) #[.int .i64 xi, .int .i64 be, .int .i64 en, .slice (some ⟨X.heap.size, 0, none⟩) n n, .slice (some ⟨U.heap.size, 0, none⟩) m m]
 have zB : ((w2.setCell ⟨(w.heap.size + 1 + 1), 4, none⟩ (.slice (some ⟨U.heap.size, 0, none⟩) m m)).setRow (w.heap.size + 1) #[.int .i64 xi, .int .i64 be, .int .i64 en, .slice (some ⟨X.heap.size, 0, none⟩) n n, .slice (some ⟨U.heap.size, 0, none⟩) m m]).heap.size = w2.heap.size := by rw [← zA]; simp
 have B4 := hid (below_setRow ((BU.out.trans (b.mono (by omega))).setCell (p := ⟨(w.heap.size + 1 + 1), 4, none⟩) (by simp; omega) (.slice (some ⟨U.heap.size, 0, none⟩) m m)) (show w.heap.size ≤ (w.heap.size + 1) by omega) #[.int .i64 xi, .int .i64 be, .int .i64 en, .slice (some ⟨X.heap.size, 0, none⟩) n n, .slice (some ⟨U.heap.size, 0, none⟩) m m])
 obtain ⟨xs, xE⟩ := OE.out.x
 obtain ⟨ys, xK⟩ := oK.x
 have xE2 := (xE.agree (w' := (w2.setCell ⟨(w.heap.size + 1 + 1), 4, none⟩ (.slice (some ⟨U.heap.size, 0, none⟩) m m)).setRow (w.heap.size + 1) #[.int .i64 xi, .int .i64 be, .int .i64 en, .slice (some ⟨X.heap.size, 0, none⟩) n n, .slice (some ⟨U.heap.size, 0, none⟩) m m]) (fun k k1 k2 => by
  rw [gB.block k (by rw [zA]; omega) (by simp; omega), KA.block k (by omega) (by omega), b.block k (by omega)]))
 have xK2 := (xK.agree (w' := (w2.setCell ⟨(w.heap.size + 1 + 1), 4, none⟩ (.slice (some ⟨U.heap.size, 0, none⟩) m m)).setRow (w.heap.size + 1) #[.int .i64 xi, .int .i64 be, .int .i64 en, .slice (some ⟨X.heap.size, 0, none⟩) n n, .slice (some ⟨U.heap.size, 0, none⟩) m m]) (fun k k1 k2 => by
  rw [gB.block k (by rw [zA]; omega) (by simp; omega), KA.block k (by omega) (by omega)]))
 have OT := hid (show OwnT1 _ w.heap.size ((w2.setCell ⟨(w.heap.size + 1 + 1), 4, none⟩ (.slice (some ⟨U.heap.size, 0, none⟩) m m)).setRow (w.heap.size + 1) #[.int .i64 xi, .int .i64 be, .int .i64 en, .slice (some ⟨X.heap.size, 0, none⟩) n n, .slice (some ⟨U.heap.size, 0, none⟩) m m]).heap.size ⟨.slice (some ⟨X.heap.size, 0, none⟩) n n, xs, .slice (some ⟨U.heap.size, 0, none⟩) m m, ys⟩ ⟨xi, be, en, al, rs, ws, inn, ou⟩ from
  ⟨by simp only [hl]; exact xE2.mono (by omega) (by rw [zB]; omega), by simp only [hm]; exact xK2.mono (by omega) (by rw [zB]; omega), fun c hc hc' => by
   have h1 := blkL_ge xE2.txt hc
   have h2 := blkL_ge xK2.txt hc'
   omega⟩)
 have Y1 := hid q1
 have Y2 := hid y5
 clear t0 t1 t2 y5 q1 KA zA gB zB xE xK xE2 xK2 oK b bs2 zu z bs V1 V2 OE BU ZU P0
 go_wp2_with (first
  | (refine wpList_load_row rfl 68 (.tmp 3) rfl (w.heap.size + 1 + 1) rfl 68 _ (0, 0) _ Y2.out Tryz.underlying68 rfl size_dd ?_)
  | (refine wpList_store_row rfl 68 (.tmp 2) (.tmp 21) rfl (w.heap.size + 1) #[.int .i64 xi, .int .i64 be, .int .i64 en, .slice (some ⟨X.heap.size, 0, none⟩) n n, .slice (some ⟨U.heap.size, 0, none⟩) m m] rfl rfl 68 _ Y1.out ?s7 ?s8 ?s9 ?_))
 case s7 => exact size_dd
 case s8 => rfl
 case s9 => simp [Value.oneCell']
 exact bodyPost_ret (results_cell_row Tryz.results57 _ _ (w.heap.size + 1) 68 _ (0, 0) _ rfl (setRow_heap _ _ _ _ _ _ Y1.out) Tryz.underlying68 rfl size_dd) rfl ⟨X.heap.size, U.heap.size, xs, ys, rfl, OT.out, B4.out⟩
set_option maxHeartbeats 1600000 in
theorem szDeed (xi be en : Int) {ad : Option Addr} {n : Nat} (cap : Nat) {bd : Option Addr} {m : Nat} (cp : Nat) {rs : List (Im × Im)} {ws : List Im} {w : World} (h : ReadsM w ad (fl2 rs)) (hk : ReadsM w bd ws) (hl : rs.length = n) (hm : ws.length = m) (hn : n ≤ 9223372036854775807) (hmm : m ≤ 9223372036854775807) (left : Int) (h0 : 0 ≤ left) (h1 : left ≤ 1048576) :
 Calls Tryz.prog 54 #[.agg #[.int .i64 xi, .int .i64 be, .int .i64 en, .slice ad n cap, .slice bd m cp], .int .i64 left] w fun e w' => e = .returned (.int .i64 (lft13 left ((n + sumI (fl2 rs)) + (m + sumI ws)))) ∧ Below w.heap.size w w' := by
 have hB := Below.alloc1 w (.cells #[.int .i64 xi, .int .i64 be, .int .i64 en, .slice ad n cap, .slice bd m cp] 100)
 have R0 := hid (heap_alloc_new w (.cells #[.int .i64 xi, .int .i64 be, .int .i64 en, .slice ad n cap, .slice bd m cp] 100))
 have H1 := hid (h.below hB (Nat.le_refl _))
 have H2 := hid (hk.below hB (Nat.le_refl _))
 have HB := hid hB
 have HZ := hid (alloc_size w (.cells #[.int .i64 xi, .int .i64 be, .int .i64 en, .slice ad n cap, .slice bd m cp] 100))
 have HL2 := hid (show (fl2 rs).length = n * 2 by rw [fl2_len, hl])
 obtain ⟨M, hM⟩ : ∃ M : Int, lft13 left (n + sumI (fl2 rs)) = M := ⟨_, rfl⟩
 have hM0 : (M = -1 ∧ left < (n + sumI (fl2 rs) : Nat)) ∨ (0 ≤ M ∧ M ≤ 1048576 ∧ M = left - (n + sumI (fl2 rs) : Nat)) := by
  unfold lft13 at hM
  by_cases hh : left < (n + sumI (fl2 rs) : Nat)
  · rw [if_pos hh] at hM; exact .inl ⟨hM.symm, hh⟩
  · rw [if_neg hh] at hM; exact .inr ⟨by omega, by omega, hM.symm⟩
 have HM := hid hM
 have HM0 := hid hM0
 clear hM hM0 hB h hk
 go_enter Tryz.func54, Tryz.ntmps54
 go_wp2_with fail
 refine (szSpanS cap H1.out HL2.out hn left h0 h1).mono ?_
 rintro e w1 ⟨rfl, b⟩
 rw [HM.out]
 have hz := HZ.out
 have c2 : w1.cell? ⟨w.heap.size, 4, none⟩ = some (.slice bd m cp) := by rw [cell_of_row _ _ _ _ _ _ ((b.block w.heap.size (by omega)).trans R0.out)]; rfl
 replace HB := hid (HB.out.trans (b.mono HB.out.size))
 replace H2 := hid (H2.out.below b (Nat.le_refl _))
 clear b hz
 rcases HM0.out with ⟨rfl, hq⟩ | ⟨hq0, hq1, hq2⟩
 · go_wp2_with fail
   go_ret
   exact ⟨by unfold lft13; rw [if_pos (by omega)]; rfl, HB.out⟩
 · have hq3 : ¬ M < 0 := by omega
   have HQ2 := hid hq2
   clear hq2
   go_wp2_with fail
   refine (szItemS cp H2.out hm hmm M hq0 hq1).mono ?_
   rintro e w2 ⟨rfl, b⟩
   replace HB := hid (HB.out.trans (b.mono HB.out.size))
   obtain ⟨Y, hY⟩ : ∃ Y : Int, lft13 M (m + sumI ws) = Y := ⟨_, rfl⟩
   rw [hY]
   have HG := hid (show lft13 left ((n + sumI (fl2 rs)) + (m + sumI ws)) = Y by
    rw [← hY]
    have := HQ2.out
    unfold lft13
    by_cases hh : M < ((m + sumI ws : Nat) : Int)
    · rw [if_pos (by omega), if_pos hh]
    · rw [if_neg (by omega), if_neg hh]; omega)
   have hY0 : Y < 0 → Y = -1 := by unfold lft13 at hY; split at hY <;> omega
   have HY0 := hid hY0
   clear hY hY0 c2 b
   by_cases hq : Y < 0
   · go_wp2_with fail
     go_ret
     exact ⟨by rw [HG.out, HY0.out hq]; rfl, HB.out⟩
   · go_wp2_with fail
     go_ret
     exact ⟨by rw [HG.out]; rfl, HB.out⟩
set_option maxHeartbeats 3200000 in
theorem eqDeed (xi be en : Int) {ad ad' : Option Addr} {n : Nat} (cap cap' : Nat) {bd bd' : Option Addr} {m : Nat} (cp cp' : Nat) {rs rs' : List (Im × Im)} {ws ws' : List Im} {w : World} (h : ReadsM w ad (fl2 rs)) (h' : ReadsM w ad' (fl2 rs')) (hk : ReadsM w bd ws) (hk' : ReadsM w bd' ws') (hS : SameM (fl2 rs) (fl2 rs')) (hW : SameM ws ws') (hl : rs.length = n) (hm : ws.length = m) (hn : n ≤ 2097152) (hs : sumI (fl2 rs) ≤ 2097152) (hmm : m ≤ 2097152) (hs2 : sumI ws ≤ 2097152) :
 Calls Tryz.prog 58 #[.agg #[.int .i64 xi, .int .i64 be, .int .i64 en, .slice ad n cap, .slice bd m cp], .agg #[.int .i64 xi, .int .i64 be, .int .i64 en, .slice ad' n cap', .slice bd' m cp']] w fun e w' => e = .returned (.bool true) ∧ Below w.heap.size w w' := by
 have hB := two w (.cells #[.int .i64 xi, .int .i64 be, .int .i64 en, .slice ad n cap, .slice bd m cp] 68) (.cells #[.int .i64 xi, .int .i64 be, .int .i64 en, .slice ad' n cap', .slice bd' m cp'] 68)
 obtain ⟨R1, R2, z⟩ := two_rows13 w (.cells #[.int .i64 xi, .int .i64 be, .int .i64 en, .slice ad n cap, .slice bd m cp] 68) (.cells #[.int .i64 xi, .int .i64 be, .int .i64 en, .slice ad' n cap', .slice bd' m cp'] 68)
 have H1 := hid (h.below hB (Nat.le_refl _))
 have H2 := hid (h'.below hB (Nat.le_refl _))
 have K1 := hid (hk.below hB (Nat.le_refl _))
 have K2 := hid (hk'.below hB (Nat.le_refl _))
 have HB := hid hB
 have HR1 := hid R1
 have HR2 := hid R2
 have HZ := hid z
 have HL2 := hid (show (fl2 rs).length = n * 2 by rw [fl2_len, hl])
 have q0 : (xi != xi) = false := by simp
 have q1 : (be != be) = false := by simp
 have q2 : (en != en) = false := by simp
 clear hB R1 R2 z h h' hk hk'
 go_enter Tryz.func58, Tryz.ntmps58
 go_wp2_with fail
 refine (eqSpanS cap cap' H1.out H2.out hS HL2.out hn hs).mono ?_
 rintro e w2 ⟨rfl, b⟩
 have hz := HZ.out
 have t1 := (b.block w.heap.size (by omega)).trans HR1.out
 have t2 := (b.block (w.heap.size + 1) (by omega)).trans HR2.out
 have c1 : w2.cell? ⟨w.heap.size, 4, none⟩ = some (.slice bd m cp) := by rw [cell_of_row _ _ _ _ _ _ t1]; rfl
 have c2 : w2.cell? ⟨w.heap.size + 1, 4, none⟩ = some (.slice bd' m cp') := by rw [cell_of_row _ _ _ _ _ _ t2]; rfl
 replace HB := hid (HB.out.trans (b.mono HB.out.size))
 replace K1 := hid (K1.out.below b (Nat.le_refl _))
 replace K2 := hid (K2.out.below b (Nat.le_refl _))
 have HT1 := hid t1
 have HT2 := hid t2
 have HZ2 := hid (show w.heap.size + 2 ≤ w2.heap.size by have := b.size; omega)
 clear b hz t1 t2
 go_wp2_with fail
 refine (eqItemS cp cp' K1.out K2.out hW hm hmm hs2).mono ?_
 rintro e w3 ⟨rfl, b⟩
 have hz := HZ2.out
 have t1 := (b.block w.heap.size (by omega)).trans HT1.out
 have t2 := (b.block (w.heap.size + 1) (by omega)).trans HT2.out
 replace HB := hid (HB.out.trans (b.mono HB.out.size))
 clear b c1 c2 t1 t2 hz
 go_wp2_with fail
 go_ret
 exact ⟨rfl, HB.out⟩
end Go.Proofs.YtnbpblephmjfnaaGreat