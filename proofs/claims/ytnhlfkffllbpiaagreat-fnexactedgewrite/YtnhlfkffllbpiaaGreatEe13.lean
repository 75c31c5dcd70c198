/- The contracts of the laws' toTrack, szTrack, eqTrack. Conditions: tracks of at most 2^21 bytes, reads and writes together. -/
import Derived.Test.YtnhlfkffllbpiaaGreatEd13
namespace Go.Proofs.YtnhlfkffllbpiaaGreat
open Go.RowKit
set_option maxRecDepth 100000
theorem Tryz.infoTk : (Tryz.prog.info? 52).map (fun i => (i.zero, i.size, i.bytes)) = some (some (.agg #[.int .i64 0, .int .i64 0, .int .i64 0, .bool false, .slice none 0 0, .slice none 0 0, .bool false, .bool false]), 8, 88) := by kernel_rfl
theorem size_tk : (Tryz.prog.info? 52).map (·.size) = some 8 := by kernel_rfl
def szT (t : Tk) : Nat := (t.rs.length + sumI (fl2 t.rs)) + (t.ws.length + sumI t.ws)
theorem grown_set13 (w : World) (b o : Nat) (v : Value) : w.grownBy (w.setCell ⟨b, o, none⟩ v) (some b) := ⟨rfl, rfl, rfl, by rw [set_size]; exact Nat.le_refl _, fun k _ hk => heap_set_ne w b o k v (fun e => hk (by rw [e]))⟩
theorem blkL_ge {w : World} {lo hi : Nat} {xs : List Value} {ss : List (List Int)} (h : Bands w lo hi xs ss) {b : Nat} (hb : blkL xs b) : lo ≤ b ∧ b < hi := by
 obtain ⟨i, hi'⟩ := blk_txt hb
 exact h.inr i b hi'
set_option maxHeartbeats 6400000 in
theorem toTrack (xi be en : Int) (al inn ou : Bool) {ad : Option Addr} {n : Nat} (cap : Nat) {bd : Option Addr} {m : Nat} (cp : Nat) {rs : List (Im × Im)} {ws : List Im} {w : World} (h : ReadsM w ad (fl2 rs)) (hk : ReadsM w bd ws) (hl : rs.length = n) (hm : ws.length = m) (hn : n ≤ 2097152) (hs : sumI (fl2 rs) ≤ 2097152) (hmm : m ≤ 2097152) (hs2 : sumI ws ≤ 2097152) :
 Calls Tryz.prog 25 #[.agg #[.int .i64 xi, .int .i64 be, .int .i64 en, .bool al, .slice ad n cap, .slice bd m cp, .bool inn, .bool ou]] w fun e w' => ∃ g1 g2 X Y, e = .returned (.agg #[.int .i64 xi, .int .i64 be, .int .i64 en, .bool al, .slice (some ⟨g1, 0, none⟩) n n, .slice (some ⟨g2, 0, none⟩) m m, .bool inn, .bool ou]) ∧ OwnT1 w' w.heap.size w'.heap.size ⟨.slice (some ⟨g1, 0, none⟩) n n, X, .slice (some ⟨g2, 0, none⟩) m m, Y⟩ ⟨xi, be, en, al, rs, ws, inn, ou⟩ ∧ Below w.heap.size w w' := by
 obtain ⟨z3, r1, r2, b3⟩ := three w (.cells #[.int .i64 xi, .int .i64 be, .int .i64 en, .bool al, .slice ad n cap, .slice bd m cp, .bool inn, .bool ou] 44) (.cells #[.int .i64 0, .int .i64 0, .int .i64 0, .bool false, .slice none 0 0, .slice none 0 0, .bool false, .bool false] 52) (.cells #[.int .i64 xi, .int .i64 be, .int .i64 en, .bool al, .slice none 0 0, .slice none 0 0, .bool false, .bool false] 52)
 have r0 := three_first w (.cells #[.int .i64 xi, .int .i64 be, .int .i64 en, .bool al, .slice ad n cap, .slice bd m cp, .bool inn, .bool ou] 44) (.cells #[.int .i64 0, .int .i64 0, .int .i64 0, .bool false, .slice none 0 0, .slice none 0 0, .bool false, .bool false] 52) (.cells #[.int .i64 xi, .int .i64 be, .int .i64 en, .bool al, .slice none 0 0, .slice none 0 0, .bool false, .bool false] 52)
 have H0 := hid r0
 have H1 := hid r1
 have H2 := hid r2
 have HB := hid b3
 have HZ := hid z3
 have HE := hid (h.below b3 (Nat.le_refl _))
 have HK0 := hid hk
 have HL2 := hid (show (fl2 rs).length = n * 2 by rw [fl2_len, hl])
 clear r0 r1 r2 b3 z3 h hk
 go_enter Tryz.func25, Tryz.ntmps25
 go_wp2_with fail
 generalize (((w.alloc (.cells #[.int .i64 xi, .int .i64 be, .int .i64 en, .bool al, .slice ad n cap, .slice bd m cp, .bool inn, .bool ou] 44)).alloc (.cells #[.int .i64 0, .int .i64 0, .int .i64 0, .bool false, .slice none 0 0, .slice none 0 0, .bool false, .bool false] 52)).alloc (.cells #[.int .i64 xi, .int .i64 be, .int .i64 en, .bool al, .slice none 0 0, .slice none 0 0, .bool false, .bool false] 52)) = X at *
 refine (toSpanS cap HE.out HL2.out hn hs).mono ?_
 rintro e w1 ⟨rfl, oE, b⟩
 have z := HZ.out
 have bs := b.size
 have t0 := (b.block w.heap.size (by omega)).trans H0.out
 have t1 := (b.block (w.heap.size + 1) (by omega)).trans H1.out
 have t2 := (b.block (w.heap.size + 1 + 1) (by omega)).trans H2.out
 have d1 : w1.cell? ⟨(w.heap.size + 1 + 1), 4, none⟩ = some (.slice none 0 0) := by rw [cell_of_row _ _ _ _ _ _ t2]; rfl
 have f1 : w1.frozen? ⟨(w.heap.size + 1 + 1), 4, none⟩ = false := frozen_of_row _ _ _ _ _ t2
 have v2 := heap_setCell_same w1 (w.heap.size + 1 + 1) 4 _ 52 (.slice (some ⟨X.heap.size, 0, none⟩) n n) t2
 have v1 := (heap_setCell_other w1 ⟨(w.heap.size + 1 + 1), 4, none⟩ (w.heap.size + 1) (.slice (some ⟨X.heap.size, 0, none⟩) n n) (by simp)).trans t1
 have v0 := (heap_setCell_other w1 ⟨(w.heap.size + 1 + 1), 4, none⟩ w.heap.size (.slice (some ⟨X.heap.size, 0, none⟩) n n) (by simp; omega)).trans t0
 have c2 : (w1.setCell ⟨(w.heap.size + 1 + 1), 4, none⟩ (.slice (some ⟨X.heap.size, 0, none⟩) n n)).cell? ⟨w.heap.size, 5, none⟩ = some (.slice bd m cp) := by rw [cell_of_row _ _ _ _ _ _ v0]; rfl
 have c2' : w1.cell? ⟨w.heap.size, 5, none⟩ = some (.slice bd m cp) := by rw [cell_of_row _ _ _ _ _ _ t0]; rfl
 have bU := (HB.out.trans (b.mono (by omega))).setCell (p := ⟨(w.heap.size + 1 + 1), 4, none⟩) (by simp; omega) (.slice (some ⟨X.heap.size, 0, none⟩) n n)
 have gU := grown_set13 w1 (w.heap.size + 1 + 1) 4 (.slice (some ⟨X.heap.size, 0, none⟩) n n)
 have zU : (w1.setCell ⟨(w.heap.size + 1 + 1), 4, none⟩ (.slice (some ⟨X.heap.size, 0, none⟩) n n)).heap.size = w1.heap.size := set_size _ _ _
 have OE := hid (show OwnM 78 8 (w1.setCell ⟨(w.heap.size + 1 + 1), 4, none⟩ (.slice (some ⟨X.heap.size, 0, none⟩) n n)) X.heap.size w1.heap.size (.slice (some ⟨X.heap.size, 0, none⟩) n n) n (fl2 rs) from oE.agree (fun k k1 k2 => gU.block k k2 (by simp; omega)))
 have HK1 := hid (HK0.out.below bU (Nat.le_refl _))
 have V0 := hid v0
 have V1 := hid v1
 have V2 := hid v2
 have BU := hid bU
 have ZU := hid zU
 have ZB := hid bs
 clear t0 t1 t2 v0 v1 v2 bU gU zU oE b H0 H1 H2 HB z bs
 go_wp2_with fail
 clear d1 f1 c2 c2'
 generalize w1.setCell ⟨(w.heap.size + 1 + 1), 4, none⟩ (.slice (some ⟨X.heap.size, 0, none⟩) n n) = U at *
 refine (toItemS cp HK1.out hm hmm hs2).mono ?_
 rintro e w2 ⟨rfl, oK, b⟩
 have bs2 := b.size
 have zu := ZU.out
 have z := HZ.out
 have bs := ZB.out
 have t0 := (b.block w.heap.size (by omega)).trans V0.out
 have t1 := (b.block (w.heap.size + 1) (by omega)).trans V1.out
 have t2 := (b.block (w.heap.size + 1 + 1) (by omega)).trans V2.out
 have P0 := hid (And.intro t0 (And.intro t1 t2))
 have d5 : w2.cell? ⟨(w.heap.size + 1 + 1), 5, none⟩ = some (.slice none 0 0) := by rw [cell_of_row _ _ _ _ _ _ t2]; rfl
 have f5 : w2.frozen? ⟨(w.heap.size + 1 + 1), 5, none⟩ = false := frozen_of_row _ _ _ _ _ t2
 have d6 : w2.cell? ⟨(w.heap.size + 1 + 1), 6, none⟩ = some (.bool false) := by rw [cell_of_row _ _ _ _ _ _ t2]; rfl
 have f6 : w2.frozen? ⟨(w.heap.size + 1 + 1), 6, none⟩ = false := frozen_of_row _ _ _ _ _ t2
 have d7 : w2.cell? ⟨(w.heap.size + 1 + 1), 7, none⟩ = some (.bool false) := by rw [cell_of_row _ _ _ _ _ _ t2]; rfl
 have f7 : w2.frozen? ⟨(w.heap.size + 1 + 1), 7, none⟩ = false := frozen_of_row _ _ _ _ _ t2
 have e6 : w2.cell? ⟨w.heap.size, 6, none⟩ = some (.bool inn) := by rw [cell_of_row _ _ _ _ _ _ t0]; rfl
 have e7 : w2.cell? ⟨w.heap.size, 7, none⟩ = some (.bool ou) := by rw [cell_of_row _ _ _ _ _ _ t0]; rfl
 have y5 := heap_setCell_same w2 (w.heap.size + 1 + 1) 5 _ 52 (.slice (some ⟨U.heap.size, 0, none⟩) m m) t2
 have y6 := heap_setCell_same (w2.setCell ⟨(w.heap.size + 1 + 1), 5, none⟩ (.slice (some ⟨U.heap.size, 0, none⟩) m m)) (w.heap.size + 1 + 1) 6 _ 52 (.bool inn) y5
 have y7 := heap_setCell_same ((w2.setCell ⟨(w.heap.size + 1 + 1), 5, none⟩ (.slice (some ⟨U.heap.size, 0, none⟩) m m)).setCell ⟨(w.heap.size + 1 + 1), 6, none⟩ (.bool inn)) (w.heap.size + 1 + 1) 7 _ 52 (.bool ou) y6
 have q1 := (heap_setCell_other ((w2.setCell ⟨(w.heap.size + 1 + 1), 5, none⟩ (.slice (some ⟨U.heap.size, 0, none⟩) m m)).setCell ⟨(w.heap.size + 1 + 1), 6, none⟩ (.bool inn)) ⟨(w.heap.size + 1 + 1), 7, none⟩ (w.heap.size + 1) (.bool ou) (by simp)).trans ((heap_setCell_other (w2.setCell ⟨(w.heap.size + 1 + 1), 5, none⟩ (.slice (some ⟨U.heap.size, 0, none⟩) m m)) ⟨(w.heap.size + 1 + 1), 6, none⟩ (w.heap.size + 1) (.bool inn) (by simp)).trans ((heap_setCell_other w2 ⟨(w.heap.size + 1 + 1), 5, none⟩ (w.heap.size + 1) (.slice (some ⟨U.heap.size, 0, none⟩) m m) (by simp)).trans t1))
 have hne : w.heap.size ≠ (w.heap.size + 1 + 1) := by omega
 have KA : Keeps (fun k => k = (w.heap.size + 1 + 1)) w2 (((w2.setCell ⟨(w.heap.size + 1 + 1), 5, none⟩ (.slice (some ⟨U.heap.size, 0, none⟩) m m)).setCell ⟨(w.heap.size + 1 + 1), 6, none⟩ (.bool inn)).setCell ⟨(w.heap.size + 1 + 1), 7, none⟩ (.bool ou)) := ((Keeps.set (X := fun k => k = (w.heap.size + 1 + 1)) w2 (p := ⟨(w.heap.size + 1 + 1), 5, none⟩) rfl _).trans (Keeps.set (X := fun k => k = (w.heap.size + 1 + 1)) _ (p := ⟨(w.heap.size + 1 + 1), 6, none⟩) rfl _)).trans (Keeps.set (X := fun k => k = (w.heap.size + 1 + 1)) _ (p := ⟨(w.heap.size + 1 + 1), 7, none⟩) rfl _)
 have zA : (((w2.setCell ⟨(w.heap.size + 1 + 1), 5, none⟩ (.slice (some ⟨U.heap.size, 0, none⟩) m m)).setCell ⟨(w.heap.size + 1 + 1), 6, none⟩ (.bool inn)).setCell ⟨(w.heap.size + 1 + 1), 7, none⟩ (.bool ou)).heap.size = w2.heap.size := by rw [set_size, set_size, set_size]
 have gB := row_grown13 (((w2.setCell ⟨(w.heap.size + 1 + 1), 5, none⟩ (.slice (some ⟨U.heap.size, 0, none⟩) m m)).setCell ⟨(w.heap.size + 1 + 1), 6, none⟩ (.bool inn)).setCell ⟨(w.heap.size + 1 + 1), 7, none⟩ (.bool ou)) (w.heap.size + 1) #[.int .i64 xi, .int .i64 be, .int .i64 en, .bool al, .slice (some ⟨X.heap.size, 0, none⟩) n n, .slice (some ⟨U.heap.size, 0, none⟩) m m, .bool inn, .bool ou]
 have zB : ((((w2.setCell ⟨(w.heap.size + 1 + 1), 5, none⟩ (.slice (some ⟨U.heap.size, 0, none⟩) m m)).setCell ⟨(w.heap.size + 1 + 1), 6, none⟩ (.bool inn)).setCell ⟨(w.heap.size + 1 + 1), 7, none⟩ (.bool ou)).setRow (w.heap.size + 1) #[.int .i64 xi, .int .i64 be, .int .i64 en, .bool al, .slice (some ⟨X.heap.size, 0, none⟩) n n, .slice (some ⟨U.heap.size, 0, none⟩) m m, .bool inn, .bool ou]).heap.size = w2.heap.size := by rw [← zA]; simp
 have B4 := hid (below_setRow ((((BU.out.trans (b.mono (by omega))).setCell (p := ⟨(w.heap.size + 1 + 1), 5, none⟩) (by simp; omega) (.slice (some ⟨U.heap.size, 0, none⟩) m m)).setCell (p := ⟨(w.heap.size + 1 + 1), 6, none⟩) (by simp; omega) (.bool inn)).setCell (p := ⟨(w.heap.size + 1 + 1), 7, none⟩) (by simp; omega) (.bool ou)) (show w.heap.size ≤ (w.heap.size + 1) by omega) #[.int .i64 xi, .int .i64 be, .int .i64 en, .bool al, .slice (some ⟨X.heap.size, 0, none⟩) n n, .slice (some ⟨U.heap.size, 0, none⟩) m m, .bool inn, .bool ou])
 obtain ⟨xs, xE⟩ := OE.out.x
 obtain ⟨ys, xK⟩ := oK.x
 have xE2 := (xE.agree (w' := (((w2.setCell ⟨(w.heap.size + 1 + 1), 5, none⟩ (.slice (some ⟨U.heap.size, 0, none⟩) m m)).setCell ⟨(w.heap.size + 1 + 1), 6, none⟩ (.bool inn)).setCell ⟨(w.heap.size + 1 + 1), 7, none⟩ (.bool ou)).setRow (w.heap.size + 1) #[.int .i64 xi, .int .i64 be, .int .i64 en, .bool al, .slice (some ⟨X.heap.size, 0, none⟩) n n, .slice (some ⟨U.heap.size, 0, none⟩) m m, .bool inn, .bool ou]) (fun k k1 k2 => by
  rw [gB.block k (by rw [zA]; omega) (by simp; omega), KA.block k (by omega) (by omega), b.block k (by omega)]))
 have xK2 := (xK.agree (w' := (((w2.setCell ⟨(w.heap.size + 1 + 1), 5, none⟩ (.slice (some ⟨U.heap.size, 0, none⟩) m m)).setCell ⟨(w.heap.size + 1 + 1), 6, none⟩ (.bool inn)).setCell ⟨(w.heap.size + 1 + 1), 7, none⟩ (.bool ou)).setRow (w.heap.size + 1) #[.int .i64 xi, .int .i64 be, .int .i64 en, .bool al, .slice (some ⟨X.heap.size, 0, none⟩) n n, .slice (some ⟨U.heap.size, 0, none⟩) m m, .bool inn, .bool ou]) (fun k k1 k2 => by
  rw [gB.block k (by rw [zA]; omega) (by simp; omega), KA.block k (by omega) (by omega)]))
 have OT := hid (show OwnT1 _ w.heap.size ((((w2.setCell ⟨(w.heap.size + 1 + 1), 5, none⟩ (.slice (some ⟨U.heap.size, 0, none⟩) m m)).setCell ⟨(w.heap.size + 1 + 1), 6, none⟩ (.bool inn)).setCell ⟨(w.heap.size + 1 + 1), 7, none⟩ (.bool ou)).setRow (w.heap.size + 1) #[.int .i64 xi, .int .i64 be, .int .i64 en, .bool al, .slice (some ⟨X.heap.size, 0, none⟩) n n, .slice (some ⟨U.heap.size, 0, none⟩) m m, .bool inn, .bool ou]).heap.size ⟨.slice (some ⟨X.heap.size, 0, none⟩) n n, xs, .slice (some ⟨U.heap.size, 0, none⟩) m m, ys⟩ ⟨xi, be, en, al, rs, ws, inn, ou⟩ from
  ⟨by simp only [hl]; exact xE2.mono (by omega) (by rw [zB]; omega), by simp only [hm]; exact xK2.mono (by omega) (by rw [zB]; omega), fun c hc hc' => by
   have h1 := blkL_ge xE2.txt hc
   have h2 := blkL_ge xK2.txt hc'
   omega⟩)
 have Y1 := hid q1
 have Y2 := hid y7
 clear t0 t1 t2 y5 y6 y7 q1 KA zA gB zB xE xK xE2 xK2 oK b bs2 zu z bs V1 V2 OE BU ZU P0
 go_wp2_with (first
  | (refine wpList_load_row rfl 52 (.tmp 3) rfl (w.heap.size + 1 + 1) rfl 52 _ (0, 0) _ Y2.out Tryz.underlying52 rfl size_tk ?_)
  | (refine wpList_store_row rfl 52 (.tmp 2) (.tmp 30) rfl (w.heap.size + 1) #[.int .i64 xi, .int .i64 be, .int .i64 en, .bool al, .slice (some ⟨X.heap.size, 0, none⟩) n n, .slice (some ⟨U.heap.size, 0, none⟩) m m, .bool inn, .bool ou] rfl rfl 52 _ Y1.out ?s7 ?s8 ?s9 ?_))
 case s7 => exact size_tk
 case s8 => rfl
 case s9 => simp [Value.oneCell']
 exact bodyPost_ret (results_cell_row Tryz.results25 _ _ (w.heap.size + 1) 52 _ (0, 0) _ rfl (setRow_heap _ _ _ _ _ _ Y1.out) Tryz.underlying52 rfl size_tk) rfl ⟨X.heap.size, U.heap.size, xs, ys, rfl, OT.out, B4.out⟩
set_option maxHeartbeats 1600000 in
theorem szTrack (xi be en : Int) (al inn ou : Bool) {ad : Option Addr} {n : Nat} (cap : Nat) {bd : Option Addr} {m : Nat} (cp : Nat) {rs : List (Im × Im)} {ws : List Im} {w : World} (h : ReadsM w ad (fl2 rs)) (hk : ReadsM w bd ws) (hl : rs.length = n) (hm : ws.length = m) (hn : n ≤ 9223372036854775807) (hmm : m ≤ 9223372036854775807) (left : Int) (h0 : 0 ≤ left) (h1 : left ≤ 1048576) :
 Calls Tryz.prog 15 #[.agg #[.int .i64 xi, .int .i64 be, .int .i64 en, .bool al, .slice ad n cap, .slice bd m cp, .bool inn, .bool ou], .int .i64 left] w fun e w' => e = .returned (.int .i64 (lft13 left ((n + sumI (fl2 rs)) + (m + sumI ws)))) ∧ Below w.heap.size w w' := by
 have hB := Below.alloc1 w (.cells #[.int .i64 xi, .int .i64 be, .int .i64 en, .bool al, .slice ad n cap, .slice bd m cp, .bool inn, .bool ou] 44)
 have R0 := hid (heap_alloc_new w (.cells #[.int .i64 xi, .int .i64 be, .int .i64 en, .bool al, .slice ad n cap, .slice bd m cp, .bool inn, .bool ou] 44))
 have H1 := hid (h.below hB (Nat.le_refl _))
 have H2 := hid (hk.below hB (Nat.le_refl _))
 have HB := hid hB
 have HZ := hid (alloc_size w (.cells #[.int .i64 xi, .int .i64 be, .int .i64 en, .bool al, .slice ad n cap, .slice bd m cp, .bool inn, .bool ou] 44))
 have HL2 := hid (show (fl2 rs).length = n * 2 by rw [fl2_len, hl])
 obtain ⟨M, hM⟩ : ∃ M : Int, lft13 left (n + sumI (fl2 rs)) = M := ⟨_, rfl⟩
 have hM0 : (M = -1 ∧ left < (n + sumI (fl2 rs) : Nat)) ∨ (0 ≤ M ∧ M ≤ 1048576 ∧ M = left - (n + sumI (fl2 rs) : Nat)) := by
  unfold lft13 at hM
  by_cases hh : left < (n + sumI (fl2 rs) : Nat)
  · rw [if_pos hh] at hM; exact .inl ⟨hM.symm, hh⟩
  · rw [if_neg hh] at hM; exact .inr ⟨by omega, by omega, hM.symm⟩
 have HM := hid hM
 have HM0 := hid hM0
 clear hM hM0 hB h hk
 go_enter Tryz.func15, Tryz.ntmps15
 go_wp2_with fail
 refine (szSpanS cap H1.out HL2.out hn left h0 h1).mono ?_
 rintro e w1 ⟨rfl, b⟩
 rw [HM.out]
 have hz := HZ.out
 have c2 : w1.cell? ⟨w.heap.size, 5, none⟩ = some (.slice bd m cp) := by rw [cell_of_row _ _ _ _ _ _ ((b.block w.heap.size (by omega)).trans R0.out)]; rfl
 replace HB := hid (HB.out.trans (b.mono HB.out.size))
 replace H2 := hid (H2.out.below b (Nat.le_refl _))
 clear b hz
 rcases HM0.out with ⟨rfl, hq⟩ | ⟨hq0, hq1, hq2⟩
 · go_wp2_with fail
   go_ret
   exact ⟨by unfold lft13; rw [if_pos (by omega)]; rfl, HB.out⟩
 · have hq3 : ¬ M < 0 := by omega
   have HQ2 := hid hq2
   clear hq2
   go_wp2_with fail
   refine (szItemS cp H2.out hm hmm M hq0 hq1).mono ?_
   rintro e w2 ⟨rfl, b⟩
   replace HB := hid (HB.out.trans (b.mono HB.out.size))
   obtain ⟨Y, hY⟩ : ∃ Y : Int, lft13 M (m + sumI ws) = Y := ⟨_, rfl⟩
   rw [hY]
   have HG := hid (show lft13 left ((n + sumI (fl2 rs)) + (m + sumI ws)) = Y by
    rw [← hY]
    have := HQ2.out
    unfold lft13
    by_cases hh : M < ((m + sumI ws : Nat) : Int)
    · rw [if_pos (by omega), if_pos hh]
    · rw [if_neg (by omega), if_neg hh]; omega)
   have hY0 : Y < 0 → Y = -1 := by unfold lft13 at hY; split at hY <;> omega
   have HY0 := hid hY0
   clear hY hY0 c2 b
   by_cases hq : Y < 0
   · go_wp2_with fail
     go_ret
     exact ⟨by rw [HG.out, HY0.out hq]; rfl, HB.out⟩
   · go_wp2_with fail
     go_ret
     exact ⟨by rw [HG.out]; rfl, HB.out⟩
set_option maxHeartbeats 3200000 in
theorem eqTrack (xi be en : Int) (al inn ou : Bool) {ad ad' : Option Addr} {n : Nat} (cap cap' : Nat) {bd bd' : Option Addr} {m : Nat} (cp cp' : Nat) {rs rs' : List (Im × Im)} {ws ws' : List Im} {w : World} (h : ReadsM w ad (fl2 rs)) (h' : ReadsM w ad' (fl2 rs')) (hk : ReadsM w bd ws) (hk' : ReadsM w bd' ws') (hS : SameM (fl2 rs) (fl2 rs')) (hW : SameM ws ws') (hl : rs.length = n) (hm : ws.length = m) (hn : n ≤ 2097152) (hs : sumI (fl2 rs) ≤ 2097152) (hmm : m ≤ 2097152) (hs2 : sumI ws ≤ 2097152) :
 Calls Tryz.prog 34 #[.agg #[.int .i64 xi, .int .i64 be, .int .i64 en, .bool al, .slice ad n cap, .slice bd m cp, .bool inn, .bool ou], .agg #[.int .i64 xi, .int .i64 be, .int .i64 en, .bool al, .slice ad' n cap', .slice bd' m cp', .bool inn, .bool ou]] w fun e w' => e = .returned (.bool true) ∧ Below w.heap.size w w' := by
 have hB := two w (.cells #[.int .i64 xi, .int .i64 be, .int .i64 en, .bool al, .slice ad n cap, .slice bd m cp, .bool inn, .bool ou] 52) (.cells #[.int .i64 xi, .int .i64 be, .int .i64 en, .bool al, .slice ad' n cap', .slice bd' m cp', .bool inn, .bool ou] 52)
 obtain ⟨R1, R2, z⟩ := two_rows13 w (.cells #[.int .i64 xi, .int .i64 be, .int .i64 en, .bool al, .slice ad n cap, .slice bd m cp, .bool inn, .bool ou] 52) (.cells #[.int .i64 xi, .int .i64 be, .int .i64 en, .bool al, .slice ad' n cap', .slice bd' m cp', .bool inn, .bool ou] 52)
 have H1 := hid (h.below hB (Nat.le_refl _))
 have H2 := hid (h'.below hB (Nat.le_refl _))
 have K1 := hid (hk.below hB (Nat.le_refl _))
 have K2 := hid (hk'.below hB (Nat.le_refl _))
 have HB := hid hB
 have HR1 := hid R1
 have HR2 := hid R2
 have HZ := hid z
 have HL2 := hid (show (fl2 rs).length = n * 2 by rw [fl2_len, hl])
 have q0 : (xi != xi) = false := by simp
 have q1 : (be != be) = false := by simp
 have q2 : (en != en) = false := by simp
 have q3 : (al != al) = false := by simp
 have q6 : (inn != inn) = false := by simp
 have q7 : (ou != ou) = false := by simp
 clear hB R1 R2 z h h' hk hk'
 go_enter Tryz.func34, Tryz.ntmps34
 go_wp2_with fail
 refine (eqSpanS cap cap' H1.out H2.out hS HL2.out hn hs).mono ?_
 rintro e w2 ⟨rfl, b⟩
 have hz := HZ.out
 have t1 := (b.block w.heap.size (by omega)).trans HR1.out
 have t2 := (b.block (w.heap.size + 1) (by omega)).trans HR2.out
 have c1 : w2.cell? ⟨w.heap.size, 5, none⟩ = some (.slice bd m cp) := by rw [cell_of_row _ _ _ _ _ _ t1]; rfl
 have c2 : w2.cell? ⟨w.heap.size + 1, 5, none⟩ = some (.slice bd' m cp') := by rw [cell_of_row _ _ _ _ _ _ t2]; rfl
 replace HB := hid (HB.out.trans (b.mono HB.out.size))
 replace K1 := hid (K1.out.below b (Nat.le_refl _))
 replace K2 := hid (K2.out.below b (Nat.le_refl _))
 have HT1 := hid t1
 have HT2 := hid t2
 have HZ2 := hid (show w.heap.size + 2 ≤ w2.heap.size by have := b.size; omega)
 clear b hz t1 t2
 go_wp2_with fail
 refine (eqItemS cp cp' K1.out K2.out hW hm hmm hs2).mono ?_
 rintro e w3 ⟨rfl, b⟩
 have hz := HZ2.out
 have t1 := (b.block w.heap.size (by omega)).trans HT1.out
 have t2 := (b.block (w.heap.size + 1) (by omega)).trans HT2.out
 have c6 : w3.cell? ⟨w.heap.size, 6, none⟩ = some (.bool inn) := by rw [cell_of_row _ _ _ _ _ _ t1]; rfl
 have c7 : w3.cell? ⟨w.heap.size, 7, none⟩ = some (.bool ou) := by rw [cell_of_row _ _ _ _ _ _ t1]; rfl
 have e6 : w3.cell? ⟨w.heap.size + 1, 6, none⟩ = some (.bool inn) := by rw [cell_of_row _ _ _ _ _ _ t2]; rfl
 have e7 : w3.cell? ⟨w.heap.size + 1, 7, none⟩ = some (.bool ou) := by rw [cell_of_row _ _ _ _ _ _ t2]; rfl
 replace HB := hid (HB.out.trans (b.mono HB.out.size))
 clear b c1 c2 t1 t2 hz
 go_wp2_with fail
 go_ret
 exact ⟨rfl, HB.out⟩
end Go.Proofs.YtnhlfkffllbpiaaGreat