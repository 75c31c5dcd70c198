/- The specification's ValueRead, by kinds. -/
import Derived.Test.YtkfhfjghfadofaaGreatMgb
import Derived.Deep.RegionHeld3
namespace Go.Proofs.YtkfhfjghfadofaaGreat
open Go.RowKit
set_option maxRecDepth 100000 in
set_option maxHeartbeats 3200000 in
theorem spec_ValueRead_1n {b off n : Nat} (cap : Nat) (hcap : n ≤ cap) (hc2 : 2 ≤ cap) {ts : List Int} {w : World} (h1 : 1 ≤ n) (hm : n ≤ 41) (h : Reads w (some ⟨b, off, none⟩) n (1 :: ts)) (E : valB 1 ((low ts : Int) - 9223372036854775808) 0 0 [] ≠ 1 :: ts) :
 Calls Tryz.prog 100 #[.slice (some ⟨b, off, none⟩) n cap] w fun e w' => e = .returned (.tuple #[.agg #[.int .i64 0, .int .i64 0, .float .f64 0, .slice none 0 0], .bool false]) ∧ Below w.heap.size w w' := by
 have hl : ts.length = (n - 1) := by have := h.len; rw [List.length_cons] at this; omega
 have hbd := h.bd
 have hbt : ∀ i, 0 ≤ ts.getD i 0 ∧ ts.getD i 0 ≤ 255 := fun i => hbd (i + 1)
 have c0 : w.cell? ⟨b, off, none⟩ = some (.int .u8 1) := by
  rcases h.cells with h0 | ⟨b', off', e, hcc⟩
  · omega
  · cases e; exact hcc 0 (by omega)
 have rd : Reads w (some ⟨b, off + 1, none⟩) (n - 1) ts := by
  have := h.rest hcap
  rwa [show tl b off cap = (some ⟨b, off + 1, none⟩) by rw [tl, if_neg (by omega)]] at this
 have d0 := cell_oldx (.cells #[.int .i64 1, .int .i64 0, .float .f64 0, .slice none 0 0] 29) (cell_oldx (w := w) (.cells #[.int .i64 0, .int .i64 0, .float .f64 0, .slice none 0 0] 29) c0)
 have d00 := cell_oldx (.cells #[.int .i64 0, .int .i64 0, .float .f64 0, .slice none 0 0] 29) (cell_oldx (w := w) (.cells #[.int .i64 0, .int .i64 0, .float .f64 0, .slice none 0 0] 29) c0)
 have hst0 := fun w a m => run_store Tryz.prog w a (.float .f64 0) m rfl
 have i1 : (1 : Int) ≤ (n : Int) := by omega
 have i2 : (n : Int) ≤ 41 := by omega
 have i4 : (0 : Int) < (n : Int) := by omega
 have i6 : ¬ (n : Int) < 1 := by omega
 have i7 : ¬ (41 : Int) < (n : Int) := by omega
 have i8 : 0 < n := by omega
 have i10 : ¬ n = 0 := by omega
 have i12 : ¬ cap = 1 := by omega
 have j1 : (n : Int) ≤ (cap : Int) := by omega
 have j3 : ¬ cap = 0 := by omega
 have BW0 := hid (two w (.cells #[.int .i64 0, .int .i64 0, .float .f64 0, .slice none 0 0] 29) (.cells #[.int .i64 1, .int .i64 0, .float .f64 0, .slice none 0 0] 29))
 have RW0 := hid (two_rows w (.cells #[.int .i64 0, .int .i64 0, .float .f64 0, .slice none 0 0] 29) (.cells #[.int .i64 1, .int .i64 0, .float .f64 0, .slice none 0 0] 29))
 have HE := hid E
 have H := hid h
 have HRD := hid (rd.below BW0.out (Nat.le_refl _))
 have hx : low ts < 18446744073709551616 := low_lt ts 0 (by omega)
 have hX := xor_low (low ts) hx
 have BW1 := hid (two w (.cells #[.int .i64 0, .int .i64 0, .float .f64 0, .slice none 0 0] 29) (.cells #[.int .i64 1, .int .i64 ((low ts : Int) - 9223372036854775808), .float .f64 0, .slice none 0 0] 29))
 have RW1 := hid (two_rows w (.cells #[.int .i64 0, .int .i64 0, .float .f64 0, .slice none 0 0] 29) (.cells #[.int .i64 1, .int .i64 ((low ts : Int) - 9223372036854775808), .float .f64 0, .slice none 0 0] 29))
 clear c0 rd h E h1
 go_enter Tryz.func100, Tryz.ntmps100
 go_wp2_with fail
 refine (spec_l3low (cap - 1) HRD.out (by omega)).mono ?_
 rintro e w1 ⟨rfl, hw1⟩
 subst w1
 go_wp2_with fail
 have RR := hid RW1.out.1
 have RA := hid RW1.out.2.1
 have SZ := hid (show w.heap.size + 1 < ((w.alloc (.cells #[.int .i64 0, .int .i64 0, .float .f64 0, .slice none 0 0] 29)).alloc (.cells #[.int .i64 1, .int .i64 ((low ts : Int) - 9223372036854775808), .float .f64 0, .slice none 0 0] 29)).heap.size by have := RW1.out.2.2; omega)
 have BB := BW1
 have HB5 := hid (H.out.below BW1.out (Nat.le_refl _))
 generalize ((w.alloc (.cells #[.int .i64 0, .int .i64 0, .float .f64 0, .slice none 0 0] 29)).alloc (.cells #[.int .i64 1, .int .i64 ((low ts : Int) - 9223372036854775808), .float .f64 0, .slice none 0 0] 29)) = W5 at *
 have HS : Hid (∀ W, Below W5.heap.size W5 W → (convert 22 9 (.slice (some ⟨b, off, none⟩) n cap)).run Tryz.prog W = .ok (.string (str (1 :: ts))) W) := hid (fun W bw => (HB5.out.below bw (Nat.le_refl _)).str cap 22 Tryz.underlying22 Tryz.underlying5 Tryz.underlying9)
 have HK : Hid (∀ W, Below W5.heap.size W5 W → Calls Tryz.prog 79 #[.agg #[.int .i64 1, .int .i64 ((low ts : Int) - 9223372036854775808), .float .f64 0, .slice none 0 0]] W fun e w' => ∃ v, e = .returned v ∧ w'.ownsRow W.heap.size 5 1 v (valB 1 ((low ts : Int) - 9223372036854775808) 0 0 []).length (bys (valB 1 ((low ts : Int) - 9223372036854775808) 0 0 [])) ∧ Below W.heap.size W w') := hid (fun W bw => spec_ValueBytes 1 ((low ts : Int) - 9223372036854775808) 0 0 (fun _ => rfl) ⟨rfl, .inl rfl, fun i => by simp⟩ (by omega) (by omega) (by omega) (by omega))
 have bdB := (valB_bd (K := 1) (N := ((low ts : Int) - 9223372036854775808)) (f := 0) (n := 0) (zs := []) rfl (fun i => by simp) (by simp)).1
 have HQ := hid (str_eq (a := valB 1 ((low ts : Int) - 9223372036854775808) 0 0 []) (b := 1 :: ts) bdB hbd)
 rw [decide_eq_false HE.out] at HQ
 generalize valB 1 ((low ts : Int) - 9223372036854775808) 0 0 [] = BL at *
 have SB := hid (fun (w : World) (ad : Option Addr) (cap : Nat) (r : Reads w ad BL.length BL) => r.str cap 22 Tryz.underlying22 Tryz.underlying5 Tryz.underlying9)
 obtain ⟨c0, c1, c2, c3⟩ := row_cells RA.out
 have q := HQ.out
 clear HQ
 generalize str (1 :: ts) = s2 at *
 generalize str BL = s1 at *
 have sb := HS.out W5.drew ((Still.drew W5).below _)
 go_region_with (go_at_call 79; refine (HK.out _ ((Still.drew W5).below _)).mono ?_; rintro e w6 ⟨v, rfl, o, b6⟩; obtain ⟨ad6, cap6, rfl, r6, _⟩ := Reads.own o bdB; have B6 := hid (((Still.drew W5).below W5.heap.size).trans (b6.mono (Nat.le_refl _))); have s6 := SB.out _ _ cap6 r6; have sb6 := HS.out w6 B6.out; clear o b6 r6)
 all_goals
  have R6 := hid ((B6.out.block w.heap.size (Nat.lt_of_succ_lt SZ.out)).trans RR.out)
  have A6 := hid ((B6.out.block (w.heap.size + 1) SZ.out).trans RA.out)
  have D6 := hid (BB.out.trans (B6.out.mono (Nat.le_of_lt (Nat.lt_of_succ_lt SZ.out))))
  clear RR RA BB HS HK c0 c1 c2 c3 s6 sb sb6
  go_wp2_with (first
   | (refine wpList_store_row rfl 29 (.tmp 2) (.tmp 49) rfl w.heap.size #[.int .i64 0, .int .i64 0, .float .f64 0, .slice none 0 0] rfl rfl 29 _ R6.out ?s1 ?s2 ?s3 ?_))
  case s1 => exact size29
  case s2 => rfl
  case s3 => simp [Value.oneCell']
  exact bodyPost_ret (results_cell_tmp Tryz.results100 _ _ w.heap.size 29 #[.int .i64 0, .int .i64 0, .float .f64 0, .slice none 0 0] (0, 0) _ rfl (setRow_heap _ _ _ _ _ _ R6.out) Tryz.underlying29 rfl size29) rfl ⟨rfl, below_setRow D6.out (Nat.le_refl _) _⟩
set_option maxRecDepth 100000 in
set_option maxHeartbeats 3200000 in
theorem spec_ValueRead_2y {b off n : Nat} (cap : Nat) (hcap : n ≤ cap) (hc2 : 2 ≤ cap) {ts : List Int} {w : World} (h1 : 1 ≤ n) (hm : n ≤ 41) (P : Nat → Prop) (D : ∀ W : World, Calls Tryz.prog 138 #[.int .u64 (low ts : Int)] W fun e w' => ∃ (y : Nat), e = .returned (.float .f64 y) ∧ y < 18446744073709551616 ∧ Hid (P y) ∧ Still W w') (h : Reads w (some ⟨b, off, none⟩) n (2 :: ts)) (E : ∀ y : Nat, y < 18446744073709551616 → P y → valB 2 0 y 0 [] = 2 :: ts) :
 Calls Tryz.prog 100 #[.slice (some ⟨b, off, none⟩) n cap] w fun e w' => ∃ (y : Nat) (v : Value), e = .returned (.tuple #[.agg #[.int .i64 2, .int .i64 0, .float .f64 y, v], .bool true]) ∧ y < 18446744073709551616 ∧ Hid (P y) ∧ w'.ownsRow w.heap.size 5 1 v 0 (bys []) ∧ Below w.heap.size w w' := by
 have hl : ts.length = (n - 1) := by have := h.len; rw [List.length_cons] at this; omega
 have hbd := h.bd
 have hbt : ∀ i, 0 ≤ ts.getD i 0 ∧ ts.getD i 0 ≤ 255 := fun i => hbd (i + 1)
 have c0 : w.cell? ⟨b, off, none⟩ = some (.int .u8 2) := by
  rcases h.cells with h0 | ⟨b', off', e, hcc⟩
  · omega
  · cases e; exact hcc 0 (by omega)
 have rd : Reads w (some ⟨b, off + 1, none⟩) (n - 1) ts := by
  have := h.rest hcap
  rwa [show tl b off cap = (some ⟨b, off + 1, none⟩) by rw [tl, if_neg (by omega)]] at this
 have d0 := cell_oldx (.cells #[.int .i64 2, .int .i64 0, .float .f64 0, .slice none 0 0] 29) (cell_oldx (w := w) (.cells #[.int .i64 0, .int .i64 0, .float .f64 0, .slice none 0 0] 29) c0)
 have d00 := cell_oldx (.cells #[.int .i64 0, .int .i64 0, .float .f64 0, .slice none 0 0] 29) (cell_oldx (w := w) (.cells #[.int .i64 0, .int .i64 0, .float .f64 0, .slice none 0 0] 29) c0)
 have hst0 := fun w a m => run_store Tryz.prog w a (.float .f64 0) m rfl
 have i1 : (1 : Int) ≤ (n : Int) := by omega
 have i2 : (n : Int) ≤ 41 := by omega
 have i4 : (0 : Int) < (n : Int) := by omega
 have i6 : ¬ (n : Int) < 1 := by omega
 have i7 : ¬ (41 : Int) < (n : Int) := by omega
 have i8 : 0 < n := by omega
 have i10 : ¬ n = 0 := by omega
 have i12 : ¬ cap = 1 := by omega
 have j1 : (n : Int) ≤ (cap : Int) := by omega
 have j3 : ¬ cap = 0 := by omega
 have BW0 := hid (two w (.cells #[.int .i64 0, .int .i64 0, .float .f64 0, .slice none 0 0] 29) (.cells #[.int .i64 2, .int .i64 0, .float .f64 0, .slice none 0 0] 29))
 have RW0 := hid (two_rows w (.cells #[.int .i64 0, .int .i64 0, .float .f64 0, .slice none 0 0] 29) (.cells #[.int .i64 2, .int .i64 0, .float .f64 0, .slice none 0 0] 29))
 have HE := hid E
 have H := hid h
 have HRD := hid (rd.below BW0.out (Nat.le_refl _))
 have hx : low ts < 18446744073709551616 := low_lt ts 0 (by omega)
 have HD := hid D
 clear c0 rd h E h1 D
 go_enter Tryz.func100, Tryz.ntmps100
 go_wp2_with fail
 refine (spec_l3low (cap - 1) HRD.out (by omega)).mono ?_
 rintro e w1 ⟨rfl, hw1⟩
 subst w1
 go_wp2_with fail
 refine (HD.out _).mono ?_
 rintro e w2 ⟨y, rfl, hy, HP, s2⟩
 have hsty := fun w a m => run_store Tryz.prog w a (.float .f64 y) m rfl
 replace HE := hid (HE.out y hy HP.out)
 have SA : w2.heap[w.heap.size + 1]? = some (.cells #[.int .i64 2, .int .i64 0, .float .f64 0, .slice none 0 0] 29) := by rw [s2.heap]; exact RW0.out.2.1
 have SR : w2.heap[w.heap.size]? = some (.cells #[.int .i64 0, .int .i64 0, .float .f64 0, .slice none 0 0] 29) := by rw [s2.heap]; exact RW0.out.1
 have e2 : w2.cell? ⟨w.heap.size + 1, 2, none⟩ = some (.float .f64 0) := by rw [cell_of_row _ _ _ _ _ _ SA]; rfl
 have fz : w2.frozen? ⟨w.heap.size + 1, 2, none⟩ = false := frozen_of_row _ _ _ _ _ SA
 have RA := hid (heap_setCell_same w2 (w.heap.size + 1) 2 _ 29 (.float .f64 y) SA)
 have RR := hid ((heap_setCell_other w2 ⟨w.heap.size + 1, 2, none⟩ w.heap.size (.float .f64 y) (by simp)).trans SR)
 have bw2 : Below w.heap.size w w2 := BW0.out.trans (s2.below _)
 have BB := hid (bw2.setCell (p := ⟨w.heap.size + 1, 2, none⟩) (by simp) (.float .f64 y))
 have HB5 := hid (H.out.below BB.out (Nat.le_refl _))
 have SZ := hid (show w.heap.size + 1 < (w2.setCell ⟨w.heap.size + 1, 2, none⟩ (.float .f64 y)).heap.size by have h3 := RW0.out.2.2; have h4 := s2.size; rw [setCell_size]; omega)
 clear SA SR bw2 s2
 go_wp2_with fail
 generalize w2.setCell ⟨w.heap.size + 1, 2, none⟩ (.float .f64 y) = W5 at *
 clear e2 fz
 have HS : Hid (∀ W, Below W5.heap.size W5 W → (convert 22 9 (.slice (some ⟨b, off, none⟩) n cap)).run Tryz.prog W = .ok (.string (str (2 :: ts))) W) := hid (fun W bw => (HB5.out.below bw (Nat.le_refl _)).str cap 22 Tryz.underlying22 Tryz.underlying5 Tryz.underlying9)
 have HK : Hid (∀ W, Below W5.heap.size W5 W → Calls Tryz.prog 79 #[.agg #[.int .i64 2, .int .i64 0, .float .f64 y, .slice none 0 0]] W fun e w' => ∃ v, e = .returned v ∧ w'.ownsRow W.heap.size 5 1 v (valB 2 0 y 0 []).length (bys (valB 2 0 y 0 [])) ∧ Below W.heap.size W w') := hid (fun W bw => spec_ValueBytes 2 0 y 0 (fun _ => rfl) ⟨rfl, .inl rfl, fun i => by simp⟩ (by omega) (by omega) (by omega) hy)
 have bdB := (valB_bd (K := 2) (N := 0) (f := y) (n := 0) (zs := []) rfl (fun i => by simp) (by simp)).1
 have HQ := hid (str_eq (a := valB 2 0 y 0 []) (b := 2 :: ts) bdB hbd)
 rw [decide_eq_true HE.out] at HQ
 generalize valB 2 0 y 0 [] = BL at *
 have SB := hid (fun (w : World) (ad : Option Addr) (cap : Nat) (r : Reads w ad BL.length BL) => r.str cap 22 Tryz.underlying22 Tryz.underlying5 Tryz.underlying9)
 obtain ⟨c0, c1, c2, c3⟩ := row_cells RA.out
 have q := HQ.out
 clear HQ
 generalize str (2 :: ts) = s2 at *
 generalize str BL = s1 at *
 have sb := HS.out W5.drew ((Still.drew W5).below _)
 go_region_with (go_at_call 79; refine (HK.out _ ((Still.drew W5).below _)).mono ?_; rintro e w6 ⟨v, rfl, o, b6⟩; obtain ⟨ad6, cap6, rfl, r6, _⟩ := Reads.own o bdB; have B6 := hid (((Still.drew W5).below W5.heap.size).trans (b6.mono (Nat.le_refl _))); have s6 := SB.out _ _ cap6 r6; have sb6 := HS.out w6 B6.out; clear o b6 r6)
 all_goals
  have R6 := hid ((B6.out.block w.heap.size (Nat.lt_of_succ_lt SZ.out)).trans RR.out)
  have A6 := hid ((B6.out.block (w.heap.size + 1) SZ.out).trans RA.out)
  have D6 := hid (BB.out.trans (B6.out.mono (Nat.le_of_lt (Nat.lt_of_succ_lt SZ.out))))
  clear RR RA BB HS HK c0 c1 c2 c3 s6 sb sb6
  go_wp2_with (first
   | (refine wpList_load_row rfl 29 (.tmp 4) rfl (w.heap.size + 1) rfl 29 _ (0, 0) _ A6.out Tryz.underlying29 rfl size29 ?_)
   | (refine wpList_store_row rfl 29 (.tmp 2) (.tmp 50) rfl w.heap.size #[.int .i64 2, .int .i64 0, .float .f64 y, .slice none 0 0] rfl rfl 29 _ R6.out ?s1 ?s2 ?s3 ?_))
  case s1 => exact size29
  case s2 => rfl
  case s3 => simp [Value.oneCell']
  exact bodyPost_ret (results_cell_tmp Tryz.results100 _ _ w.heap.size 29 #[.int .i64 2, .int .i64 0, .float .f64 y, .slice none 0 0] (0, 0) _ rfl (setRow_heap _ _ _ _ _ _ R6.out) Tryz.underlying29 rfl size29) rfl ⟨_, _, rfl, hy, HP, World.ownsRow_nil _ _ _ _, below_setRow D6.out (Nat.le_refl _) _⟩
set_option maxRecDepth 100000 in
set_option maxHeartbeats 3200000 in
theorem spec_ValueRead_2n {b off n : Nat} (cap : Nat) (hcap : n ≤ cap) (hc2 : 2 ≤ cap) {ts : List Int} {w : World} (h1 : 1 ≤ n) (hm : n ≤ 41) (P : Nat → Prop) (D : ∀ W : World, Calls Tryz.prog 138 #[.int .u64 (low ts : Int)] W fun e w' => ∃ (y : Nat), e = .returned (.float .f64 y) ∧ y < 18446744073709551616 ∧ Hid (P y) ∧ Still W w') (h : Reads w (some ⟨b, off, none⟩) n (2 :: ts)) (E : ∀ y : Nat, y < 18446744073709551616 → P y → valB 2 0 y 0 [] ≠ 2 :: ts) :
 Calls Tryz.prog 100 #[.slice (some ⟨b, off, none⟩) n cap] w fun e w' => e = .returned (.tuple #[.agg #[.int .i64 0, .int .i64 0, .float .f64 0, .slice none 0 0], .bool false]) ∧ Below w.heap.size w w' := by
 have hl : ts.length = (n - 1) := by have := h.len; rw [List.length_cons] at this; omega
 have hbd := h.bd
 have hbt : ∀ i, 0 ≤ ts.getD i 0 ∧ ts.getD i 0 ≤ 255 := fun i => hbd (i + 1)
 have c0 : w.cell? ⟨b, off, none⟩ = some (.int .u8 2) := by
  rcases h.cells with h0 | ⟨b', off', e, hcc⟩
  · omega
  · cases e; exact hcc 0 (by omega)
 have rd : Reads w (some ⟨b, off + 1, none⟩) (n - 1) ts := by
  have := h.rest hcap
  rwa [show tl b off cap = (some ⟨b, off + 1, none⟩) by rw [tl, if_neg (by omega)]] at this
 have d0 := cell_oldx (.cells #[.int .i64 2, .int .i64 0, .float .f64 0, .slice none 0 0] 29) (cell_oldx (w := w) (.cells #[.int .i64 0, .int .i64 0, .float .f64 0, .slice none 0 0] 29) c0)
 have d00 := cell_oldx (.cells #[.int .i64 0, .int .i64 0, .float .f64 0, .slice none 0 0] 29) (cell_oldx (w := w) (.cells #[.int .i64 0, .int .i64 0, .float .f64 0, .slice none 0 0] 29) c0)
 have hst0 := fun w a m => run_store Tryz.prog w a (.float .f64 0) m rfl
 have i1 : (1 : Int) ≤ (n : Int) := by omega
 have i2 : (n : Int) ≤ 41 := by omega
 have i4 : (0 : Int) < (n : Int) := by omega
 have i6 : ¬ (n : Int) < 1 := by omega
 have i7 : ¬ (41 : Int) < (n : Int) := by omega
 have i8 : 0 < n := by omega
 have i10 : ¬ n = 0 := by omega
 have i12 : ¬ cap = 1 := by omega
 have j1 : (n : Int) ≤ (cap : Int) := by omega
 have j3 : ¬ cap = 0 := by omega
 have BW0 := hid (two w (.cells #[.int .i64 0, .int .i64 0, .float .f64 0, .slice none 0 0] 29) (.cells #[.int .i64 2, .int .i64 0, .float .f64 0, .slice none 0 0] 29))
 have RW0 := hid (two_rows w (.cells #[.int .i64 0, .int .i64 0, .float .f64 0, .slice none 0 0] 29) (.cells #[.int .i64 2, .int .i64 0, .float .f64 0, .slice none 0 0] 29))
 have HE := hid E
 have H := hid h
 have HRD := hid (rd.below BW0.out (Nat.le_refl _))
 have hx : low ts < 18446744073709551616 := low_lt ts 0 (by omega)
 have HD := hid D
 clear c0 rd h E h1 D
 go_enter Tryz.func100, Tryz.ntmps100
 go_wp2_with fail
 refine (spec_l3low (cap - 1) HRD.out (by omega)).mono ?_
 rintro e w1 ⟨rfl, hw1⟩
 subst w1
 go_wp2_with fail
 refine (HD.out _).mono ?_
 rintro e w2 ⟨y, rfl, hy, HP, s2⟩
 have hsty := fun w a m => run_store Tryz.prog w a (.float .f64 y) m rfl
 replace HE := hid (HE.out y hy HP.out)
 have SA : w2.heap[w.heap.size + 1]? = some (.cells #[.int .i64 2, .int .i64 0, .float .f64 0, .slice none 0 0] 29) := by rw [s2.heap]; exact RW0.out.2.1
 have SR : w2.heap[w.heap.size]? = some (.cells #[.int .i64 0, .int .i64 0, .float .f64 0, .slice none 0 0] 29) := by rw [s2.heap]; exact RW0.out.1
 have e2 : w2.cell? ⟨w.heap.size + 1, 2, none⟩ = some (.float .f64 0) := by rw [cell_of_row _ _ _ _ _ _ SA]; rfl
 have fz : w2.frozen? ⟨w.heap.size + 1, 2, none⟩ = false := frozen_of_row _ _ _ _ _ SA
 have RA := hid (heap_setCell_same w2 (w.heap.size + 1) 2 _ 29 (.float .f64 y) SA)
 have RR := hid ((heap_setCell_other w2 ⟨w.heap.size + 1, 2, none⟩ w.heap.size (.float .f64 y) (by simp)).trans SR)
 have bw2 : Below w.heap.size w w2 := BW0.out.trans (s2.below _)
 have BB := hid (bw2.setCell (p := ⟨w.heap.size + 1, 2, none⟩) (by simp) (.float .f64 y))
 have HB5 := hid (H.out.below BB.out (Nat.le_refl _))
 have SZ := hid (show w.heap.size + 1 < (w2.setCell ⟨w.heap.size + 1, 2, none⟩ (.float .f64 y)).heap.size by have h3 := RW0.out.2.2; have h4 := s2.size; rw [setCell_size]; omega)
 clear SA SR bw2 s2
 go_wp2_with fail
 generalize w2.setCell ⟨w.heap.size + 1, 2, none⟩ (.float .f64 y) = W5 at *
 clear e2 fz
 have HS : Hid (∀ W, Below W5.heap.size W5 W → (convert 22 9 (.slice (some ⟨b, off, none⟩) n cap)).run Tryz.prog W = .ok (.string (str (2 :: ts))) W) := hid (fun W bw => (HB5.out.below bw (Nat.le_refl _)).str cap 22 Tryz.underlying22 Tryz.underlying5 Tryz.underlying9)
 have HK : Hid (∀ W, Below W5.heap.size W5 W → Calls Tryz.prog 79 #[.agg #[.int .i64 2, .int .i64 0, .float .f64 y, .slice none 0 0]] W fun e w' => ∃ v, e = .returned v ∧ w'.ownsRow W.heap.size 5 1 v (valB 2 0 y 0 []).length (bys (valB 2 0 y 0 [])) ∧ Below W.heap.size W w') := hid (fun W bw => spec_ValueBytes 2 0 y 0 (fun _ => rfl) ⟨rfl, .inl rfl, fun i => by simp⟩ (by omega) (by omega) (by omega) hy)
 have bdB := (valB_bd (K := 2) (N := 0) (f := y) (n := 0) (zs := []) rfl (fun i => by simp) (by simp)).1
 have HQ := hid (str_eq (a := valB 2 0 y 0 []) (b := 2 :: ts) bdB hbd)
 rw [decide_eq_false HE.out] at HQ
 generalize valB 2 0 y 0 [] = BL at *
 have SB := hid (fun (w : World) (ad : Option Addr) (cap : Nat) (r : Reads w ad BL.length BL) => r.str cap 22 Tryz.underlying22 Tryz.underlying5 Tryz.underlying9)
 obtain ⟨c0, c1, c2, c3⟩ := row_cells RA.out
 have q := HQ.out
 clear HQ
 generalize str (2 :: ts) = s2 at *
 generalize str BL = s1 at *
 have sb := HS.out W5.drew ((Still.drew W5).below _)
 go_region_with (go_at_call 79; refine (HK.out _ ((Still.drew W5).below _)).mono ?_; rintro e w6 ⟨v, rfl, o, b6⟩; obtain ⟨ad6, cap6, rfl, r6, _⟩ := Reads.own o bdB; have B6 := hid (((Still.drew W5).below W5.heap.size).trans (b6.mono (Nat.le_refl _))); have s6 := SB.out _ _ cap6 r6; have sb6 := HS.out w6 B6.out; clear o b6 r6)
 all_goals
  have R6 := hid ((B6.out.block w.heap.size (Nat.lt_of_succ_lt SZ.out)).trans RR.out)
  have A6 := hid ((B6.out.block (w.heap.size + 1) SZ.out).trans RA.out)
  have D6 := hid (BB.out.trans (B6.out.mono (Nat.le_of_lt (Nat.lt_of_succ_lt SZ.out))))
  clear RR RA BB HS HK c0 c1 c2 c3 s6 sb sb6
  go_wp2_with (first
   | (refine wpList_store_row rfl 29 (.tmp 2) (.tmp 49) rfl w.heap.size #[.int .i64 0, .int .i64 0, .float .f64 0, .slice none 0 0] rfl rfl 29 _ R6.out ?s1 ?s2 ?s3 ?_))
  case s1 => exact size29
  case s2 => rfl
  case s3 => simp [Value.oneCell']
  exact bodyPost_ret (results_cell_tmp Tryz.results100 _ _ w.heap.size 29 #[.int .i64 0, .int .i64 0, .float .f64 0, .slice none 0 0] (0, 0) _ rfl (setRow_heap _ _ _ _ _ _ R6.out) Tryz.underlying29 rfl size29) rfl ⟨rfl, below_setRow D6.out (Nat.le_refl _) _⟩
set_option maxRecDepth 100000 in
set_option maxHeartbeats 3200000 in
theorem spec_ValueRead_3y {b off n : Nat} (cap : Nat) (hcap : n ≤ cap) (hc2 : 2 ≤ cap) {ts : List Int} {w : World} (h1 : 1 ≤ n) (hm : n ≤ 41) (h : Reads w (some ⟨b, off, none⟩) n (3 :: ts)) (E : valB 3 0 0 (n - 1) ts = 3 :: ts) :
 Calls Tryz.prog 100 #[.slice (some ⟨b, off, none⟩) n cap] w fun e w' => ∃ v, e = .returned (.tuple #[.agg #[.int .i64 3, .int .i64 0, .float .f64 0, v], .bool true]) ∧ w'.ownsRow w.heap.size 5 1 v (n - 1) (bys ts) ∧ Below w.heap.size w w' := by
 have hl : ts.length = (n - 1) := by have := h.len; rw [List.length_cons] at this; omega
 have hbd := h.bd
 have hbt : ∀ i, 0 ≤ ts.getD i 0 ∧ ts.getD i 0 ≤ 255 := fun i => hbd (i + 1)
 have c0 : w.cell? ⟨b, off, none⟩ = some (.int .u8 3) := by
  rcases h.cells with h0 | ⟨b', off', e, hcc⟩
  · omega
  · cases e; exact hcc 0 (by omega)
 have rd : Reads w (some ⟨b, off + 1, none⟩) (n - 1) ts := by
  have := h.rest hcap
  rwa [show tl b off cap = (some ⟨b, off + 1, none⟩) by rw [tl, if_neg (by omega)]] at this
 have d0 := cell_oldx (.cells #[.int .i64 3, .int .i64 0, .float .f64 0, .slice none 0 0] 29) (cell_oldx (w := w) (.cells #[.int .i64 0, .int .i64 0, .float .f64 0, .slice none 0 0] 29) c0)
 have d00 := cell_oldx (.cells #[.int .i64 0, .int .i64 0, .float .f64 0, .slice none 0 0] 29) (cell_oldx (w := w) (.cells #[.int .i64 0, .int .i64 0, .float .f64 0, .slice none 0 0] 29) c0)
 have hst0 := fun w a m => run_store Tryz.prog w a (.float .f64 0) m rfl
 have i1 : (1 : Int) ≤ (n : Int) := by omega
 have i2 : (n : Int) ≤ 41 := by omega
 have i4 : (0 : Int) < (n : Int) := by omega
 have i6 : ¬ (n : Int) < 1 := by omega
 have i7 : ¬ (41 : Int) < (n : Int) := by omega
 have i8 : 0 < n := by omega
 have i10 : ¬ n = 0 := by omega
 have i12 : ¬ cap = 1 := by omega
 have j1 : (n : Int) ≤ (cap : Int) := by omega
 have j3 : ¬ cap = 0 := by omega
 have BW0 := hid (two w (.cells #[.int .i64 0, .int .i64 0, .float .f64 0, .slice none 0 0] 29) (.cells #[.int .i64 3, .int .i64 0, .float .f64 0, .slice none 0 0] 29))
 have RW0 := hid (two_rows w (.cells #[.int .i64 0, .int .i64 0, .float .f64 0, .slice none 0 0] 29) (.cells #[.int .i64 3, .int .i64 0, .float .f64 0, .slice none 0 0] 29))
 have HE := hid E
 have H := hid h
 have HRD := hid (rd.below BW0.out (Nat.le_refl _))
 clear c0 rd h E h1
 go_enter Tryz.func100, Tryz.ntmps100
 obtain ⟨i0, hi, hz0, hz1, hz2⟩ := info_parts Tryz.info5
 have O5 := hid (World.ownsRow_lit (base := w.heap.size + 2) (e := 5) (size := 1) ((w.alloc (.cells #[.int .i64 0, .int .i64 0, .float .f64 0, .slice none 0 0] 29)).alloc (.cells #[.int .i64 3, .int .i64 0, .float .f64 0, .slice none 0 0] 29)) #[] 0 (by have := RW0.out.2.2; omega) (Nat.zero_le _) rfl)
 have HZ := hid (alloc_size ((w.alloc (.cells #[.int .i64 0, .int .i64 0, .float .f64 0, .slice none 0 0] 29)).alloc (.cells #[.int .i64 3, .int .i64 0, .float .f64 0, .slice none 0 0] 29)) (.cells #[] 5))
 have HR5 := hid (HRD.out.alloc (.cells #[] 5))
 have HB0 := hid (BW0.out.alloc BW0.out.size (.cells #[] 5))
 rw [RW0.out.2.2] at O5 HZ
 go_wp2_with (at_builtin; refine wpList_append_own _ rfl _ _ 22 rfl (w.heap.size + 2) 5 i0 (.int .u8 0) 1 1 Tryz.underlying22 hi hz0 hz1 hz2 rfl (by decide) _ _ _ rfl O5.out ⟨b, off + 1, none⟩ (n - 1) (cap - 1) (bys ts) rfl ?k2 HR5.out.news (bys_one _) ?k4 ?k5 ?k6 ?_)
 case k2 => simp [bys_length, hl]
 case k4 => unfold maxLen; omega
 case k5 => omega
 intro v7 w7 o7 g7 _
 have o8 : w7.ownsRow (w.heap.size + 2) 5 1 v7 (n - 1) (bys ts) := by simpa [bys] using o7
 obtain ⟨ad7, cap7, rfl, r7, d7⟩ := Reads.own o8 hbt
 have zW := HZ.out
 have rw0 := RW0.out
 have SA : w7.heap[w.heap.size + 1]? = _ := (g7.block _ (by omega) (fun e => by have := (O5.out.lt _ e.symm).1; omega)).trans ((heap_alloc_old _ _ (by omega)).trans rw0.2.1)
 have SR : w7.heap[w.heap.size]? = _ := (g7.block _ (by omega) (fun e => by have := (O5.out.lt _ e.symm).1; omega)).trans ((heap_alloc_old _ _ (by omega)).trans rw0.1)
 have e2 : w7.cell? ⟨w.heap.size + 1, 3, none⟩ = some (.slice none 0 0) := by rw [cell_of_row _ _ _ _ _ _ SA]; rfl
 have fz : w7.frozen? ⟨w.heap.size + 1, 3, none⟩ = false := frozen_of_row _ _ _ _ _ SA
 have RA := hid (heap_setCell_same w7 (w.heap.size + 1) 3 _ 29 (.slice ad7 (n - 1) cap7) SA)
 have RR := hid ((heap_setCell_other w7 ⟨w.heap.size + 1, 3, none⟩ w.heap.size (.slice ad7 (n - 1) cap7) (by simp)).trans SR)
 have bw7 : Below w.heap.size w w7 := HB0.out.grown g7 (by have := HB0.out.size; omega) (fun k hk => by have := (O5.out.lt k hk).1; omega)
 have BB := hid (bw7.setCell (p := ⟨w.heap.size + 1, 3, none⟩) (by simp) (.slice ad7 (n - 1) cap7))
 have HB5 := hid (H.out.below BB.out (Nat.le_refl _))
 have O7 := hid (owns_at (w' := w7.setCell ⟨w.heap.size + 1, 3, none⟩ (.slice ad7 (n - 1) cap7)) o8 (fun k hk => heap_setCell_other _ _ _ _ (by simp; omega)))
 have SZ := hid (show w.heap.size + 1 < (w7.setCell ⟨w.heap.size + 1, 3, none⟩ (.slice ad7 (n - 1) cap7)).heap.size by have h4 := g7.size; rw [setCell_size]; omega)
 clear SA SR bw7 g7 o7 o8 r7 d7 zW rw0 O5 HZ HR5 HB0
 go_wp2_with fail
 generalize w7.setCell ⟨w.heap.size + 1, 3, none⟩ (.slice ad7 (n - 1) cap7) = W5 at *
 clear e2 fz
 have HS : Hid (∀ W, Below W5.heap.size W5 W → (convert 22 9 (.slice (some ⟨b, off, none⟩) n cap)).run Tryz.prog W = .ok (.string (str (3 :: ts))) W) := hid (fun W bw => (HB5.out.below bw (Nat.le_refl _)).str cap 22 Tryz.underlying22 Tryz.underlying5 Tryz.underlying9)
 have HK : Hid (∀ W, Below W5.heap.size W5 W → Calls Tryz.prog 79 #[.agg #[.int .i64 3, .int .i64 0, .float .f64 0, .slice ad7 (n - 1) cap7]] W fun e w' => ∃ v, e = .returned v ∧ w'.ownsRow W.heap.size 5 1 v (valB 3 0 0 (n - 1) ts).length (bys (valB 3 0 0 (n - 1) ts)) ∧ Below W.heap.size W w') := hid (fun W bw => spec_ValueBytes 3 0 0 cap7 (own_nil O7.out) ((by obtain ⟨_, _, e9, r9, _⟩ := Reads.own O7.out hbt; obtain ⟨rfl, _, rfl⟩ := Value.slice.inj e9; exact r9.below bw (Nat.le_refl _))) (by omega) (by omega) (by omega) (by omega))
 have bdB := (valB_bd (K := 3) (N := 0) (f := 0) (n := (n - 1)) (zs := ts) rfl hbt (by rw [hl]; omega)).1
 have HQ := hid (str_eq (a := valB 3 0 0 (n - 1) ts) (b := 3 :: ts) bdB hbd)
 rw [decide_eq_true HE.out] at HQ
 generalize valB 3 0 0 (n - 1) ts = BL at *
 have SB := hid (fun (w : World) (ad : Option Addr) (cap : Nat) (r : Reads w ad BL.length BL) => r.str cap 22 Tryz.underlying22 Tryz.underlying5 Tryz.underlying9)
 obtain ⟨c0, c1, c2, c3⟩ := row_cells RA.out
 have q := HQ.out
 clear HQ
 generalize str (3 :: ts) = s2 at *
 generalize str BL = s1 at *
 have sb := HS.out W5.drew ((Still.drew W5).below _)
 go_region_with (go_at_call 79; refine (HK.out _ ((Still.drew W5).below _)).mono ?_; rintro e w6 ⟨v, rfl, o, b6⟩; obtain ⟨ad6, cap6, rfl, r6, _⟩ := Reads.own o bdB; have B6 := hid (((Still.drew W5).below W5.heap.size).trans (b6.mono (Nat.le_refl _))); have s6 := SB.out _ _ cap6 r6; have sb6 := HS.out w6 B6.out; clear o b6 r6)
 all_goals
  have R6 := hid ((B6.out.block w.heap.size (Nat.lt_of_succ_lt SZ.out)).trans RR.out)
  have A6 := hid ((B6.out.block (w.heap.size + 1) SZ.out).trans RA.out)
  have D6 := hid (BB.out.trans (B6.out.mono (Nat.le_of_lt (Nat.lt_of_succ_lt SZ.out))))
  clear RR RA BB HS HK c0 c1 c2 c3 s6 sb sb6
  go_wp2_with (first
   | (refine wpList_load_row rfl 29 (.tmp 4) rfl (w.heap.size + 1) rfl 29 _ (0, 0) _ A6.out Tryz.underlying29 rfl size29 ?_)
   | (refine wpList_store_row rfl 29 (.tmp 2) (.tmp 50) rfl w.heap.size #[.int .i64 3, .int .i64 0, .float .f64 0, .slice ad7 (n - 1) cap7] rfl rfl 29 _ R6.out ?s1 ?s2 ?s3 ?_))
  case s1 => exact size29
  case s2 => rfl
  case s3 => simp [Value.oneCell']
  exact bodyPost_ret (results_cell_tmp Tryz.results100 _ _ w.heap.size 29 #[.int .i64 3, .int .i64 0, .float .f64 0, .slice ad7 (n - 1) cap7] (0, 0) _ rfl (setRow_heap _ _ _ _ _ _ R6.out) Tryz.underlying29 rfl size29) rfl ⟨_, rfl, owns_base (owns_at (owns_below B6.out (Nat.le_refl _) O7.out) fun k hk => by rw [setRow_other _ _ _ _ (by omega)]) (by omega), below_setRow D6.out (Nat.le_refl _) _⟩
set_option maxRecDepth 100000 in
set_option maxHeartbeats 3200000 in
theorem spec_ValueRead_on {b off n : Nat} (cap : Nat) (hcap : n ≤ cap) (hc2 : 2 ≤ cap) {ts : List Int} {w : World} (k : Int) (hk : 0 ≤ k ∧ k ≤ 255) (k1 : k ≠ 1) (k2 : k ≠ 2) (k3 : k ≠ 3) (h1 : 1 ≤ n) (hm : n ≤ 41) (h : Reads w (some ⟨b, off, none⟩) n (k :: ts)) (E : valB k 0 0 0 [] ≠ k :: ts) :
 Calls Tryz.prog 100 #[.slice (some ⟨b, off, none⟩) n cap] w fun e w' => e = .returned (.tuple #[.agg #[.int .i64 0, .int .i64 0, .float .f64 0, .slice none 0 0], .bool false]) ∧ Below w.heap.size w w' := by
 have hl : ts.length = (n - 1) := by have := h.len; rw [List.length_cons] at this; omega
 have hbd := h.bd
 have hbt : ∀ i, 0 ≤ ts.getD i 0 ∧ ts.getD i 0 ≤ 255 := fun i => hbd (i + 1)
 have c0 : w.cell? ⟨b, off, none⟩ = some (.int .u8 k) := by
  rcases h.cells with h0 | ⟨b', off', e, hcc⟩
  · omega
  · cases e; exact hcc 0 (by omega)
 have rd : Reads w (some ⟨b, off + 1, none⟩) (n - 1) ts := by
  have := h.rest hcap
  rwa [show tl b off cap = (some ⟨b, off + 1, none⟩) by rw [tl, if_neg (by omega)]] at this
 have d0 := cell_oldx (.cells #[.int .i64 k, .int .i64 0, .float .f64 0, .slice none 0 0] 29) (cell_oldx (w := w) (.cells #[.int .i64 0, .int .i64 0, .float .f64 0, .slice none 0 0] 29) c0)
 have d00 := cell_oldx (.cells #[.int .i64 0, .int .i64 0, .float .f64 0, .slice none 0 0] 29) (cell_oldx (w := w) (.cells #[.int .i64 0, .int .i64 0, .float .f64 0, .slice none 0 0] 29) c0)
 have hst0 := fun w a m => run_store Tryz.prog w a (.float .f64 0) m rfl
 have i1 : (1 : Int) ≤ (n : Int) := by omega
 have i2 : (n : Int) ≤ 41 := by omega
 have i4 : (0 : Int) < (n : Int) := by omega
 have i6 : ¬ (n : Int) < 1 := by omega
 have i7 : ¬ (41 : Int) < (n : Int) := by omega
 have i8 : 0 < n := by omega
 have i10 : ¬ n = 0 := by omega
 have i12 : ¬ cap = 1 := by omega
 have j1 : (n : Int) ≤ (cap : Int) := by omega
 have j3 : ¬ cap = 0 := by omega
 have q1 : (k == 1) = false := by simp [k1]
 have q2 : (k == 2) = false := by simp [k2]
 have q3 : (k == 3) = false := by simp [k3]
 have hw : IntKind.i64.wrap k = k := by rw [IntKind.wrap_i64]; omega
 have BW0 := hid (two w (.cells #[.int .i64 0, .int .i64 0, .float .f64 0, .slice none 0 0] 29) (.cells #[.int .i64 k, .int .i64 0, .float .f64 0, .slice none 0 0] 29))
 have RW0 := hid (two_rows w (.cells #[.int .i64 0, .int .i64 0, .float .f64 0, .slice none 0 0] 29) (.cells #[.int .i64 k, .int .i64 0, .float .f64 0, .slice none 0 0] 29))
 have HE := hid E
 have H := hid h
 have HRD := hid (rd.below BW0.out (Nat.le_refl _))
 clear c0 rd h E h1 k1 k2 k3 hk
 go_enter Tryz.func100, Tryz.ntmps100
 go_wp2_with fail
 have RR := hid RW0.out.1
 have RA := hid RW0.out.2.1
 have SZ := hid (show w.heap.size + 1 < ((w.alloc (.cells #[.int .i64 0, .int .i64 0, .float .f64 0, .slice none 0 0] 29)).alloc (.cells #[.int .i64 k, .int .i64 0, .float .f64 0, .slice none 0 0] 29)).heap.size by have := RW0.out.2.2; omega)
 have BB := BW0
 have HB5 := hid (H.out.below BW0.out (Nat.le_refl _))
 generalize ((w.alloc (.cells #[.int .i64 0, .int .i64 0, .float .f64 0, .slice none 0 0] 29)).alloc (.cells #[.int .i64 k, .int .i64 0, .float .f64 0, .slice none 0 0] 29)) = W5 at *
 have HS : Hid (∀ W, Below W5.heap.size W5 W → (convert 22 9 (.slice (some ⟨b, off, none⟩) n cap)).run Tryz.prog W = .ok (.string (str (k :: ts))) W) := hid (fun W bw => (HB5.out.below bw (Nat.le_refl _)).str cap 22 Tryz.underlying22 Tryz.underlying5 Tryz.underlying9)
 have HK : Hid (∀ W, Below W5.heap.size W5 W → Calls Tryz.prog 79 #[.agg #[.int .i64 k, .int .i64 0, .float .f64 0, .slice none 0 0]] W fun e w' => ∃ v, e = .returned v ∧ w'.ownsRow W.heap.size 5 1 v (valB k 0 0 0 []).length (bys (valB k 0 0 0 [])) ∧ Below W.heap.size W w') := hid (fun W bw => spec_ValueBytes k 0 0 0 (fun _ => rfl) ⟨rfl, .inl rfl, fun i => by simp⟩ (by omega) (by omega) (by omega) (by omega))
 have bdB := (valB_bd (K := k) (N := 0) (f := 0) (n := 0) (zs := []) rfl (fun i => by simp) (by simp)).1
 have HQ := hid (str_eq (a := valB k 0 0 0 []) (b := k :: ts) bdB hbd)
 rw [decide_eq_false HE.out] at HQ
 generalize valB k 0 0 0 [] = BL at *
 have SB := hid (fun (w : World) (ad : Option Addr) (cap : Nat) (r : Reads w ad BL.length BL) => r.str cap 22 Tryz.underlying22 Tryz.underlying5 Tryz.underlying9)
 obtain ⟨c0, c1, c2, c3⟩ := row_cells RA.out
 have q := HQ.out
 clear HQ
 generalize str (k :: ts) = s2 at *
 generalize str BL = s1 at *
 have sb := HS.out W5.drew ((Still.drew W5).below _)
 go_region_with (go_at_call 79; refine (HK.out _ ((Still.drew W5).below _)).mono ?_; rintro e w6 ⟨v, rfl, o, b6⟩; obtain ⟨ad6, cap6, rfl, r6, _⟩ := Reads.own o bdB; have B6 := hid (((Still.drew W5).below W5.heap.size).trans (b6.mono (Nat.le_refl _))); have s6 := SB.out _ _ cap6 r6; have sb6 := HS.out w6 B6.out; clear o b6 r6)
 all_goals
  have R6 := hid ((B6.out.block w.heap.size (Nat.lt_of_succ_lt SZ.out)).trans RR.out)
  have A6 := hid ((B6.out.block (w.heap.size + 1) SZ.out).trans RA.out)
  have D6 := hid (BB.out.trans (B6.out.mono (Nat.le_of_lt (Nat.lt_of_succ_lt SZ.out))))
  clear RR RA BB HS HK c0 c1 c2 c3 s6 sb sb6
  go_wp2_with (first
   | (refine wpList_store_row rfl 29 (.tmp 2) (.tmp 49) rfl w.heap.size #[.int .i64 0, .int .i64 0, .float .f64 0, .slice none 0 0] rfl rfl 29 _ R6.out ?s1 ?s2 ?s3 ?_))
  case s1 => exact size29
  case s2 => rfl
  case s3 => simp [Value.oneCell']
  exact bodyPost_ret (results_cell_tmp Tryz.results100 _ _ w.heap.size 29 #[.int .i64 0, .int .i64 0, .float .f64 0, .slice none 0 0] (0, 0) _ rfl (setRow_heap _ _ _ _ _ _ R6.out) Tryz.underlying29 rfl size29) rfl ⟨rfl, below_setRow D6.out (Nat.le_refl _) _⟩
end Go.Proofs.YtkfhfjghfadofaaGreat
