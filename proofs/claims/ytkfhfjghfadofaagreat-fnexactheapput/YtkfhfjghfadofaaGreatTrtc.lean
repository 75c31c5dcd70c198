/- The contract of the specification's TupleRead, where both parts are read. Conditions: lists of at most 2^20 bytes, of any room. -/
import Derived.Test.YtkfhfjghfadofaaGreatTrsc
import Derived.Test.YtkfhfjghfadofaaGreatMgb
import Derived.Test.YtkfhfjghfadofaaGreatMga
namespace Go.Proofs.YtkfhfjghfadofaaGreat
open Go.RowKit
set_option maxRecDepth 100000
set_option maxHeartbeats 12800000 in
theorem stread_neq {b off n : Nat} (cap : Nat) (hcap : n ≤ cap) {zs : List Int} {w : World} (h : Reads w (some ⟨b, off, none⟩) n zs) (h10 : 10 ≤ n) (h92 : n ≤ 92) (hb : 10 + tkl zs ≤ n) (hcE : ¬ cap = 10 + tkl zs) {RK RN : Int} {RF : Nat} {RZ : List Int} (hk : readR unfK (keyP zs) = (RK, RN, RF, RZ, true)) {SK SN : Int} {SF : Nat} {SZ : List Int} (hr : readR unfV (valP zs) = (SK, SN, SF, SZ, true)) (hne : ¬ (whole zs = true ∧ limT zs = true)) :
 Calls Tryz.prog 49 #[.slice (some ⟨b, off, none⟩) n cap] w fun e w' => e = .returned (.tuple #[.agg #[.int .i64 0, .int .i64 0, .int .i64 0, .int .i64 0, .float .f64 0, .slice none 0 0, .int .i64 0, .int .i64 0, .float .f64 0, .slice none 0 0], .bool false]) ∧ Below w.heap.size w w' := by
 have hst := fun w a m => run_store Tryz.prog w a (.float .f64 0) m rfl
 have hl := h.len
 have H0 := hid (h.below (two w (.cells #[.int .i64 0, .int .i64 0, .int .i64 0, .int .i64 0, .float .f64 0, .slice none 0 0, .int .i64 0, .int .i64 0, .float .f64 0, .slice none 0 0] 31) (.cells #[.int .i64 0, .int .i64 0, .int .i64 0, .int .i64 0, .float .f64 0, .slice none 0 0, .int .i64 0, .int .i64 0, .float .f64 0, .slice none 0 0] 31)) (Nat.le_refl _))
 have g1 := spec_GetNum cap H0.out (by omega) 0 4 (by omega) (by omega) (by omega)
 have H1 := hid (h.below (two w (.cells #[.int .i64 0, .int .i64 0, .int .i64 0, .int .i64 0, .float .f64 0, .slice none 0 0, .int .i64 0, .int .i64 0, .float .f64 0, .slice none 0 0] 31) (.cells #[.int .i64 (numOf zs 0 4), .int .i64 0, .int .i64 0, .int .i64 0, .float .f64 0, .slice none 0 0, .int .i64 0, .int .i64 0, .float .f64 0, .slice none 0 0] 31)) (Nat.le_refl _))
 have g2 := spec_GetNum cap H1.out (by omega) 4 4 (by omega) (by omega) (by omega)
 have e8 : zs.getD 8 0 = (tkl zs : Int) := by unfold tkl; have := (h.bd 8).1; omega
 have c8 : w.cell? ⟨b, off + 8, none⟩ = some (.int .u8 (tkl zs)) := by
  rcases h.cells with h0 | ⟨b', off', e, hcc⟩
  · omega
  · cases e; rw [hcc 8 (by omega), e8]
 have hk255 : tkl zs ≤ 255 := by have := (h.bd 8).2; omega
 have wk : IntKind.i64.wrap (tkl zs : Int) = (tkl zs : Int) := by rw [IntKind.wrap_i64]; omega
 have d8 := cell_oldx (.cells #[.int .i64 (numOf zs 0 4), .int .i64 (numOf zs 4 4), .int .i64 0, .int .i64 0, .float .f64 0, .slice none 0 0, .int .i64 0, .int .i64 0, .float .f64 0, .slice none 0 0] 31) (cell_oldx (w := w) (.cells #[.int .i64 0, .int .i64 0, .int .i64 0, .int .i64 0, .float .f64 0, .slice none 0 0, .int .i64 0, .int .i64 0, .float .f64 0, .slice none 0 0] 31) c8)
 have R0 := hid (two_rows w (.cells #[.int .i64 0, .int .i64 0, .int .i64 0, .int .i64 0, .float .f64 0, .slice none 0 0, .int .i64 0, .int .i64 0, .float .f64 0, .slice none 0 0] 31) (.cells #[.int .i64 (numOf zs 0 4), .int .i64 (numOf zs 4 4), .int .i64 0, .int .i64 0, .float .f64 0, .slice none 0 0, .int .i64 0, .int .i64 0, .float .f64 0, .slice none 0 0] 31))
 have B0 := hid (two w (.cells #[.int .i64 0, .int .i64 0, .int .i64 0, .int .i64 0, .float .f64 0, .slice none 0 0, .int .i64 0, .int .i64 0, .float .f64 0, .slice none 0 0] 31) (.cells #[.int .i64 (numOf zs 0 4), .int .i64 (numOf zs 4 4), .int .i64 0, .int .i64 0, .float .f64 0, .slice none 0 0, .int .i64 0, .int .i64 0, .float .f64 0, .slice none 0 0] 31))
 have HH := hid (h.below B0.out (Nat.le_refl _))
 have i1 : ¬ (n : Int) < 10 := by omega
 have i2 : ¬ (92 : Int) < (n : Int) := by omega
 have i3 : (8 : Int) < (n : Int) := by omega
 have i4 : ¬ (n : Int) - 10 < (tkl zs : Int) := by omega
 have i5 : (9 : Int) ≤ 9 + (tkl zs : Int) := by omega
 have i6 : 9 + (tkl zs : Int) ≤ (n : Int) := by omega
 have i7 : ¬ cap = 9 := by omega
 have j1 : (n : Int) ≤ (cap : Int) := by omega
 have j2 : 9 + (tkl zs : Int) ≤ (cap : Int) := by omega
 have i8 : 10 + (tkl zs : Int) ≤ (n : Int) := by omega
 have i9 : (0 : Int) ≤ 10 + (tkl zs : Int) := by omega
 have i10 : ¬ cap = 10 + tkl zs := hcE
 have HK := hid hk
 have HV := hid hr
 have BK := hid (readR_bd hk (take_bd (drop_bd h.bd 9) _) (by simp [keyP]; omega)).1
 have BV := hid (readR_bd hr (drop_bd h.bd _) (by simp [valP]; omega)).1
 have SK9 : Hid (∀ U, Reads U (some ⟨b, off, none⟩) n zs → Reads U (some ⟨b, off + 9, none⟩) (tkl zs) (keyP zs)) := hid fun U r => r.sub 9 (tkl zs) (by omega)
 have SV9 : Hid (∀ U, Reads U (some ⟨b, off, none⟩) n zs → Reads U (some ⟨b, off + (10 + tkl zs), none⟩) (n - (10 + tkl zs)) (valP zs)) := hid fun U r => by
  have r := r.sub (10 + tkl zs) (n - (10 + tkl zs)) (by omega)
  rw [List.take_of_length_le (by simp; omega)] at r
  exact r
 have HO := hid h
 have HX : Hid (∀ y x, Same RF y → Same SF x → bytesT (numOf zs 0 4) (numOf zs 4 4) RK RN y RZ.length RZ SK SN x SZ.length SZ ≠ zs) := hid fun y x hy hx => fun e => hne ((bytes_back h.bd (by omega) hk hr hy hx).1 e)
 have NB := hid (And.intro (readK_ok hk (take_bd (drop_bd h.bd 9) _) (Same.refl RF)).2.2 (readV_ok hr (drop_bd h.bd _) (Same.refl SF)).2.2.2)
 have LZ := hid (show RZ.length ≤ 2097152 ∧ SZ.length ≤ 2097152 from ⟨by have := (readR_bd hk (take_bd (drop_bd h.bd 9) _) (by simp [keyP]; omega)).2; omega, by have := (readR_bd hr (drop_bd h.bd _) (by simp [valP]; omega)).2; omega⟩)
 have hbz := hid h.bd
 clear hk hr
 generalize numOf zs 0 4 = A at *
 generalize numOf zs 4 4 = B at *
 generalize numOk zs 0 4 = o1 at *
 generalize numOk zs 4 4 = o2 at *
 generalize tkl zs = kl at *
 clear h H0 H1 e8 c8
 go_enter Tryz.func49, Tryz.ntmps49
 go_wp2_with fail
 refine g1.mono ?_
 rintro e w1 ⟨rfl, h1⟩
 subst w1
 go_wp2_with fail
 refine g2.mono ?_
 rintro e w1 ⟨rfl, h1⟩
 subst w1
 clear g1 g2
 go_wp2_with fail
 generalize hW0 : (w.alloc (.cells #[.int .i64 0, .int .i64 0, .int .i64 0, .int .i64 0, .float .f64 0, .slice none 0 0, .int .i64 0, .int .i64 0, .float .f64 0, .slice none 0 0] 31)).alloc (.cells #[.int .i64 A, .int .i64 B, .int .i64 0, .int .i64 0, .float .f64 0, .slice none 0 0, .int .i64 0, .int .i64 0, .float .f64 0, .slice none 0 0] 31) = W0 at *
 clear hW0 d8
 have zz := R0.out.2.2
 have RR := hid R0.out.1
 have RT := hid R0.out.2.1
 have HZ := hid zz
 clear R0 zz
 refine (spec_KeyRead (cap - 9) (by omega) (SK9.out _ HH.out) (by omega) HK.out).mono ?_
 rintro e w3 ⟨f1, u1, rfl, hf1, S1, o, b3⟩
 obtain ⟨a1, c1, rfl, r, dd1⟩ := Reads.own o BK.out
 have hss1 := fun w a m => run_store Tryz.prog w a (.float .f64 f1) m rfl
 have bA := Below.alloc1 w3 (.cells #[.int .i64 RK, .int .i64 RN, .float .f64 f1, .slice a1 RZ.length c1] 29)
 have zz := b3.size
 have z2 := HZ.out
 have Q2 := hid (heap_alloc_new w3 (.cells #[.int .i64 RK, .int .i64 RN, .float .f64 f1, .slice a1 RZ.length c1] 29))
 replace RR := hid ((heap_alloc_old w3 (.cells #[.int .i64 RK, .int .i64 RN, .float .f64 f1, .slice a1 RZ.length c1] 29) (show w.heap.size < w3.heap.size by omega)).trans ((b3.block w.heap.size (by omega)).trans RR.out))
 replace RT := hid ((heap_alloc_old w3 (.cells #[.int .i64 RK, .int .i64 RN, .float .f64 f1, .slice a1 RZ.length c1] 29) (show w.heap.size + 1 < w3.heap.size by omega)).trans ((b3.block (w.heap.size + 1) (by omega)).trans RT.out))
 replace B0 := hid ((B0.out.trans (b3.mono (by omega))).trans (bA.mono (by omega)))
 replace HH := hid ((HH.out.below b3 (Nat.le_refl _)).below bA (Nat.le_refl _))
 have O1 := hid (owns_base (base' := w.heap.size + 2) (o.alloc (.cells #[.int .i64 RK, .int .i64 RN, .float .f64 f1, .slice a1 RZ.length c1] 29)) (by omega))
 have D1 : Hid (In a1 (w.heap.size + 2) w3.heap.size) := hid (by rcases dd1 with h | ⟨g, h, h1, h2⟩; exact .inl h; exact .inr ⟨g, h, by omega, h2⟩)
 have HS3 := hid (show w.heap.size + 2 ≤ w3.heap.size by omega)
 have HS4 := hid (alloc_size w3 (.cells #[.int .i64 RK, .int .i64 RN, .float .f64 f1, .slice a1 RZ.length c1] 29))
 clear o b3 bA r dd1 zz z2
 go_wp2_with fail
 generalize w3.alloc (.cells #[.int .i64 RK, .int .i64 RN, .float .f64 f1, .slice a1 RZ.length c1] 29) = U3 at *
 generalize w3.heap.size = q2 at *
 refine (spec_ValueRead (cap - (10 + kl)) (by omega) (SV9.out _ HH.out) (by omega) HV.out).mono ?_
 rintro e w4 ⟨f2, u2, rfl, hf2, S2, o, b4⟩
 obtain ⟨a2, c2, rfl, r, dd2⟩ := Reads.own o BV.out
 have hss2 := fun w a m => run_store Tryz.prog w a (.float .f64 f2) m rfl
 have bA := Below.alloc1 w4 (.cells #[.int .i64 SK, .int .i64 SN, .float .f64 f2, .slice a2 SZ.length c2] 29)
 have zz := b4.size
 have z3 := HS3.out
 have z4 := HS4.out
 have q3 := heap_alloc_new w4 (.cells #[.int .i64 SK, .int .i64 SN, .float .f64 f2, .slice a2 SZ.length c2] 29)
 replace Q2 := hid ((heap_alloc_old w4 (.cells #[.int .i64 SK, .int .i64 SN, .float .f64 f2, .slice a2 SZ.length c2] 29) (show q2 < w4.heap.size by omega)).trans ((b4.block q2 (by omega)).trans Q2.out))
 have rr := (heap_alloc_old w4 (.cells #[.int .i64 SK, .int .i64 SN, .float .f64 f2, .slice a2 SZ.length c2] 29) (show w.heap.size < w4.heap.size by omega)).trans ((b4.block w.heap.size (by omega)).trans RR.out)
 have rt := (heap_alloc_old w4 (.cells #[.int .i64 SK, .int .i64 SN, .float .f64 f2, .slice a2 SZ.length c2] 29) (show w.heap.size + 1 < w4.heap.size by omega)).trans ((b4.block (w.heap.size + 1) (by omega)).trans RT.out)
 have bb := (B0.out.trans (b4.mono (by omega))).trans (bA.mono (by omega))
 have o1 := (owns_below b4 (Nat.le_refl _) O1.out).alloc (.cells #[.int .i64 SK, .int .i64 SN, .float .f64 f2, .slice a2 SZ.length c2] 29)
 have o2 := owns_base (base' := w.heap.size + 2) (o.alloc (.cells #[.int .i64 SK, .int .i64 SN, .float .f64 f2, .slice a2 SZ.length c2] 29)) (by omega)
 have D2 : Hid (In a2 q2 w4.heap.size) := hid (by rcases dd2 with h | ⟨g, h, h1, h2⟩; exact .inl h; exact .inr ⟨g, h, by omega, h2⟩)
 have TA := hid rt
 have TB := hid (setRow_heap (w4.alloc (.cells #[.int .i64 SK, .int .i64 SN, .float .f64 f2, .slice a2 SZ.length c2] 29)) (w.heap.size + 1) _ #[.int .i64 A, .int .i64 B, .int .i64 RK, .int .i64 RN, .float .f64 f1, .slice a1 RZ.length c1, .int .i64 0, .int .i64 0, .float .f64 0, .slice none 0 0] _ _ rt)
 have Q3 := hid ((setRow_other (w4.alloc (.cells #[.int .i64 SK, .int .i64 SN, .float .f64 f2, .slice a2 SZ.length c2] 29)) (w.heap.size + 1) w4.heap.size #[.int .i64 A, .int .i64 B, .int .i64 RK, .int .i64 RN, .float .f64 f1, .slice a1 RZ.length c1, .int .i64 0, .int .i64 0, .float .f64 0, .slice none 0 0] (by omega)).trans q3)
 have TF := hid (setRow_heap _ (w.heap.size + 1) _ #[.int .i64 A, .int .i64 B, .int .i64 RK, .int .i64 RN, .float .f64 f1, .slice a1 RZ.length c1, .int .i64 SK, .int .i64 SN, .float .f64 f2, .slice a2 SZ.length c2] _ _ TB.out)
 have RF := hid ((setRow_other ((w4.alloc (.cells #[.int .i64 SK, .int .i64 SN, .float .f64 f2, .slice a2 SZ.length c2] 29)).setRow (w.heap.size + 1) #[.int .i64 A, .int .i64 B, .int .i64 RK, .int .i64 RN, .float .f64 f1, .slice a1 RZ.length c1, .int .i64 0, .int .i64 0, .float .f64 0, .slice none 0 0]) (w.heap.size + 1) w.heap.size #[.int .i64 A, .int .i64 B, .int .i64 RK, .int .i64 RN, .float .f64 f1, .slice a1 RZ.length c1, .int .i64 SK, .int .i64 SN, .float .f64 f2, .slice a2 SZ.length c2] (by omega)).trans ((setRow_other (w4.alloc (.cells #[.int .i64 SK, .int .i64 SN, .float .f64 f2, .slice a2 SZ.length c2] 29)) (w.heap.size + 1) w.heap.size #[.int .i64 A, .int .i64 B, .int .i64 RK, .int .i64 RN, .float .f64 f1, .slice a1 RZ.length c1, .int .i64 0, .int .i64 0, .float .f64 0, .slice none 0 0] (by omega)).trans rr))
 have B5 := hid (below_setRow (below_setRow bb (show w.heap.size ≤ w.heap.size + 1 by omega) #[.int .i64 A, .int .i64 B, .int .i64 RK, .int .i64 RN, .float .f64 f1, .slice a1 RZ.length c1, .int .i64 0, .int .i64 0, .float .f64 0, .slice none 0 0]) (show w.heap.size ≤ w.heap.size + 1 by omega) #[.int .i64 A, .int .i64 B, .int .i64 RK, .int .i64 RN, .float .f64 f1, .slice a1 RZ.length c1, .int .i64 SK, .int .i64 SN, .float .f64 f2, .slice a2 SZ.length c2])
 have G : ∀ (u : World) (R : Array Value), u.grownBy (u.setRow (w.heap.size + 1) R) (some (w.heap.size + 1)) := fun u R => ⟨rfl, rfl, rfl, by simp, fun i _ hne => setRow_other _ _ _ _ (fun e => hne (by rw [e]))⟩
 have NE : ∀ (a : Option Addr) (n c : Nat) (u : World) (xs : List Value), u.ownsRow (w.heap.size + 2) 5 1 (.slice a n c) n xs → (Value.slice a n c).ownBlock = none ∨ (Value.slice a n c).ownBlock ≠ some (w.heap.size + 1) := fun a n c u xs o => .inr fun e => by have := (o.lt _ e).1; omega
 have o1' := o1.kept (G _ #[.int .i64 A, .int .i64 B, .int .i64 RK, .int .i64 RN, .float .f64 f1, .slice a1 RZ.length c1, .int .i64 0, .int .i64 0, .float .f64 0, .slice none 0 0]) (NE _ _ _ _ _ o1)
 have o2' := o2.kept (G _ #[.int .i64 A, .int .i64 B, .int .i64 RK, .int .i64 RN, .float .f64 f1, .slice a1 RZ.length c1, .int .i64 0, .int .i64 0, .float .f64 0, .slice none 0 0]) (NE _ _ _ _ _ o2)
 replace O1 := hid (o1'.kept (G _ #[.int .i64 A, .int .i64 B, .int .i64 RK, .int .i64 RN, .float .f64 f1, .slice a1 RZ.length c1, .int .i64 SK, .int .i64 SN, .float .f64 f2, .slice a2 SZ.length c2]) (NE _ _ _ _ _ o1'))
 have O2 := hid (o2'.kept (G _ #[.int .i64 A, .int .i64 B, .int .i64 RK, .int .i64 RN, .float .f64 f1, .slice a1 RZ.length c1, .int .i64 SK, .int .i64 SN, .float .f64 f2, .slice a2 SZ.length c2]) (NE _ _ _ _ _ o2'))
 have SZ5 := hid (show w.heap.size + 1 < (((w4.alloc (.cells #[.int .i64 SK, .int .i64 SN, .float .f64 f2, .slice a2 SZ.length c2] 29)).setRow (w.heap.size + 1) #[.int .i64 A, .int .i64 B, .int .i64 RK, .int .i64 RN, .float .f64 f1, .slice a1 RZ.length c1, .int .i64 0, .int .i64 0, .float .f64 0, .slice none 0 0]).setRow (w.heap.size + 1) #[.int .i64 A, .int .i64 B, .int .i64 RK, .int .i64 RN, .float .f64 f1, .slice a1 RZ.length c1, .int .i64 SK, .int .i64 SN, .float .f64 f2, .slice a2 SZ.length c2]).heap.size by simp; omega)
 clear o b4 bA r dd2 zz z3 z4 q3 rr rt bb o1 o2 o1' o2' G NE RR RT B0 HH HS3 HS4 HZ
 obtain ⟨kk0, kk1, kk2, kk3⟩ := row_cells Q2.out
 obtain ⟨ll0, ll1, ll2, ll3⟩ := row_cells Q3.out
 go_wp2_with (first
  | (refine wpList_store_part rfl 29 (.tmp 58) (.tmp 57) rfl (w.heap.size + 1) 2 #[.int .i64 RK, .int .i64 RN, .float .f64 f1, .slice a1 RZ.length c1] rfl rfl 31 _ TA.out ?s1 ?s2 ?s3 #[.int .i64 A, .int .i64 B, .int .i64 RK, .int .i64 RN, .float .f64 f1, .slice a1 RZ.length c1, .int .i64 0, .int .i64 0, .float .f64 0, .slice none 0 0] rfl ?_)
  | (refine wpList_store_part rfl 29 (.tmp 60) (.tmp 59) rfl (w.heap.size + 1) 6 #[.int .i64 SK, .int .i64 SN, .float .f64 f2, .slice a2 SZ.length c2] rfl rfl 31 _ TB.out ?s4 ?s5 ?s6 #[.int .i64 A, .int .i64 B, .int .i64 RK, .int .i64 RN, .float .f64 f1, .slice a1 RZ.length c1, .int .i64 SK, .int .i64 SN, .float .f64 f2, .slice a2 SZ.length c2] rfl ?_))
 case s1 => exact size_it'
 case s2 => simp
 case s3 => simp [Value.oneCell']
 case s4 => exact size_it'
 case s5 => simp
 case s6 => simp [Value.oneCell']
 generalize ((w4.alloc (.cells #[.int .i64 SK, .int .i64 SN, .float .f64 f2, .slice a2 SZ.length c2] 29)).setRow (w.heap.size + 1) #[.int .i64 A, .int .i64 B, .int .i64 RK, .int .i64 RN, .float .f64 f1, .slice a1 RZ.length c1, .int .i64 0, .int .i64 0, .float .f64 0, .slice none 0 0]).setRow (w.heap.size + 1) #[.int .i64 A, .int .i64 B, .int .i64 RK, .int .i64 RN, .float .f64 f1, .slice a1 RZ.length c1, .int .i64 SK, .int .i64 SN, .float .f64 f2, .slice a2 SZ.length c2] = W5 at *
 clear TA TB Q2 Q3 kk0 kk1 kk2 kk3 ll0 ll1 ll2 ll3
 have HB5 := hid (HO.out.below B5.out (Nat.le_refl _))
 have HS : Hid (∀ W, Below W5.heap.size W5 W → (convert 22 9 (.slice (some ⟨b, off, none⟩) n cap)).run Tryz.prog W = .ok (.string (str zs)) W) := hid (fun W bw => (HB5.out.below bw (Nat.le_refl _)).str cap 22 Tryz.underlying22 Tryz.underlying5 Tryz.underlying9)
 have RD1 : Hid (Reads W5 a1 RZ.length RZ) := hid (by obtain ⟨_, _, e9, r9, _⟩ := Reads.own O1.out BK.out; obtain ⟨rfl, _, rfl⟩ := Value.slice.inj e9; exact r9)
 have RD2 : Hid (Reads W5 a2 SZ.length SZ) := hid (by obtain ⟨_, _, e9, r9, _⟩ := Reads.own O2.out BV.out; obtain ⟨rfl, _, rfl⟩ := Value.slice.inj e9; exact r9)
 obtain ⟨BL, hBL⟩ : ∃ BL, bytesT A B RK RN f1 RZ.length RZ SK SN f2 SZ.length SZ = BL := ⟨_, rfl⟩
 have HK5 : Hid (∀ W, Below W5.heap.size W5 W → Calls Tryz.prog 29 #[.agg #[.int .i64 A, .int .i64 B, .int .i64 RK, .int .i64 RN, .float .f64 f1, .slice a1 RZ.length c1, .int .i64 SK, .int .i64 SN, .float .f64 f2, .slice a2 SZ.length c2]] W fun e w' => ∃ v, e = .returned v ∧ w'.ownsRow W.heap.size 5 1 v BL.length (bys BL) ∧ Below W.heap.size W w') := hid (fun W bw => by
  have := spec_TupleBytes A B RK RN f1 c1 SK SN f2 c2 (RD1.out.below bw (Nat.le_refl _)) (RD2.out.below bw (Nat.le_refl _)) (own_nil O1.out) (own_nil O2.out) LZ.out.1 LZ.out.2 NB.out.1 NB.out.2 hf1 hf2
  rw [hBL] at this
  exact this)
 have bdB : ∀ i, 0 ≤ BL.getD i 0 ∧ BL.getD i 0 ≤ 255 := by rw [← hBL]; exact bytesT_bd BK.out BV.out rfl rfl
 have HQ := hid (str_eq (a := BL) (b := zs) bdB hbz.out)
 have HE := HX.out f1 f2 S1.out S2.out
 rw [hBL] at HE
 rw [decide_eq_false HE] at HQ
 have SB := hid (fun (w : World) (ad : Option Addr) (cap : Nat) (r : Reads w ad BL.length BL) => r.str cap 22 Tryz.underlying22 Tryz.underlying5 Tryz.underlying9)
 clear HE hBL
 have q := HQ.out
 clear HQ
 generalize str zs = s2 at *
 generalize str BL = s1 at *
 have D5 := hid ((Still.drew W5).below W5.heap.size)
 refine region_K 99 (fun W => BoxT W (w.heap.size + 1) A B RK RN f1 a1 RZ.length c1 SK SN f2 a2 SZ.length c2 ∧ (convert 22 9 (.slice (some ⟨b, off, none⟩) n cap)).run Tryz.prog W = .ok (.string s2) W) (by kernel_rfl) ?_ (fun hHeld => ?_)
 · exact ⟨(BoxT.row TF.out).below D5.out (Nat.le_refl _), HS.out _ D5.out⟩
 refine anyK_take2 (i := 0) (v := ?v101) rfl (by kernel_rfl) (by kernel_rfl) (by kernel_rfl) (by rfl) (fun _ _ _ h => h) (by rfl) hHeld ?hy101 (some 61) (by rfl) ?rest101
 case hy101 => (intro W hSw; obtain ⟨⟨c0, c1x, c2x, c3, c4, c5, c6, c7, c8, c9⟩, sb⟩ := hSw; go_simp; (try with_reducible rfl))
 try simp only [Act.put]
 try simp only [List.setIfInBounds_toArray]
 try simp only [List.set_cons_succ, List.set_cons_zero]
 refine anyK_take2 (i := 1) (v := ?v102) rfl (by kernel_rfl) (by kernel_rfl) (by kernel_rfl) (by rfl) (fun _ _ _ h => h) (by rfl) hHeld ?hy102 (some 62) (by rfl) ?rest102
 case hy102 => (intro W hSw; obtain ⟨⟨c0, c1x, c2x, c3, c4, c5, c6, c7, c8, c9⟩, sb⟩ := hSw; go_simp; (try with_reducible rfl))
 try simp only [Act.put]
 try simp only [List.setIfInBounds_toArray]
 try simp only [List.set_cons_succ, List.set_cons_zero]
 refine anyK_take2 (i := 2) (v := ?v103) rfl (by kernel_rfl) (by kernel_rfl) (by kernel_rfl) (by rfl) (fun _ _ _ h => h) (by rfl) hHeld ?hy103 (some 63) (by rfl) ?rest103
 case hy103 => (intro W hSw; obtain ⟨⟨c0, c1x, c2x, c3, c4, c5, c6, c7, c8, c9⟩, sb⟩ := hSw; go_simp; (try with_reducible rfl))
 try simp only [Act.put]
 try simp only [List.setIfInBounds_toArray]
 try simp only [List.set_cons_succ, List.set_cons_zero]
 refine anyK_take2 (i := 3) (v := ?v104) rfl (by kernel_rfl) (by kernel_rfl) (by kernel_rfl) (by rfl) (fun _ _ _ h => h) (by rfl) hHeld ?hy104 (some 64) (by rfl) ?rest104
 case hy104 => (intro W hSw; obtain ⟨⟨c0, c1x, c2x, c3, c4, c5, c6, c7, c8, c9⟩, sb⟩ := hSw; go_simp; (try with_reducible rfl))
 try simp only [Act.put]
 try simp only [List.setIfInBounds_toArray]
 try simp only [List.set_cons_succ, List.set_cons_zero]
 refine anyK_take2 (i := 4) (v := ?v105) rfl (by kernel_rfl) (by kernel_rfl) (by kernel_rfl) (by rfl) (fun _ _ _ h => h) (by rfl) hHeld ?hy105 (some 65) (by rfl) ?rest105
 case hy105 => (intro W hSw; obtain ⟨⟨c0, c1x, c2x, c3, c4, c5, c6, c7, c8, c9⟩, sb⟩ := hSw; go_simp; (try with_reducible rfl))
 try simp only [Act.put]
 try simp only [List.setIfInBounds_toArray]
 try simp only [List.set_cons_succ, List.set_cons_zero]
 refine anyK_take2 (i := 5) (v := ?v106) rfl (by kernel_rfl) (by kernel_rfl) (by kernel_rfl) (by rfl) (fun _ _ _ h => h) (by rfl) hHeld ?hy106 (some 66) (by rfl) ?rest106
 case hy106 => (intro W hSw; obtain ⟨⟨c0, c1x, c2x, c3, c4, c5, c6, c7, c8, c9⟩, sb⟩ := hSw; go_simp; (try with_reducible rfl))
 try simp only [Act.put]
 try simp only [List.setIfInBounds_toArray]
 try simp only [List.set_cons_succ, List.set_cons_zero]
 refine anyK_take2 (i := 6) (v := ?v107) rfl (by kernel_rfl) (by kernel_rfl) (by kernel_rfl) (by rfl) (fun _ _ _ h => h) (by rfl) hHeld ?hy107 (some 67) (by rfl) ?rest107
 case hy107 => (intro W hSw; obtain ⟨⟨c0, c1x, c2x, c3, c4, c5, c6, c7, c8, c9⟩, sb⟩ := hSw; go_simp; (try with_reducible rfl))
 try simp only [Act.put]
 try simp only [List.setIfInBounds_toArray]
 try simp only [List.set_cons_succ, List.set_cons_zero]
 refine anyK_take2 (i := 7) (v := ?v108) rfl (by kernel_rfl) (by kernel_rfl) (by kernel_rfl) (by rfl) (fun _ _ _ h => h) (by rfl) hHeld ?hy108 (some 68) (by rfl) ?rest108
 case hy108 => (intro W hSw; obtain ⟨⟨c0, c1x, c2x, c3, c4, c5, c6, c7, c8, c9⟩, sb⟩ := hSw; go_simp; (try with_reducible rfl))
 try simp only [Act.put]
 try simp only [List.setIfInBounds_toArray]
 try simp only [List.set_cons_succ, List.set_cons_zero]
 refine anyK_take2 (i := 10) (v := ?v109) rfl (by kernel_rfl) (by kernel_rfl) (by kernel_rfl) (by rfl) (fun _ _ _ h => h) (by rfl) hHeld ?hy109 (some 71) (by rfl) ?rest109
 case hy109 => (intro W hSw; obtain ⟨⟨c0, c1x, c2x, c3, c4, c5, c6, c7, c8, c9⟩, sb⟩ := hSw; go_simp; (try with_reducible rfl))
 try simp only [Act.put]
 try simp only [List.setIfInBounds_toArray]
 try simp only [List.set_cons_succ, List.set_cons_zero]
 refine anyK_take2 (i := 11) (v := ?v110) rfl (by kernel_rfl) (by kernel_rfl) (by kernel_rfl) (by rfl) (fun _ _ _ h => h) (by rfl) hHeld ?hy110 (some 72) (by rfl) ?rest110
 case hy110 => (intro W hSw; obtain ⟨⟨c0, c1x, c2x, c3, c4, c5, c6, c7, c8, c9⟩, sb⟩ := hSw; go_simp; (try with_reducible rfl))
 try simp only [Act.put]
 try simp only [List.setIfInBounds_toArray]
 try simp only [List.set_cons_succ, List.set_cons_zero]
 refine anyK_step (i := 8) (by kernel_rfl) rfl (fun KP hK => ?_)
 go_simp
 refine (HK5.out _ D5.out).mono ?_
 rintro e w6 ⟨v, rfl, o, b6⟩
 obtain ⟨ad6, cap6, rfl, r6, _⟩ := Reads.own o bdB
 have B6 := hid (D5.out.trans (b6.mono (Nat.le_refl _)))
 have C6 := hid (fun (W : World) (bw : Below w6.heap.size w6 W) => SB.out W _ cap6 (r6.below bw (Nat.le_refl _)))
 have s6 := hid (SB.out _ _ cap6 r6)
 clear o b6 r6
 go_wp2_with fail
 refine hK.out _ _ ?_ (fun hH2 => ?_)
 · exact ⟨(BoxT.row TF.out).below B6.out (Nat.le_refl _), HS.out _ B6.out⟩
 clear hK KP hHeld
 have hHeld := hH2
 clear hH2
 try simp only [Act.put]
 try simp only [List.setIfInBounds_toArray]
 try simp only [List.set_cons_succ, List.set_cons_zero]
 refine anyK_more (fun W => (BoxT W (w.heap.size + 1) A B RK RN f1 a1 RZ.length c1 SK SN f2 a2 SZ.length c2 ∧ (convert 22 9 (.slice (some ⟨b, off, none⟩) n cap)).run Tryz.prog W = .ok (.string s2) W) ∧ (convert 22 9 (.slice ad6 BL.length cap6)).run Tryz.prog W = .ok (.string s1) W) (fun W h => h.1) ⟨hHeld, s6.out⟩ (fun hH2 => ?_)
 clear hHeld
 have hHeld := hH2
 clear hH2
 refine anyK_take2 (i := 9) (v := ?v111) rfl (by kernel_rfl) (by kernel_rfl) (by kernel_rfl) (by rfl) (fun _ _ _ h => h) (by rfl) hHeld ?hy111 (some 70) (by rfl) ?rest111
 case hy111 => (intro W hSw; obtain ⟨⟨⟨c0, c1x, c2x, c3, c4, c5, c6, c7, c8, c9⟩, sb⟩, s6⟩ := hSw; go_simp; (try with_reducible rfl))
 try simp only [Act.put]
 try simp only [List.setIfInBounds_toArray]
 try simp only [List.set_cons_succ, List.set_cons_zero]
 refine anyK_take2 (i := 12) (v := ?v112) rfl (by kernel_rfl) (by kernel_rfl) (by kernel_rfl) (by rfl) (fun _ _ _ h => h) (by rfl) hHeld ?hy112 (some 73) (by rfl) ?rest112
 case hy112 => (intro W hSw; obtain ⟨⟨⟨c0, c1x, c2x, c3, c4, c5, c6, c7, c8, c9⟩, sb⟩, s6⟩ := hSw; go_simp; (try with_reducible rfl))
 try simp only [Act.put]
 try simp only [List.setIfInBounds_toArray]
 try simp only [List.set_cons_succ, List.set_cons_zero]
 refine anyK_take2 (i := 13) (v := ?v113) rfl (by kernel_rfl) (by kernel_rfl) (by kernel_rfl) (by rfl) (fun _ _ _ h => h) (by rfl) hHeld ?hy113 (some 74) (by rfl) ?rest113
 case hy113 => (intro W hSw; obtain ⟨⟨⟨c0, c1x, c2x, c3, c4, c5, c6, c7, c8, c9⟩, sb⟩, s6⟩ := hSw; go_simp; (try with_reducible rfl))
 try simp only [Act.put]
 try simp only [List.setIfInBounds_toArray]
 try simp only [List.set_cons_succ, List.set_cons_zero]
 refine anyK_done (by kernel_rfl) ?_ _
 · have R6 := hid ((B6.out.block w.heap.size (Nat.lt_of_succ_lt SZ5.out)).trans RF.out)
   have A6 := hid ((B6.out.block (w.heap.size + 1) SZ5.out).trans TF.out)
   have D6 := hid (B5.out.trans (B6.out.mono (Nat.le_of_lt (Nat.lt_of_succ_lt SZ5.out))))
   clear RF TF B5 HS HK5 s6 C6 hHeld
   go_wp2_with (first
    | (refine wpList_store_row rfl 31 (.tmp 2) (.tmp 75) rfl w.heap.size #[.int .i64 0, .int .i64 0, .int .i64 0, .int .i64 0, .float .f64 0, .slice none 0 0, .int .i64 0, .int .i64 0, .float .f64 0, .slice none 0 0] rfl rfl 31 _ R6.out ?s7 ?s8 ?s9 ?_))
   case s7 => exact size_tup
   case s8 => rfl
   case s9 => simp [Value.oneCell']
   exact bodyPost_ret (results_cell_tmp Tryz.results49 _ _ w.heap.size 31 _ (0, 0) _ rfl (setRow_heap _ _ _ _ _ _ R6.out) Tryz.underlying31 rfl size_tup) rfl ⟨rfl, below_setRow D6.out (Nat.le_refl _) _⟩
set_option maxHeartbeats 12800000 in
theorem stread_yes {b off n : Nat} (cap : Nat) (hcap : n ≤ cap) {zs : List Int} {w : World} (h : Reads w (some ⟨b, off, none⟩) n zs) (h10 : 10 ≤ n) (h92 : n ≤ 92) (hb : 10 + tkl zs ≤ n) (hcE : ¬ cap = 10 + tkl zs) {RK RN : Int} {RF : Nat} {RZ : List Int} (hk : readR unfK (keyP zs) = (RK, RN, RF, RZ, true)) {SK SN : Int} {SF : Nat} {SZ : List Int} (hr : readR unfV (valP zs) = (SK, SN, SF, SZ, true)) (hw : whole zs = true) (hlm : limT zs = true) :
 Calls Tryz.prog 49 #[.slice (some ⟨b, off, none⟩) n cap] w fun e w' => ∃ (f1 : Nat) (v1 : Value) (f2 : Nat) (v2 : Value), e = .returned (.tuple #[.agg #[.int .i64 (numOf zs 0 4), .int .i64 (numOf zs 4 4), .int .i64 RK, .int .i64 RN, .float .f64 f1, v1, .int .i64 SK, .int .i64 SN, .float .f64 f2, v2], .bool true]) ∧ f1 < 18446744073709551616 ∧ f2 < 18446744073709551616 ∧ Hid (Same RF f1) ∧ Hid (Same SF f2) ∧ w'.ownsRow w.heap.size 5 1 v1 RZ.length (bys RZ) ∧ w'.ownsRow w.heap.size 5 1 v2 SZ.length (bys SZ) ∧ Apart v1 v2 ∧ Below w.heap.size w w' := by
 have hst := fun w a m => run_store Tryz.prog w a (.float .f64 0) m rfl
 have hl := h.len
 have H0 := hid (h.below (two w (.cells #[.int .i64 0, .int .i64 0, .int .i64 0, .int .i64 0, .float .f64 0, .slice none 0 0, .int .i64 0, .int .i64 0, .float .f64 0, .slice none 0 0] 31) (.cells #[.int .i64 0, .int .i64 0, .int .i64 0, .int .i64 0, .float .f64 0, .slice none 0 0, .int .i64 0, .int .i64 0, .float .f64 0, .slice none 0 0] 31)) (Nat.le_refl _))
 have g1 := spec_GetNum cap H0.out (by omega) 0 4 (by omega) (by omega) (by omega)
 have H1 := hid (h.below (two w (.cells #[.int .i64 0, .int .i64 0, .int .i64 0, .int .i64 0, .float .f64 0, .slice none 0 0, .int .i64 0, .int .i64 0, .float .f64 0, .slice none 0 0] 31) (.cells #[.int .i64 (numOf zs 0 4), .int .i64 0, .int .i64 0, .int .i64 0, .float .f64 0, .slice none 0 0, .int .i64 0, .int .i64 0, .float .f64 0, .slice none 0 0] 31)) (Nat.le_refl _))
 have g2 := spec_GetNum cap H1.out (by omega) 4 4 (by omega) (by omega) (by omega)
 have e8 : zs.getD 8 0 = (tkl zs : Int) := by unfold tkl; have := (h.bd 8).1; omega
 have c8 : w.cell? ⟨b, off + 8, none⟩ = some (.int .u8 (tkl zs)) := by
  rcases h.cells with h0 | ⟨b', off', e, hcc⟩
  · omega
  · cases e; rw [hcc 8 (by omega), e8]
 have hk255 : tkl zs ≤ 255 := by have := (h.bd 8).2; omega
 have wk : IntKind.i64.wrap (tkl zs : Int) = (tkl zs : Int) := by rw [IntKind.wrap_i64]; omega
 have d8 := cell_oldx (.cells #[.int .i64 (numOf zs 0 4), .int .i64 (numOf zs 4 4), .int .i64 0, .int .i64 0, .float .f64 0, .slice none 0 0, .int .i64 0, .int .i64 0, .float .f64 0, .slice none 0 0] 31) (cell_oldx (w := w) (.cells #[.int .i64 0, .int .i64 0, .int .i64 0, .int .i64 0, .float .f64 0, .slice none 0 0, .int .i64 0, .int .i64 0, .float .f64 0, .slice none 0 0] 31) c8)
 have R0 := hid (two_rows w (.cells #[.int .i64 0, .int .i64 0, .int .i64 0, .int .i64 0, .float .f64 0, .slice none 0 0, .int .i64 0, .int .i64 0, .float .f64 0, .slice none 0 0] 31) (.cells #[.int .i64 (numOf zs 0 4), .int .i64 (numOf zs 4 4), .int .i64 0, .int .i64 0, .float .f64 0, .slice none 0 0, .int .i64 0, .int .i64 0, .float .f64 0, .slice none 0 0] 31))
 have B0 := hid (two w (.cells #[.int .i64 0, .int .i64 0, .int .i64 0, .int .i64 0, .float .f64 0, .slice none 0 0, .int .i64 0, .int .i64 0, .float .f64 0, .slice none 0 0] 31) (.cells #[.int .i64 (numOf zs 0 4), .int .i64 (numOf zs 4 4), .int .i64 0, .int .i64 0, .float .f64 0, .slice none 0 0, .int .i64 0, .int .i64 0, .float .f64 0, .slice none 0 0] 31))
 have HH := hid (h.below B0.out (Nat.le_refl _))
 have i1 : ¬ (n : Int) < 10 := by omega
 have i2 : ¬ (92 : Int) < (n : Int) := by omega
 have i3 : (8 : Int) < (n : Int) := by omega
 have i4 : ¬ (n : Int) - 10 < (tkl zs : Int) := by omega
 have i5 : (9 : Int) ≤ 9 + (tkl zs : Int) := by omega
 have i6 : 9 + (tkl zs : Int) ≤ (n : Int) := by omega
 have i7 : ¬ cap = 9 := by omega
 have j1 : (n : Int) ≤ (cap : Int) := by omega
 have j2 : 9 + (tkl zs : Int) ≤ (cap : Int) := by omega
 have i8 : 10 + (tkl zs : Int) ≤ (n : Int) := by omega
 have i9 : (0 : Int) ≤ 10 + (tkl zs : Int) := by omega
 have i10 : ¬ cap = 10 + tkl zs := hcE
 have HK := hid hk
 have HV := hid hr
 have BK := hid (readR_bd hk (take_bd (drop_bd h.bd 9) _) (by simp [keyP]; omega)).1
 have BV := hid (readR_bd hr (drop_bd h.bd _) (by simp [valP]; omega)).1
 have SK9 : Hid (∀ U, Reads U (some ⟨b, off, none⟩) n zs → Reads U (some ⟨b, off + 9, none⟩) (tkl zs) (keyP zs)) := hid fun U r => r.sub 9 (tkl zs) (by omega)
 have SV9 : Hid (∀ U, Reads U (some ⟨b, off, none⟩) n zs → Reads U (some ⟨b, off + (10 + tkl zs), none⟩) (n - (10 + tkl zs)) (valP zs)) := hid fun U r => by
  have r := r.sub (10 + tkl zs) (n - (10 + tkl zs)) (by omega)
  rw [List.take_of_length_le (by simp; omega)] at r
  exact r
 have HO := hid h
 have HX : Hid (∀ y x, Same RF y → Same SF x → bytesT (numOf zs 0 4) (numOf zs 4 4) RK RN y RZ.length RZ SK SN x SZ.length SZ = zs) := hid fun y x hy hx => (bytes_back h.bd (by omega) hk hr hy hx).2 ⟨hw, hlm⟩
 have NB := hid (And.intro (readK_ok hk (take_bd (drop_bd h.bd 9) _) (Same.refl RF)).2.2 (readV_ok hr (drop_bd h.bd _) (Same.refl SF)).2.2.2)
 have LZ := hid (show RZ.length ≤ 2097152 ∧ SZ.length ≤ 2097152 from ⟨by have := (readR_bd hk (take_bd (drop_bd h.bd 9) _) (by simp [keyP]; omega)).2; omega, by have := (readR_bd hr (drop_bd h.bd _) (by simp [valP]; omega)).2; omega⟩)
 have hbz := hid h.bd
 clear hk hr
 generalize numOf zs 0 4 = A at *
 generalize numOf zs 4 4 = B at *
 generalize numOk zs 0 4 = o1 at *
 generalize numOk zs 4 4 = o2 at *
 generalize tkl zs = kl at *
 clear h H0 H1 e8 c8
 go_enter Tryz.func49, Tryz.ntmps49
 go_wp2_with fail
 refine g1.mono ?_
 rintro e w1 ⟨rfl, h1⟩
 subst w1
 go_wp2_with fail
 refine g2.mono ?_
 rintro e w1 ⟨rfl, h1⟩
 subst w1
 clear g1 g2
 go_wp2_with fail
 generalize hW0 : (w.alloc (.cells #[.int .i64 0, .int .i64 0, .int .i64 0, .int .i64 0, .float .f64 0, .slice none 0 0, .int .i64 0, .int .i64 0, .float .f64 0, .slice none 0 0] 31)).alloc (.cells #[.int .i64 A, .int .i64 B, .int .i64 0, .int .i64 0, .float .f64 0, .slice none 0 0, .int .i64 0, .int .i64 0, .float .f64 0, .slice none 0 0] 31) = W0 at *
 clear hW0 d8
 have zz := R0.out.2.2
 have RR := hid R0.out.1
 have RT := hid R0.out.2.1
 have HZ := hid zz
 clear R0 zz
 refine (spec_KeyRead (cap - 9) (by omega) (SK9.out _ HH.out) (by omega) HK.out).mono ?_
 rintro e w3 ⟨f1, u1, rfl, hf1, S1, o, b3⟩
 obtain ⟨a1, c1, rfl, r, dd1⟩ := Reads.own o BK.out
 have hss1 := fun w a m => run_store Tryz.prog w a (.float .f64 f1) m rfl
 have bA := Below.alloc1 w3 (.cells #[.int .i64 RK, .int .i64 RN, .float .f64 f1, .slice a1 RZ.length c1] 29)
 have zz := b3.size
 have z2 := HZ.out
 have Q2 := hid (heap_alloc_new w3 (.cells #[.int .i64 RK, .int .i64 RN, .float .f64 f1, .slice a1 RZ.length c1] 29))
 replace RR := hid ((heap_alloc_old w3 (.cells #[.int .i64 RK, .int .i64 RN, .float .f64 f1, .slice a1 RZ.length c1] 29) (show w.heap.size < w3.heap.size by omega)).trans ((b3.block w.heap.size (by omega)).trans RR.out))
 replace RT := hid ((heap_alloc_old w3 (.cells #[.int .i64 RK, .int .i64 RN, .float .f64 f1, .slice a1 RZ.length c1] 29) (show w.heap.size + 1 < w3.heap.size by omega)).trans ((b3.block (w.heap.size + 1) (by omega)).trans RT.out))
 replace B0 := hid ((B0.out.trans (b3.mono (by omega))).trans (bA.mono (by omega)))
 replace HH := hid ((HH.out.below b3 (Nat.le_refl _)).below bA (Nat.le_refl _))
 have O1 := hid (owns_base (base' := w.heap.size + 2) (o.alloc (.cells #[.int .i64 RK, .int .i64 RN, .float .f64 f1, .slice a1 RZ.length c1] 29)) (by omega))
 have D1 : Hid (In a1 (w.heap.size + 2) w3.heap.size) := hid (by rcases dd1 with h | ⟨g, h, h1, h2⟩; exact .inl h; exact .inr ⟨g, h, by omega, h2⟩)
 have HS3 := hid (show w.heap.size + 2 ≤ w3.heap.size by omega)
 have HS4 := hid (alloc_size w3 (.cells #[.int .i64 RK, .int .i64 RN, .float .f64 f1, .slice a1 RZ.length c1] 29))
 clear o b3 bA r dd1 zz z2
 go_wp2_with fail
 generalize w3.alloc (.cells #[.int .i64 RK, .int .i64 RN, .float .f64 f1, .slice a1 RZ.length c1] 29) = U3 at *
 generalize w3.heap.size = q2 at *
 refine (spec_ValueRead (cap - (10 + kl)) (by omega) (SV9.out _ HH.out) (by omega) HV.out).mono ?_
 rintro e w4 ⟨f2, u2, rfl, hf2, S2, o, b4⟩
 obtain ⟨a2, c2, rfl, r, dd2⟩ := Reads.own o BV.out
 have hss2 := fun w a m => run_store Tryz.prog w a (.float .f64 f2) m rfl
 have bA := Below.alloc1 w4 (.cells #[.int .i64 SK, .int .i64 SN, .float .f64 f2, .slice a2 SZ.length c2] 29)
 have zz := b4.size
 have z3 := HS3.out
 have z4 := HS4.out
 have q3 := heap_alloc_new w4 (.cells #[.int .i64 SK, .int .i64 SN, .float .f64 f2, .slice a2 SZ.length c2] 29)
 replace Q2 := hid ((heap_alloc_old w4 (.cells #[.int .i64 SK, .int .i64 SN, .float .f64 f2, .slice a2 SZ.length c2] 29) (show q2 < w4.heap.size by omega)).trans ((b4.block q2 (by omega)).trans Q2.out))
 have rr := (heap_alloc_old w4 (.cells #[.int .i64 SK, .int .i64 SN, .float .f64 f2, .slice a2 SZ.length c2] 29) (show w.heap.size < w4.heap.size by omega)).trans ((b4.block w.heap.size (by omega)).trans RR.out)
 have rt := (heap_alloc_old w4 (.cells #[.int .i64 SK, .int .i64 SN, .float .f64 f2, .slice a2 SZ.length c2] 29) (show w.heap.size + 1 < w4.heap.size by omega)).trans ((b4.block (w.heap.size + 1) (by omega)).trans RT.out)
 have bb := (B0.out.trans (b4.mono (by omega))).trans (bA.mono (by omega))
 have o1 := (owns_below b4 (Nat.le_refl _) O1.out).alloc (.cells #[.int .i64 SK, .int .i64 SN, .float .f64 f2, .slice a2 SZ.length c2] 29)
 have o2 := owns_base (base' := w.heap.size + 2) (o.alloc (.cells #[.int .i64 SK, .int .i64 SN, .float .f64 f2, .slice a2 SZ.length c2] 29)) (by omega)
 have D2 : Hid (In a2 q2 w4.heap.size) := hid (by rcases dd2 with h | ⟨g, h, h1, h2⟩; exact .inl h; exact .inr ⟨g, h, by omega, h2⟩)
 have TA := hid rt
 have TB := hid (setRow_heap (w4.alloc (.cells #[.int .i64 SK, .int .i64 SN, .float .f64 f2, .slice a2 SZ.length c2] 29)) (w.heap.size + 1) _ #[.int .i64 A, .int .i64 B, .int .i64 RK, .int .i64 RN, .float .f64 f1, .slice a1 RZ.length c1, .int .i64 0, .int .i64 0, .float .f64 0, .slice none 0 0] _ _ rt)
 have Q3 := hid ((setRow_other (w4.alloc (.cells #[.int .i64 SK, .int .i64 SN, .float .f64 f2, .slice a2 SZ.length c2] 29)) (w.heap.size + 1) w4.heap.size #[.int .i64 A, .int .i64 B, .int .i64 RK, .int .i64 RN, .float .f64 f1, .slice a1 RZ.length c1, .int .i64 0, .int .i64 0, .float .f64 0, .slice none 0 0] (by omega)).trans q3)
 have TF := hid (setRow_heap _ (w.heap.size + 1) _ #[.int .i64 A, .int .i64 B, .int .i64 RK, .int .i64 RN, .float .f64 f1, .slice a1 RZ.length c1, .int .i64 SK, .int .i64 SN, .float .f64 f2, .slice a2 SZ.length c2] _ _ TB.out)
 have RF := hid ((setRow_other ((w4.alloc (.cells #[.int .i64 SK, .int .i64 SN, .float .f64 f2, .slice a2 SZ.length c2] 29)).setRow (w.heap.size + 1) #[.int .i64 A, .int .i64 B, .int .i64 RK, .int .i64 RN, .float .f64 f1, .slice a1 RZ.length c1, .int .i64 0, .int .i64 0, .float .f64 0, .slice none 0 0]) (w.heap.size + 1) w.heap.size #[.int .i64 A, .int .i64 B, .int .i64 RK, .int .i64 RN, .float .f64 f1, .slice a1 RZ.length c1, .int .i64 SK, .int .i64 SN, .float .f64 f2, .slice a2 SZ.length c2] (by omega)).trans ((setRow_other (w4.alloc (.cells #[.int .i64 SK, .int .i64 SN, .float .f64 f2, .slice a2 SZ.length c2] 29)) (w.heap.size + 1) w.heap.size #[.int .i64 A, .int .i64 B, .int .i64 RK, .int .i64 RN, .float .f64 f1, .slice a1 RZ.length c1, .int .i64 0, .int .i64 0, .float .f64 0, .slice none 0 0] (by omega)).trans rr))
 have B5 := hid (below_setRow (below_setRow bb (show w.heap.size ≤ w.heap.size + 1 by omega) #[.int .i64 A, .int .i64 B, .int .i64 RK, .int .i64 RN, .float .f64 f1, .slice a1 RZ.length c1, .int .i64 0, .int .i64 0, .float .f64 0, .slice none 0 0]) (show w.heap.size ≤ w.heap.size + 1 by omega) #[.int .i64 A, .int .i64 B, .int .i64 RK, .int .i64 RN, .float .f64 f1, .slice a1 RZ.length c1, .int .i64 SK, .int .i64 SN, .float .f64 f2, .slice a2 SZ.length c2])
 have G : ∀ (u : World) (R : Array Value), u.grownBy (u.setRow (w.heap.size + 1) R) (some (w.heap.size + 1)) := fun u R => ⟨rfl, rfl, rfl, by simp, fun i _ hne => setRow_other _ _ _ _ (fun e => hne (by rw [e]))⟩
 have NE : ∀ (a : Option Addr) (n c : Nat) (u : World) (xs : List Value), u.ownsRow (w.heap.size + 2) 5 1 (.slice a n c) n xs → (Value.slice a n c).ownBlock = none ∨ (Value.slice a n c).ownBlock ≠ some (w.heap.size + 1) := fun a n c u xs o => .inr fun e => by have := (o.lt _ e).1; omega
 have o1' := o1.kept (G _ #[.int .i64 A, .int .i64 B, .int .i64 RK, .int .i64 RN, .float .f64 f1, .slice a1 RZ.length c1, .int .i64 0, .int .i64 0, .float .f64 0, .slice none 0 0]) (NE _ _ _ _ _ o1)
 have o2' := o2.kept (G _ #[.int .i64 A, .int .i64 B, .int .i64 RK, .int .i64 RN, .float .f64 f1, .slice a1 RZ.length c1, .int .i64 0, .int .i64 0, .float .f64 0, .slice none 0 0]) (NE _ _ _ _ _ o2)
 replace O1 := hid (o1'.kept (G _ #[.int .i64 A, .int .i64 B, .int .i64 RK, .int .i64 RN, .float .f64 f1, .slice a1 RZ.length c1, .int .i64 SK, .int .i64 SN, .float .f64 f2, .slice a2 SZ.length c2]) (NE _ _ _ _ _ o1'))
 have O2 := hid (o2'.kept (G _ #[.int .i64 A, .int .i64 B, .int .i64 RK, .int .i64 RN, .float .f64 f1, .slice a1 RZ.length c1, .int .i64 SK, .int .i64 SN, .float .f64 f2, .slice a2 SZ.length c2]) (NE _ _ _ _ _ o2'))
 have SZ5 := hid (show w.heap.size + 1 < (((w4.alloc (.cells #[.int .i64 SK, .int .i64 SN, .float .f64 f2, .slice a2 SZ.length c2] 29)).setRow (w.heap.size + 1) #[.int .i64 A, .int .i64 B, .int .i64 RK, .int .i64 RN, .float .f64 f1, .slice a1 RZ.length c1, .int .i64 0, .int .i64 0, .float .f64 0, .slice none 0 0]).setRow (w.heap.size + 1) #[.int .i64 A, .int .i64 B, .int .i64 RK, .int .i64 RN, .float .f64 f1, .slice a1 RZ.length c1, .int .i64 SK, .int .i64 SN, .float .f64 f2, .slice a2 SZ.length c2]).heap.size by simp; omega)
 clear o b4 bA r dd2 zz z3 z4 q3 rr rt bb o1 o2 o1' o2' G NE RR RT B0 HH HS3 HS4 HZ
 obtain ⟨kk0, kk1, kk2, kk3⟩ := row_cells Q2.out
 obtain ⟨ll0, ll1, ll2, ll3⟩ := row_cells Q3.out
 go_wp2_with (first
  | (refine wpList_store_part rfl 29 (.tmp 58) (.tmp 57) rfl (w.heap.size + 1) 2 #[.int .i64 RK, .int .i64 RN, .float .f64 f1, .slice a1 RZ.length c1] rfl rfl 31 _ TA.out ?s1 ?s2 ?s3 #[.int .i64 A, .int .i64 B, .int .i64 RK, .int .i64 RN, .float .f64 f1, .slice a1 RZ.length c1, .int .i64 0, .int .i64 0, .float .f64 0, .slice none 0 0] rfl ?_)
  | (refine wpList_store_part rfl 29 (.tmp 60) (.tmp 59) rfl (w.heap.size + 1) 6 #[.int .i64 SK, .int .i64 SN, .float .f64 f2, .slice a2 SZ.length c2] rfl rfl 31 _ TB.out ?s4 ?s5 ?s6 #[.int .i64 A, .int .i64 B, .int .i64 RK, .int .i64 RN, .float .f64 f1, .slice a1 RZ.length c1, .int .i64 SK, .int .i64 SN, .float .f64 f2, .slice a2 SZ.length c2] rfl ?_))
 case s1 => exact size_it'
 case s2 => simp
 case s3 => simp [Value.oneCell']
 case s4 => exact size_it'
 case s5 => simp
 case s6 => simp [Value.oneCell']
 generalize ((w4.alloc (.cells #[.int .i64 SK, .int .i64 SN, .float .f64 f2, .slice a2 SZ.length c2] 29)).setRow (w.heap.size + 1) #[.int .i64 A, .int .i64 B, .int .i64 RK, .int .i64 RN, .float .f64 f1, .slice a1 RZ.length c1, .int .i64 0, .int .i64 0, .float .f64 0, .slice none 0 0]).setRow (w.heap.size + 1) #[.int .i64 A, .int .i64 B, .int .i64 RK, .int .i64 RN, .float .f64 f1, .slice a1 RZ.length c1, .int .i64 SK, .int .i64 SN, .float .f64 f2, .slice a2 SZ.length c2] = W5 at *
 clear TA TB Q2 Q3 kk0 kk1 kk2 kk3 ll0 ll1 ll2 ll3
 have HB5 := hid (HO.out.below B5.out (Nat.le_refl _))
 have HS : Hid (∀ W, Below W5.heap.size W5 W → (convert 22 9 (.slice (some ⟨b, off, none⟩) n cap)).run Tryz.prog W = .ok (.string (str zs)) W) := hid (fun W bw => (HB5.out.below bw (Nat.le_refl _)).str cap 22 Tryz.underlying22 Tryz.underlying5 Tryz.underlying9)
 have RD1 : Hid (Reads W5 a1 RZ.length RZ) := hid (by obtain ⟨_, _, e9, r9, _⟩ := Reads.own O1.out BK.out; obtain ⟨rfl, _, rfl⟩ := Value.slice.inj e9; exact r9)
 have RD2 : Hid (Reads W5 a2 SZ.length SZ) := hid (by obtain ⟨_, _, e9, r9, _⟩ := Reads.own O2.out BV.out; obtain ⟨rfl, _, rfl⟩ := Value.slice.inj e9; exact r9)
 obtain ⟨BL, hBL⟩ : ∃ BL, bytesT A B RK RN f1 RZ.length RZ SK SN f2 SZ.length SZ = BL := ⟨_, rfl⟩
 have HK5 : Hid (∀ W, Below W5.heap.size W5 W → Calls Tryz.prog 29 #[.agg #[.int .i64 A, .int .i64 B, .int .i64 RK, .int .i64 RN, .float .f64 f1, .slice a1 RZ.length c1, .int .i64 SK, .int .i64 SN, .float .f64 f2, .slice a2 SZ.length c2]] W fun e w' => ∃ v, e = .returned v ∧ w'.ownsRow W.heap.size 5 1 v BL.length (bys BL) ∧ Below W.heap.size W w') := hid (fun W bw => by
  have := spec_TupleBytes A B RK RN f1 c1 SK SN f2 c2 (RD1.out.below bw (Nat.le_refl _)) (RD2.out.below bw (Nat.le_refl _)) (own_nil O1.out) (own_nil O2.out) LZ.out.1 LZ.out.2 NB.out.1 NB.out.2 hf1 hf2
  rw [hBL] at this
  exact this)
 have bdB : ∀ i, 0 ≤ BL.getD i 0 ∧ BL.getD i 0 ≤ 255 := by rw [← hBL]; exact bytesT_bd BK.out BV.out rfl rfl
 have HQ := hid (str_eq (a := BL) (b := zs) bdB hbz.out)
 have HE := HX.out f1 f2 S1.out S2.out
 rw [hBL] at HE
 rw [decide_eq_true HE] at HQ
 have SB := hid (fun (w : World) (ad : Option Addr) (cap : Nat) (r : Reads w ad BL.length BL) => r.str cap 22 Tryz.underlying22 Tryz.underlying5 Tryz.underlying9)
 clear HE hBL
 have q := HQ.out
 clear HQ
 generalize str zs = s2 at *
 generalize str BL = s1 at *
 have D5 := hid ((Still.drew W5).below W5.heap.size)
 refine region_K 99 (fun W => BoxT W (w.heap.size + 1) A B RK RN f1 a1 RZ.length c1 SK SN f2 a2 SZ.length c2 ∧ (convert 22 9 (.slice (some ⟨b, off, none⟩) n cap)).run Tryz.prog W = .ok (.string s2) W) (by kernel_rfl) ?_ (fun hHeld => ?_)
 · exact ⟨(BoxT.row TF.out).below D5.out (Nat.le_refl _), HS.out _ D5.out⟩
 refine anyK_take2 (i := 0) (v := ?v214) rfl (by kernel_rfl) (by kernel_rfl) (by kernel_rfl) (by rfl) (fun _ _ _ h => h) (by rfl) hHeld ?hy214 (some 61) (by rfl) ?rest214
 case hy214 => (intro W hSw; obtain ⟨⟨c0, c1x, c2x, c3, c4, c5, c6, c7, c8, c9⟩, sb⟩ := hSw; go_simp; (try with_reducible rfl))
 try simp only [Act.put]
 try simp only [List.setIfInBounds_toArray]
 try simp only [List.set_cons_succ, List.set_cons_zero]
 refine anyK_take2 (i := 1) (v := ?v215) rfl (by kernel_rfl) (by kernel_rfl) (by kernel_rfl) (by rfl) (fun _ _ _ h => h) (by rfl) hHeld ?hy215 (some 62) (by rfl) ?rest215
 case hy215 => (intro W hSw; obtain ⟨⟨c0, c1x, c2x, c3, c4, c5, c6, c7, c8, c9⟩, sb⟩ := hSw; go_simp; (try with_reducible rfl))
 try simp only [Act.put]
 try simp only [List.setIfInBounds_toArray]
 try simp only [List.set_cons_succ, List.set_cons_zero]
 refine anyK_take2 (i := 2) (v := ?v216) rfl (by kernel_rfl) (by kernel_rfl) (by kernel_rfl) (by rfl) (fun _ _ _ h => h) (by rfl) hHeld ?hy216 (some 63) (by rfl) ?rest216
 case hy216 => (intro W hSw; obtain ⟨⟨c0, c1x, c2x, c3, c4, c5, c6, c7, c8, c9⟩, sb⟩ := hSw; go_simp; (try with_reducible rfl))
 try simp only [Act.put]
 try simp only [List.setIfInBounds_toArray]
 try simp only [List.set_cons_succ, List.set_cons_zero]
 refine anyK_take2 (i := 3) (v := ?v217) rfl (by kernel_rfl) (by kernel_rfl) (by kernel_rfl) (by rfl) (fun _ _ _ h => h) (by rfl) hHeld ?hy217 (some 64) (by rfl) ?rest217
 case hy217 => (intro W hSw; obtain ⟨⟨c0, c1x, c2x, c3, c4, c5, c6, c7, c8, c9⟩, sb⟩ := hSw; go_simp; (try with_reducible rfl))
 try simp only [Act.put]
 try simp only [List.setIfInBounds_toArray]
 try simp only [List.set_cons_succ, List.set_cons_zero]
 refine anyK_take2 (i := 4) (v := ?v218) rfl (by kernel_rfl) (by kernel_rfl) (by kernel_rfl) (by rfl) (fun _ _ _ h => h) (by rfl) hHeld ?hy218 (some 65) (by rfl) ?rest218
 case hy218 => (intro W hSw; obtain ⟨⟨c0, c1x, c2x, c3, c4, c5, c6, c7, c8, c9⟩, sb⟩ := hSw; go_simp; (try with_reducible rfl))
 try simp only [Act.put]
 try simp only [List.setIfInBounds_toArray]
 try simp only [List.set_cons_succ, List.set_cons_zero]
 refine anyK_take2 (i := 5) (v := ?v219) rfl (by kernel_rfl) (by kernel_rfl) (by kernel_rfl) (by rfl) (fun _ _ _ h => h) (by rfl) hHeld ?hy219 (some 66) (by rfl) ?rest219
 case hy219 => (intro W hSw; obtain ⟨⟨c0, c1x, c2x, c3, c4, c5, c6, c7, c8, c9⟩, sb⟩ := hSw; go_simp; (try with_reducible rfl))
 try simp only [Act.put]
 try simp only [List.setIfInBounds_toArray]
 try simp only [List.set_cons_succ, List.set_cons_zero]
 refine anyK_take2 (i := 6) (v := ?v220) rfl (by kernel_rfl) (by kernel_rfl) (by kernel_rfl) (by rfl) (fun _ _ _ h => h) (by rfl) hHeld ?hy220 (some 67) (by rfl) ?rest220
 case hy220 => (intro W hSw; obtain ⟨⟨c0, c1x, c2x, c3, c4, c5, c6, c7, c8, c9⟩, sb⟩ := hSw; go_simp; (try with_reducible rfl))
 try simp only [Act.put]
 try simp only [List.setIfInBounds_toArray]
 try simp only [List.set_cons_succ, List.set_cons_zero]
 refine anyK_take2 (i := 7) (v := ?v221) rfl (by kernel_rfl) (by kernel_rfl) (by kernel_rfl) (by rfl) (fun _ _ _ h => h) (by rfl) hHeld ?hy221 (some 68) (by rfl) ?rest221
 case hy221 => (intro W hSw; obtain ⟨⟨c0, c1x, c2x, c3, c4, c5, c6, c7, c8, c9⟩, sb⟩ := hSw; go_simp; (try with_reducible rfl))
 try simp only [Act.put]
 try simp only [List.setIfInBounds_toArray]
 try simp only [List.set_cons_succ, List.set_cons_zero]
 refine anyK_take2 (i := 10) (v := ?v222) rfl (by kernel_rfl) (by kernel_rfl) (by kernel_rfl) (by rfl) (fun _ _ _ h => h) (by rfl) hHeld ?hy222 (some 71) (by rfl) ?rest222
 case hy222 => (intro W hSw; obtain ⟨⟨c0, c1x, c2x, c3, c4, c5, c6, c7, c8, c9⟩, sb⟩ := hSw; go_simp; (try with_reducible rfl))
 try simp only [Act.put]
 try simp only [List.setIfInBounds_toArray]
 try simp only [List.set_cons_succ, List.set_cons_zero]
 refine anyK_take2 (i := 11) (v := ?v223) rfl (by kernel_rfl) (by kernel_rfl) (by kernel_rfl) (by rfl) (fun _ _ _ h => h) (by rfl) hHeld ?hy223 (some 72) (by rfl) ?rest223
 case hy223 => (intro W hSw; obtain ⟨⟨c0, c1x, c2x, c3, c4, c5, c6, c7, c8, c9⟩, sb⟩ := hSw; go_simp; (try with_reducible rfl))
 try simp only [Act.put]
 try simp only [List.setIfInBounds_toArray]
 try simp only [List.set_cons_succ, List.set_cons_zero]
 refine anyK_step (i := 8) (by kernel_rfl) rfl (fun KP hK => ?_)
 go_simp
 refine (HK5.out _ D5.out).mono ?_
 rintro e w6 ⟨v, rfl, o, b6⟩
 obtain ⟨ad6, cap6, rfl, r6, _⟩ := Reads.own o bdB
 have B6 := hid (D5.out.trans (b6.mono (Nat.le_refl _)))
 have C6 := hid (fun (W : World) (bw : Below w6.heap.size w6 W) => SB.out W _ cap6 (r6.below bw (Nat.le_refl _)))
 have s6 := hid (SB.out _ _ cap6 r6)
 clear o b6 r6
 go_wp2_with fail
 refine hK.out _ _ ?_ (fun hH2 => ?_)
 · exact ⟨(BoxT.row TF.out).below B6.out (Nat.le_refl _), HS.out _ B6.out⟩
 clear hK KP hHeld
 have hHeld := hH2
 clear hH2
 try simp only [Act.put]
 try simp only [List.setIfInBounds_toArray]
 try simp only [List.set_cons_succ, List.set_cons_zero]
 refine anyK_more (fun W => (BoxT W (w.heap.size + 1) A B RK RN f1 a1 RZ.length c1 SK SN f2 a2 SZ.length c2 ∧ (convert 22 9 (.slice (some ⟨b, off, none⟩) n cap)).run Tryz.prog W = .ok (.string s2) W) ∧ (convert 22 9 (.slice ad6 BL.length cap6)).run Tryz.prog W = .ok (.string s1) W) (fun W h => h.1) ⟨hHeld, s6.out⟩ (fun hH2 => ?_)
 clear hHeld
 have hHeld := hH2
 clear hH2
 refine anyK_take2 (i := 9) (v := ?v224) rfl (by kernel_rfl) (by kernel_rfl) (by kernel_rfl) (by rfl) (fun _ _ _ h => h) (by rfl) hHeld ?hy224 (some 70) (by rfl) ?rest224
 case hy224 => (intro W hSw; obtain ⟨⟨⟨c0, c1x, c2x, c3, c4, c5, c6, c7, c8, c9⟩, sb⟩, s6⟩ := hSw; go_simp; (try with_reducible rfl))
 try simp only [Act.put]
 try simp only [List.setIfInBounds_toArray]
 try simp only [List.set_cons_succ, List.set_cons_zero]
 refine anyK_take2 (i := 12) (v := ?v225) rfl (by kernel_rfl) (by kernel_rfl) (by kernel_rfl) (by rfl) (fun _ _ _ h => h) (by rfl) hHeld ?hy225 (some 73) (by rfl) ?rest225
 case hy225 => (intro W hSw; obtain ⟨⟨⟨c0, c1x, c2x, c3, c4, c5, c6, c7, c8, c9⟩, sb⟩, s6⟩ := hSw; go_simp; (try with_reducible rfl))
 try simp only [Act.put]
 try simp only [List.setIfInBounds_toArray]
 try simp only [List.set_cons_succ, List.set_cons_zero]
 refine anyK_take2 (i := 13) (v := ?v226) rfl (by kernel_rfl) (by kernel_rfl) (by kernel_rfl) (by rfl) (fun _ _ _ h => h) (by rfl) hHeld ?hy226 (some 74) (by rfl) ?rest226
 case hy226 => (intro W hSw; obtain ⟨⟨⟨c0, c1x, c2x, c3, c4, c5, c6, c7, c8, c9⟩, sb⟩, s6⟩ := hSw; go_simp; (try with_reducible rfl))
 try simp only [Act.put]
 try simp only [List.setIfInBounds_toArray]
 try simp only [List.set_cons_succ, List.set_cons_zero]
 refine anyK_done (by kernel_rfl) ?_ _
 · have R6 := hid ((B6.out.block w.heap.size (Nat.lt_of_succ_lt SZ5.out)).trans RF.out)
   have A6 := hid ((B6.out.block (w.heap.size + 1) SZ5.out).trans TF.out)
   have D6 := hid (B5.out.trans (B6.out.mono (Nat.le_of_lt (Nat.lt_of_succ_lt SZ5.out))))
   clear RF TF B5 HS HK5 s6 C6 hHeld
   go_wp2_with (first
    | (refine wpList_load_row rfl 31 (.tmp 4) rfl (w.heap.size + 1) rfl 31 _ (0, 0) _ A6.out Tryz.underlying31 rfl size_tup ?_)
    | (refine wpList_store_row rfl 31 (.tmp 2) (.tmp 76) rfl w.heap.size #[.int .i64 A, .int .i64 B, .int .i64 RK, .int .i64 RN, .float .f64 f1, .slice a1 RZ.length c1, .int .i64 SK, .int .i64 SN, .float .f64 f2, .slice a2 SZ.length c2] rfl rfl 31 _ R6.out ?s7 ?s8 ?s9 ?_))
   case s7 => exact size_tup
   case s8 => rfl
   case s9 => simp [Value.oneCell']
   have G : w6.grownBy (w6.setRow w.heap.size #[.int .i64 A, .int .i64 B, .int .i64 RK, .int .i64 RN, .float .f64 f1, .slice a1 RZ.length c1, .int .i64 SK, .int .i64 SN, .float .f64 f2, .slice a2 SZ.length c2]) (some w.heap.size) := ⟨rfl, rfl, rfl, by simp, fun i _ hne => setRow_other _ _ _ _ (fun e => hne (by rw [e]))⟩
   have NE : ∀ (a : Option Addr) (n c : Nat) (u : World) (xs : List Value), u.ownsRow (w.heap.size + 2) 5 1 (.slice a n c) n xs → (Value.slice a n c).ownBlock = none ∨ (Value.slice a n c).ownBlock ≠ some w.heap.size := fun a n c u xs o => .inr fun e => by have := (o.lt _ e).1; omega
   have p1 := owns_below B6.out (Nat.le_refl _) O1.out
   have p2 := owns_below B6.out (Nat.le_refl _) O2.out
   exact bodyPost_ret (results_cell_tmp Tryz.results49 _ _ w.heap.size 31 _ (0, 0) _ rfl (setRow_heap _ _ _ _ _ _ R6.out) Tryz.underlying31 rfl size_tup) rfl ⟨_, _, _, _, rfl, hf1, hf2, S1, S2, owns_base (p1.kept G (NE _ _ _ _ _ p1)) (by omega), owns_base (p2.kept G (NE _ _ _ _ _ p2)) (by omega), D1.out.own D2.out (.inl (Nat.le_refl _)), below_setRow D6.out (Nat.le_refl _) _⟩
end Go.Proofs.YtkfhfjghfadofaaGreat
