/- The contract of the specification's TupleRead. Conditions: lists of at most 2^20 bytes, of any room. -/
import Derived.Test.YtkfhfjghfadofaaGreatMgd
import Derived.Test.YtkfhfjghfadofaaGreatMgb
import Derived.Test.YtkfhfjghfadofaaGreatVr
import Derived.Test.YtkfhfjghfadofaaGreatPt
namespace Go.Proofs.YtkfhfjghfadofaaGreat
open Go.RowKit
set_option maxRecDepth 100000
set_option maxHeartbeats 1600000 in
theorem stread_out (ad : Option Addr) (n cap : Nat) (h : n < 10 ∨ 92 < n) (hn : n ≤ 2097152) (w : World) :
 Calls Tryz.prog 49 #[.slice ad n cap] w fun e w' => e = .returned (.tuple #[.agg #[.int .i64 0, .int .i64 0, .int .i64 0, .int .i64 0, .float .f64 0, .slice none 0 0, .int .i64 0, .int .i64 0, .float .f64 0, .slice none 0 0], .bool false]) ∧ Below w.heap.size w w' := by
 have hst := fun w a m => run_store Tryz.prog w a (.float .f64 0) m rfl
 have HB := hid (two w (.cells #[.int .i64 0, .int .i64 0, .int .i64 0, .int .i64 0, .float .f64 0, .slice none 0 0, .int .i64 0, .int .i64 0, .float .f64 0, .slice none 0 0] 31) (.cells #[.int .i64 0, .int .i64 0, .int .i64 0, .int .i64 0, .float .f64 0, .slice none 0 0, .int .i64 0, .int .i64 0, .float .f64 0, .slice none 0 0] 31))
 have HR := hid (two_rows w (.cells #[.int .i64 0, .int .i64 0, .int .i64 0, .int .i64 0, .float .f64 0, .slice none 0 0, .int .i64 0, .int .i64 0, .float .f64 0, .slice none 0 0] 31) (.cells #[.int .i64 0, .int .i64 0, .int .i64 0, .int .i64 0, .float .f64 0, .slice none 0 0, .int .i64 0, .int .i64 0, .float .f64 0, .slice none 0 0] 31))
 rcases h with h | h
 · have i1 : (n : Int) < 10 := by omega
   go_enter Tryz.func49, Tryz.ntmps49
   go_wp2_with fail
   exact bodyPost_ret (results_cell_tmp Tryz.results49 _ _ w.heap.size 31 _ (0, 0) _ rfl HR.out.1 Tryz.underlying31 rfl size_tup) rfl ⟨rfl, HB.out⟩
 · have i1 : ¬ (n : Int) < 10 := by omega
   have i2 : (92 : Int) < (n : Int) := by omega
   go_enter Tryz.func49, Tryz.ntmps49
   go_wp2_with fail
   exact bodyPost_ret (results_cell_tmp Tryz.results49 _ _ w.heap.size 31 _ (0, 0) _ rfl HR.out.1 Tryz.underlying31 rfl size_tup) rfl ⟨rfl, HB.out⟩
set_option maxHeartbeats 12800000 in
theorem stread_big {b off n : Nat} (cap : Nat) (_hcap : n ≤ cap) {zs : List Int} {w : World} (h : Reads w (some ⟨b, off, none⟩) n zs) (h10 : 10 ≤ n) (h92 : n ≤ 92) (hb : n < 10 + tkl zs) :
 Calls Tryz.prog 49 #[.slice (some ⟨b, off, none⟩) n cap] w fun e w' => e = .returned (.tuple #[.agg #[.int .i64 0, .int .i64 0, .int .i64 0, .int .i64 0, .float .f64 0, .slice none 0 0, .int .i64 0, .int .i64 0, .float .f64 0, .slice none 0 0], .bool false]) ∧ Below w.heap.size w w' := by
 have hst := fun w a m => run_store Tryz.prog w a (.float .f64 0) m rfl
 have hl := h.len
 have H0 := hid (h.below (two w (.cells #[.int .i64 0, .int .i64 0, .int .i64 0, .int .i64 0, .float .f64 0, .slice none 0 0, .int .i64 0, .int .i64 0, .float .f64 0, .slice none 0 0] 31) (.cells #[.int .i64 0, .int .i64 0, .int .i64 0, .int .i64 0, .float .f64 0, .slice none 0 0, .int .i64 0, .int .i64 0, .float .f64 0, .slice none 0 0] 31)) (Nat.le_refl _))
 have g1 := spec_GetNum cap H0.out (by omega) 0 4 (by omega) (by omega) (by omega)
 have H1 := hid (h.below (two w (.cells #[.int .i64 0, .int .i64 0, .int .i64 0, .int .i64 0, .float .f64 0, .slice none 0 0, .int .i64 0, .int .i64 0, .float .f64 0, .slice none 0 0] 31) (.cells #[.int .i64 (numOf zs 0 4), .int .i64 0, .int .i64 0, .int .i64 0, .float .f64 0, .slice none 0 0, .int .i64 0, .int .i64 0, .float .f64 0, .slice none 0 0] 31)) (Nat.le_refl _))
 have g2 := spec_GetNum cap H1.out (by omega) 4 4 (by omega) (by omega) (by omega)
 have e8 : zs.getD 8 0 = (tkl zs : Int) := by unfold tkl; have := (h.bd 8).1; omega
 have c8 : w.cell? ⟨b, off + 8, none⟩ = some (.int .u8 (tkl zs)) := by
  rcases h.cells with h0 | ⟨b', off', e, hcc⟩
  · omega
  · cases e; rw [hcc 8 (by omega), e8]
 have hk255 : tkl zs ≤ 255 := by have := (h.bd 8).2; omega
 have wk : IntKind.i64.wrap (tkl zs : Int) = (tkl zs : Int) := by rw [IntKind.wrap_i64]; omega
 have d8 := cell_oldx (.cells #[.int .i64 (numOf zs 0 4), .int .i64 (numOf zs 4 4), .int .i64 0, .int .i64 0, .float .f64 0, .slice none 0 0, .int .i64 0, .int .i64 0, .float .f64 0, .slice none 0 0] 31) (cell_oldx (w := w) (.cells #[.int .i64 0, .int .i64 0, .int .i64 0, .int .i64 0, .float .f64 0, .slice none 0 0, .int .i64 0, .int .i64 0, .float .f64 0, .slice none 0 0] 31) c8)
 have R0 := hid (two_rows w (.cells #[.int .i64 0, .int .i64 0, .int .i64 0, .int .i64 0, .float .f64 0, .slice none 0 0, .int .i64 0, .int .i64 0, .float .f64 0, .slice none 0 0] 31) (.cells #[.int .i64 (numOf zs 0 4), .int .i64 (numOf zs 4 4), .int .i64 0, .int .i64 0, .float .f64 0, .slice none 0 0, .int .i64 0, .int .i64 0, .float .f64 0, .slice none 0 0] 31))
 have B0 := hid (two w (.cells #[.int .i64 0, .int .i64 0, .int .i64 0, .int .i64 0, .float .f64 0, .slice none 0 0, .int .i64 0, .int .i64 0, .float .f64 0, .slice none 0 0] 31) (.cells #[.int .i64 (numOf zs 0 4), .int .i64 (numOf zs 4 4), .int .i64 0, .int .i64 0, .float .f64 0, .slice none 0 0, .int .i64 0, .int .i64 0, .float .f64 0, .slice none 0 0] 31))
 have HH := hid (h.below B0.out (Nat.le_refl _))
 have i1 : ¬ (n : Int) < 10 := by omega
 have i2 : ¬ (92 : Int) < (n : Int) := by omega
 have i3 : (8 : Int) < (n : Int) := by omega
 have i4 : (n : Int) - 10 < (tkl zs : Int) := by omega
 generalize numOf zs 0 4 = A at *
 generalize numOf zs 4 4 = B at *
 generalize numOk zs 0 4 = o1 at *
 generalize numOk zs 4 4 = o2 at *
 generalize tkl zs = kl at *
 clear h H0 H1 e8 c8
 go_enter Tryz.func49, Tryz.ntmps49
 go_wp2_with fail
 refine g1.mono ?_
 rintro e w1 ⟨rfl, h1⟩
 subst w1
 go_wp2_with fail
 refine g2.mono ?_
 rintro e w1 ⟨rfl, h1⟩
 subst w1
 clear g1 g2
 go_wp2_with fail
 have HR := hid R0.out.1
 exact bodyPost_ret (results_cell_tmp Tryz.results49 _ _ w.heap.size 31 _ (0, 0) _ rfl HR.out Tryz.underlying31 rfl size_tup) rfl ⟨rfl, B0.out⟩
set_option maxHeartbeats 12800000 in
theorem stread_nok {b off n : Nat} (cap : Nat) (hcap : n ≤ cap) {zs : List Int} {w : World} (h : Reads w (some ⟨b, off, none⟩) n zs) (h10 : 10 ≤ n) (h92 : n ≤ 92) (hb : 10 + tkl zs ≤ n) (hcE : ¬ cap = 10 + tkl zs) {RK RN : Int} {RF : Nat} {RZ : List Int} (hk : readR unfK (keyP zs) = (RK, RN, RF, RZ, false)) {k2 : Bool} {SK SN : Int} {SF : Nat} {SZ : List Int} (hr : readR unfV (valP zs) = (SK, SN, SF, SZ, k2)) :
 Calls Tryz.prog 49 #[.slice (some ⟨b, off, none⟩) n cap] w fun e w' => e = .returned (.tuple #[.agg #[.int .i64 0, .int .i64 0, .int .i64 0, .int .i64 0, .float .f64 0, .slice none 0 0, .int .i64 0, .int .i64 0, .float .f64 0, .slice none 0 0], .bool false]) ∧ Below w.heap.size w w' := by
 have hst := fun w a m => run_store Tryz.prog w a (.float .f64 0) m rfl
 have hl := h.len
 have H0 := hid (h.below (two w (.cells #[.int .i64 0, .int .i64 0, .int .i64 0, .int .i64 0, .float .f64 0, .slice none 0 0, .int .i64 0, .int .i64 0, .float .f64 0, .slice none 0 0] 31) (.cells #[.int .i64 0, .int .i64 0, .int .i64 0, .int .i64 0, .float .f64 0, .slice none 0 0, .int .i64 0, .int .i64 0, .float .f64 0, .slice none 0 0] 31)) (Nat.le_refl _))
 have g1 := spec_GetNum cap H0.out (by omega) 0 4 (by omega) (by omega) (by omega)
 have H1 := hid (h.below (two w (.cells #[.int .i64 0, .int .i64 0, .int .i64 0, .int .i64 0, .float .f64 0, .slice none 0 0, .int .i64 0, .int .i64 0, .float .f64 0, .slice none 0 0] 31) (.cells #[.int .i64 (numOf zs 0 4), .int .i64 0, .int .i64 0, .int .i64 0, .float .f64 0, .slice none 0 0, .int .i64 0, .int .i64 0, .float .f64 0, .slice none 0 0] 31)) (Nat.le_refl _))
 have g2 := spec_GetNum cap H1.out (by omega) 4 4 (by omega) (by omega) (by omega)
 have e8 : zs.getD 8 0 = (tkl zs : Int) := by unfold tkl; have := (h.bd 8).1; omega
 have c8 : w.cell? ⟨b, off + 8, none⟩ = some (.int .u8 (tkl zs)) := by
  rcases h.cells with h0 | ⟨b', off', e, hcc⟩
  · omega
  · cases e; rw [hcc 8 (by omega), e8]
 have hk255 : tkl zs ≤ 255 := by have := (h.bd 8).2; omega
 have wk : IntKind.i64.wrap (tkl zs : Int) = (tkl zs : Int) := by rw [IntKind.wrap_i64]; omega
 have d8 := cell_oldx (.cells #[.int .i64 (numOf zs 0 4), .int .i64 (numOf zs 4 4), .int .i64 0, .int .i64 0, .float .f64 0, .slice none 0 0, .int .i64 0, .int .i64 0, .float .f64 0, .slice none 0 0] 31) (cell_oldx (w := w) (.cells #[.int .i64 0, .int .i64 0, .int .i64 0, .int .i64 0, .float .f64 0, .slice none 0 0, .int .i64 0, .int .i64 0, .float .f64 0, .slice none 0 0] 31) c8)
 have R0 := hid (two_rows w (.cells #[.int .i64 0, .int .i64 0, .int .i64 0, .int .i64 0, .float .f64 0, .slice none 0 0, .int .i64 0, .int .i64 0, .float .f64 0, .slice none 0 0] 31) (.cells #[.int .i64 (numOf zs 0 4), .int .i64 (numOf zs 4 4), .int .i64 0, .int .i64 0, .float .f64 0, .slice none 0 0, .int .i64 0, .int .i64 0, .float .f64 0, .slice none 0 0] 31))
 have B0 := hid (two w (.cells #[.int .i64 0, .int .i64 0, .int .i64 0, .int .i64 0, .float .f64 0, .slice none 0 0, .int .i64 0, .int .i64 0, .float .f64 0, .slice none 0 0] 31) (.cells #[.int .i64 (numOf zs 0 4), .int .i64 (numOf zs 4 4), .int .i64 0, .int .i64 0, .float .f64 0, .slice none 0 0, .int .i64 0, .int .i64 0, .float .f64 0, .slice none 0 0] 31))
 have HH := hid (h.below B0.out (Nat.le_refl _))
 have i1 : ¬ (n : Int) < 10 := by omega
 have i2 : ¬ (92 : Int) < (n : Int) := by omega
 have i3 : (8 : Int) < (n : Int) := by omega
 have i4 : ¬ (n : Int) - 10 < (tkl zs : Int) := by omega
 have i5 : (9 : Int) ≤ 9 + (tkl zs : Int) := by omega
 have i6 : 9 + (tkl zs : Int) ≤ (n : Int) := by omega
 have i7 : ¬ cap = 9 := by omega
 have j1 : (n : Int) ≤ (cap : Int) := by omega
 have j2 : 9 + (tkl zs : Int) ≤ (cap : Int) := by omega
 have i8 : 10 + (tkl zs : Int) ≤ (n : Int) := by omega
 have i9 : (0 : Int) ≤ 10 + (tkl zs : Int) := by omega
 have i10 : ¬ cap = 10 + tkl zs := hcE
 have HK := hid hk
 have HV := hid hr
 have BK := hid (readR_bd hk (take_bd (drop_bd h.bd 9) _) (by simp [keyP]; omega)).1
 have BV := hid (readR_bd hr (drop_bd h.bd _) (by simp [valP]; omega)).1
 have SK9 : Hid (∀ U, Reads U (some ⟨b, off, none⟩) n zs → Reads U (some ⟨b, off + 9, none⟩) (tkl zs) (keyP zs)) := hid fun U r => r.sub 9 (tkl zs) (by omega)
 have SV9 : Hid (∀ U, Reads U (some ⟨b, off, none⟩) n zs → Reads U (some ⟨b, off + (10 + tkl zs), none⟩) (n - (10 + tkl zs)) (valP zs)) := hid fun U r => by
  have r := r.sub (10 + tkl zs) (n - (10 + tkl zs)) (by omega)
  rw [List.take_of_length_le (by simp; omega)] at r
  exact r
 have HO := hid h
 have hbz := hid h.bd
 clear hk hr
 generalize numOf zs 0 4 = A at *
 generalize numOf zs 4 4 = B at *
 generalize numOk zs 0 4 = o1 at *
 generalize numOk zs 4 4 = o2 at *
 generalize tkl zs = kl at *
 clear h H0 H1 e8 c8
 go_enter Tryz.func49, Tryz.ntmps49
 go_wp2_with fail
 refine g1.mono ?_
 rintro e w1 ⟨rfl, h1⟩
 subst w1
 go_wp2_with fail
 refine g2.mono ?_
 rintro e w1 ⟨rfl, h1⟩
 subst w1
 clear g1 g2
 go_wp2_with fail
 generalize hW0 : (w.alloc (.cells #[.int .i64 0, .int .i64 0, .int .i64 0, .int .i64 0, .float .f64 0, .slice none 0 0, .int .i64 0, .int .i64 0, .float .f64 0, .slice none 0 0] 31)).alloc (.cells #[.int .i64 A, .int .i64 B, .int .i64 0, .int .i64 0, .float .f64 0, .slice none 0 0, .int .i64 0, .int .i64 0, .float .f64 0, .slice none 0 0] 31) = W0 at *
 clear hW0 d8
 have zz := R0.out.2.2
 have RR := hid R0.out.1
 have RT := hid R0.out.2.1
 have HZ := hid zz
 clear R0 zz
 refine (spec_KeyRead (cap - 9) (by omega) (SK9.out _ HH.out) (by omega) HK.out).mono ?_
 rintro e w3 ⟨f1, u1, rfl, hf1, S1, o, b3⟩
 obtain ⟨a1, c1, rfl, r, dd1⟩ := Reads.own o BK.out
 have hss1 := fun w a m => run_store Tryz.prog w a (.float .f64 f1) m rfl
 have bA := Below.alloc1 w3 (.cells #[.int .i64 RK, .int .i64 RN, .float .f64 f1, .slice a1 RZ.length c1] 29)
 have zz := b3.size
 have z2 := HZ.out
 have Q2 := hid (heap_alloc_new w3 (.cells #[.int .i64 RK, .int .i64 RN, .float .f64 f1, .slice a1 RZ.length c1] 29))
 replace RR := hid ((heap_alloc_old w3 (.cells #[.int .i64 RK, .int .i64 RN, .float .f64 f1, .slice a1 RZ.length c1] 29) (show w.heap.size < w3.heap.size by omega)).trans ((b3.block w.heap.size (by omega)).trans RR.out))
 replace RT := hid ((heap_alloc_old w3 (.cells #[.int .i64 RK, .int .i64 RN, .float .f64 f1, .slice a1 RZ.length c1] 29) (show w.heap.size + 1 < w3.heap.size by omega)).trans ((b3.block (w.heap.size + 1) (by omega)).trans RT.out))
 replace B0 := hid ((B0.out.trans (b3.mono (by omega))).trans (bA.mono (by omega)))
 replace HH := hid ((HH.out.below b3 (Nat.le_refl _)).below bA (Nat.le_refl _))
 have O1 := hid (owns_base (base' := w.heap.size + 2) (o.alloc (.cells #[.int .i64 RK, .int .i64 RN, .float .f64 f1, .slice a1 RZ.length c1] 29)) (by omega))
 have D1 : Hid (In a1 (w.heap.size + 2) w3.heap.size) := hid (by rcases dd1 with h | ⟨g, h, h1, h2⟩; exact .inl h; exact .inr ⟨g, h, by omega, h2⟩)
 have HS3 := hid (show w.heap.size + 2 ≤ w3.heap.size by omega)
 have HS4 := hid (alloc_size w3 (.cells #[.int .i64 RK, .int .i64 RN, .float .f64 f1, .slice a1 RZ.length c1] 29))
 clear o b3 bA r dd1 zz z2
 go_wp2_with fail
 generalize w3.alloc (.cells #[.int .i64 RK, .int .i64 RN, .float .f64 f1, .slice a1 RZ.length c1] 29) = U3 at *
 generalize w3.heap.size = q2 at *
 refine (spec_ValueRead (cap - (10 + kl)) (by omega) (SV9.out _ HH.out) (by omega) HV.out).mono ?_
 rintro e w4 ⟨f2, u2, rfl, hf2, S2, o, b4⟩
 obtain ⟨a2, c2, rfl, r, dd2⟩ := Reads.own o BV.out
 have hss2 := fun w a m => run_store Tryz.prog w a (.float .f64 f2) m rfl
 have bA := Below.alloc1 w4 (.cells #[.int .i64 SK, .int .i64 SN, .float .f64 f2, .slice a2 SZ.length c2] 29)
 have zz := b4.size
 have z3 := HS3.out
 have z4 := HS4.out
 have q3 := heap_alloc_new w4 (.cells #[.int .i64 SK, .int .i64 SN, .float .f64 f2, .slice a2 SZ.length c2] 29)
 replace Q2 := hid ((heap_alloc_old w4 (.cells #[.int .i64 SK, .int .i64 SN, .float .f64 f2, .slice a2 SZ.length c2] 29) (show q2 < w4.heap.size by omega)).trans ((b4.block q2 (by omega)).trans Q2.out))
 have rr := (heap_alloc_old w4 (.cells #[.int .i64 SK, .int .i64 SN, .float .f64 f2, .slice a2 SZ.length c2] 29) (show w.heap.size < w4.heap.size by omega)).trans ((b4.block w.heap.size (by omega)).trans RR.out)
 have rt := (heap_alloc_old w4 (.cells #[.int .i64 SK, .int .i64 SN, .float .f64 f2, .slice a2 SZ.length c2] 29) (show w.heap.size + 1 < w4.heap.size by omega)).trans ((b4.block (w.heap.size + 1) (by omega)).trans RT.out)
 have bb := (B0.out.trans (b4.mono (by omega))).trans (bA.mono (by omega))
 have o1 := (owns_below b4 (Nat.le_refl _) O1.out).alloc (.cells #[.int .i64 SK, .int .i64 SN, .float .f64 f2, .slice a2 SZ.length c2] 29)
 have o2 := owns_base (base' := w.heap.size + 2) (o.alloc (.cells #[.int .i64 SK, .int .i64 SN, .float .f64 f2, .slice a2 SZ.length c2] 29)) (by omega)
 have D2 : Hid (In a2 q2 w4.heap.size) := hid (by rcases dd2 with h | ⟨g, h, h1, h2⟩; exact .inl h; exact .inr ⟨g, h, by omega, h2⟩)
 have TA := hid rt
 have TB := hid (setRow_heap (w4.alloc (.cells #[.int .i64 SK, .int .i64 SN, .float .f64 f2, .slice a2 SZ.length c2] 29)) (w.heap.size + 1) _ #[.int .i64 A, .int .i64 B, .int .i64 RK, .int .i64 RN, .float .f64 f1, .slice a1 RZ.length c1, .int .i64 0, .int .i64 0, .float .f64 0, .slice none 0 0] _ _ rt)
 have Q3 := hid ((setRow_other (w4.alloc (.cells #[.int .i64 SK, .int .i64 SN, .float .f64 f2, .slice a2 SZ.length c2] 29)) (w.heap.size + 1) w4.heap.size #[.int .i64 A, .int .i64 B, .int .i64 RK, .int .i64 RN, .float .f64 f1, .slice a1 RZ.length c1, .int .i64 0, .int .i64 0, .float .f64 0, .slice none 0 0] (by omega)).trans q3)
 have TF := hid (setRow_heap _ (w.heap.size + 1) _ #[.int .i64 A, .int .i64 B, .int .i64 RK, .int .i64 RN, .float .f64 f1, .slice a1 RZ.length c1, .int .i64 SK, .int .i64 SN, .float .f64 f2, .slice a2 SZ.length c2] _ _ TB.out)
 have RF := hid ((setRow_other ((w4.alloc (.cells #[.int .i64 SK, .int .i64 SN, .float .f64 f2, .slice a2 SZ.length c2] 29)).setRow (w.heap.size + 1) #[.int .i64 A, .int .i64 B, .int .i64 RK, .int .i64 RN, .float .f64 f1, .slice a1 RZ.length c1, .int .i64 0, .int .i64 0, .float .f64 0, .slice none 0 0]) (w.heap.size + 1) w.heap.size #[.int .i64 A, .int .i64 B, .int .i64 RK, .int .i64 RN, .float .f64 f1, .slice a1 RZ.length c1, .int .i64 SK, .int .i64 SN, .float .f64 f2, .slice a2 SZ.length c2] (by omega)).trans ((setRow_other (w4.alloc (.cells #[.int .i64 SK, .int .i64 SN, .float .f64 f2, .slice a2 SZ.length c2] 29)) (w.heap.size + 1) w.heap.size #[.int .i64 A, .int .i64 B, .int .i64 RK, .int .i64 RN, .float .f64 f1, .slice a1 RZ.length c1, .int .i64 0, .int .i64 0, .float .f64 0, .slice none 0 0] (by omega)).trans rr))
 have B5 := hid (below_setRow (below_setRow bb (show w.heap.size ≤ w.heap.size + 1 by omega) #[.int .i64 A, .int .i64 B, .int .i64 RK, .int .i64 RN, .float .f64 f1, .slice a1 RZ.length c1, .int .i64 0, .int .i64 0, .float .f64 0, .slice none 0 0]) (show w.heap.size ≤ w.heap.size + 1 by omega) #[.int .i64 A, .int .i64 B, .int .i64 RK, .int .i64 RN, .float .f64 f1, .slice a1 RZ.length c1, .int .i64 SK, .int .i64 SN, .float .f64 f2, .slice a2 SZ.length c2])
 have G : ∀ (u : World) (R : Array Value), u.grownBy (u.setRow (w.heap.size + 1) R) (some (w.heap.size + 1)) := fun u R => ⟨rfl, rfl, rfl, by simp, fun i _ hne => setRow_other _ _ _ _ (fun e => hne (by rw [e]))⟩
 have NE : ∀ (a : Option Addr) (n c : Nat) (u : World) (xs : List Value), u.ownsRow (w.heap.size + 2) 5 1 (.slice a n c) n xs → (Value.slice a n c).ownBlock = none ∨ (Value.slice a n c).ownBlock ≠ some (w.heap.size + 1) := fun a n c u xs o => .inr fun e => by have := (o.lt _ e).1; omega
 have o1' := o1.kept (G _ #[.int .i64 A, .int .i64 B, .int .i64 RK, .int .i64 RN, .float .f64 f1, .slice a1 RZ.length c1, .int .i64 0, .int .i64 0, .float .f64 0, .slice none 0 0]) (NE _ _ _ _ _ o1)
 have o2' := o2.kept (G _ #[.int .i64 A, .int .i64 B, .int .i64 RK, .int .i64 RN, .float .f64 f1, .slice a1 RZ.length c1, .int .i64 0, .int .i64 0, .float .f64 0, .slice none 0 0]) (NE _ _ _ _ _ o2)
 replace O1 := hid (o1'.kept (G _ #[.int .i64 A, .int .i64 B, .int .i64 RK, .int .i64 RN, .float .f64 f1, .slice a1 RZ.length c1, .int .i64 SK, .int .i64 SN, .float .f64 f2, .slice a2 SZ.length c2]) (NE _ _ _ _ _ o1'))
 have O2 := hid (o2'.kept (G _ #[.int .i64 A, .int .i64 B, .int .i64 RK, .int .i64 RN, .float .f64 f1, .slice a1 RZ.length c1, .int .i64 SK, .int .i64 SN, .float .f64 f2, .slice a2 SZ.length c2]) (NE _ _ _ _ _ o2'))
 have SZ5 := hid (show w.heap.size + 1 < (((w4.alloc (.cells #[.int .i64 SK, .int .i64 SN, .float .f64 f2, .slice a2 SZ.length c2] 29)).setRow (w.heap.size + 1) #[.int .i64 A, .int .i64 B, .int .i64 RK, .int .i64 RN, .float .f64 f1, .slice a1 RZ.length c1, .int .i64 0, .int .i64 0, .float .f64 0, .slice none 0 0]).setRow (w.heap.size + 1) #[.int .i64 A, .int .i64 B, .int .i64 RK, .int .i64 RN, .float .f64 f1, .slice a1 RZ.length c1, .int .i64 SK, .int .i64 SN, .float .f64 f2, .slice a2 SZ.length c2]).heap.size by simp; omega)
 clear o b4 bA r dd2 zz z3 z4 q3 rr rt bb o1 o2 o1' o2' G NE RR RT B0 HH HS3 HS4 HZ
 obtain ⟨kk0, kk1, kk2, kk3⟩ := row_cells Q2.out
 obtain ⟨ll0, ll1, ll2, ll3⟩ := row_cells Q3.out
 go_wp2_with (first
  | (refine wpList_store_part rfl 29 (.tmp 58) (.tmp 57) rfl (w.heap.size + 1) 2 #[.int .i64 RK, .int .i64 RN, .float .f64 f1, .slice a1 RZ.length c1] rfl rfl 31 _ TA.out ?s1 ?s2 ?s3 #[.int .i64 A, .int .i64 B, .int .i64 RK, .int .i64 RN, .float .f64 f1, .slice a1 RZ.length c1, .int .i64 0, .int .i64 0, .float .f64 0, .slice none 0 0] rfl ?_)
  | (refine wpList_store_part rfl 29 (.tmp 60) (.tmp 59) rfl (w.heap.size + 1) 6 #[.int .i64 SK, .int .i64 SN, .float .f64 f2, .slice a2 SZ.length c2] rfl rfl 31 _ TB.out ?s4 ?s5 ?s6 #[.int .i64 A, .int .i64 B, .int .i64 RK, .int .i64 RN, .float .f64 f1, .slice a1 RZ.length c1, .int .i64 SK, .int .i64 SN, .float .f64 f2, .slice a2 SZ.length c2] rfl ?_))
 case s1 => exact size_it'
 case s2 => simp
 case s3 => simp [Value.oneCell']
 case s4 => exact size_it'
 case s5 => simp
 case s6 => simp [Value.oneCell']
 generalize ((w4.alloc (.cells #[.int .i64 SK, .int .i64 SN, .float .f64 f2, .slice a2 SZ.length c2] 29)).setRow (w.heap.size + 1) #[.int .i64 A, .int .i64 B, .int .i64 RK, .int .i64 RN, .float .f64 f1, .slice a1 RZ.length c1, .int .i64 0, .int .i64 0, .float .f64 0, .slice none 0 0]).setRow (w.heap.size + 1) #[.int .i64 A, .int .i64 B, .int .i64 RK, .int .i64 RN, .float .f64 f1, .slice a1 RZ.length c1, .int .i64 SK, .int .i64 SN, .float .f64 f2, .slice a2 SZ.length c2] = W5 at *
 clear TA TB Q2 Q3 kk0 kk1 kk2 kk3 ll0 ll1 ll2 ll3
 go_quiet (fail)
 go_wp2_with (first
  | (refine wpList_store_row rfl 31 (.tmp 2) (.tmp 75) rfl w.heap.size #[.int .i64 0, .int .i64 0, .int .i64 0, .int .i64 0, .float .f64 0, .slice none 0 0, .int .i64 0, .int .i64 0, .float .f64 0, .slice none 0 0] rfl rfl 31 _ RF.out ?s7 ?s8 ?s9 ?_))
 case s7 => exact size_tup
 case s8 => rfl
 case s9 => simp [Value.oneCell']
 exact bodyPost_ret (results_cell_tmp Tryz.results49 _ _ w.heap.size 31 _ (0, 0) _ rfl (setRow_heap _ _ _ _ _ _ RF.out) Tryz.underlying31 rfl size_tup) rfl ⟨rfl, below_setRow (B5.out.trans ((Still.drewN W5 _).below _)) (Nat.le_refl _) _⟩
set_option maxHeartbeats 12800000 in
theorem stread_nofine {b off n : Nat} (cap : Nat) (hcap : n ≤ cap) {zs : List Int} {w : World} (h : Reads w (some ⟨b, off, none⟩) n zs) (h10 : 10 ≤ n) (h92 : n ≤ 92) (hb : 10 + tkl zs ≤ n) (hcE : ¬ cap = 10 + tkl zs) {RK RN : Int} {RF : Nat} {RZ : List Int} (hk : readR unfK (keyP zs) = (RK, RN, RF, RZ, true)) {SK SN : Int} {SF : Nat} {SZ : List Int} (hr : readR unfV (valP zs) = (SK, SN, SF, SZ, false)) :
 Calls Tryz.prog 49 #[.slice (some ⟨b, off, none⟩) n cap] w fun e w' => e = .returned (.tuple #[.agg #[.int .i64 0, .int .i64 0, .int .i64 0, .int .i64 0, .float .f64 0, .slice none 0 0, .int .i64 0, .int .i64 0, .float .f64 0, .slice none 0 0], .bool false]) ∧ Below w.heap.size w w' := by
 have hst := fun w a m => run_store Tryz.prog w a (.float .f64 0) m rfl
 have hl := h.len
 have H0 := hid (h.below (two w (.cells #[.int .i64 0, .int .i64 0, .int .i64 0, .int .i64 0, .float .f64 0, .slice none 0 0, .int .i64 0, .int .i64 0, .float .f64 0, .slice none 0 0] 31) (.cells #[.int .i64 0, .int .i64 0, .int .i64 0, .int .i64 0, .float .f64 0, .slice none 0 0, .int .i64 0, .int .i64 0, .float .f64 0, .slice none 0 0] 31)) (Nat.le_refl _))
 have g1 := spec_GetNum cap H0.out (by omega) 0 4 (by omega) (by omega) (by omega)
 have H1 := hid (h.below (two w (.cells #[.int .i64 0, .int .i64 0, .int .i64 0, .int .i64 0, .float .f64 0, .slice none 0 0, .int .i64 0, .int .i64 0, .float .f64 0, .slice none 0 0] 31) (.cells #[.int .i64 (numOf zs 0 4), .int .i64 0, .int .i64 0, .int .i64 0, .float .f64 0, .slice none 0 0, .int .i64 0, .int .i64 0, .float .f64 0, .slice none 0 0] 31)) (Nat.le_refl _))
 have g2 := spec_GetNum cap H1.out (by omega) 4 4 (by omega) (by omega) (by omega)
 have e8 : zs.getD 8 0 = (tkl zs : Int) := by unfold tkl; have := (h.bd 8).1; omega
 have c8 : w.cell? ⟨b, off + 8, none⟩ = some (.int .u8 (tkl zs)) := by
  rcases h.cells with h0 | ⟨b', off', e, hcc⟩
  · omega
  · cases e; rw [hcc 8 (by omega), e8]
 have hk255 : tkl zs ≤ 255 := by have := (h.bd 8).2; omega
 have wk : IntKind.i64.wrap (tkl zs : Int) = (tkl zs : Int) := by rw [IntKind.wrap_i64]; omega
 have d8 := cell_oldx (.cells #[.int .i64 (numOf zs 0 4), .int .i64 (numOf zs 4 4), .int .i64 0, .int .i64 0, .float .f64 0, .slice none 0 0, .int .i64 0, .int .i64 0, .float .f64 0, .slice none 0 0] 31) (cell_oldx (w := w) (.cells #[.int .i64 0, .int .i64 0, .int .i64 0, .int .i64 0, .float .f64 0, .slice none 0 0, .int .i64 0, .int .i64 0, .float .f64 0, .slice none 0 0] 31) c8)
 have R0 := hid (two_rows w (.cells #[.int .i64 0, .int .i64 0, .int .i64 0, .int .i64 0, .float .f64 0, .slice none 0 0, .int .i64 0, .int .i64 0, .float .f64 0, .slice none 0 0] 31) (.cells #[.int .i64 (numOf zs 0 4), .int .i64 (numOf zs 4 4), .int .i64 0, .int .i64 0, .float .f64 0, .slice none 0 0, .int .i64 0, .int .i64 0, .float .f64 0, .slice none 0 0] 31))
 have B0 := hid (two w (.cells #[.int .i64 0, .int .i64 0, .int .i64 0, .int .i64 0, .float .f64 0, .slice none 0 0, .int .i64 0, .int .i64 0, .float .f64 0, .slice none 0 0] 31) (.cells #[.int .i64 (numOf zs 0 4), .int .i64 (numOf zs 4 4), .int .i64 0, .int .i64 0, .float .f64 0, .slice none 0 0, .int .i64 0, .int .i64 0, .float .f64 0, .slice none 0 0] 31))
 have HH := hid (h.below B0.out (Nat.le_refl _))
 have i1 : ¬ (n : Int) < 10 := by omega
 have i2 : ¬ (92 : Int) < (n : Int) := by omega
 have i3 : (8 : Int) < (n : Int) := by omega
 have i4 : ¬ (n : Int) - 10 < (tkl zs : Int) := by omega
 have i5 : (9 : Int) ≤ 9 + (tkl zs : Int) := by omega
 have i6 : 9 + (tkl zs : Int) ≤ (n : Int) := by omega
 have i7 : ¬ cap = 9 := by omega
 have j1 : (n : Int) ≤ (cap : Int) := by omega
 have j2 : 9 + (tkl zs : Int) ≤ (cap : Int) := by omega
 have i8 : 10 + (tkl zs : Int) ≤ (n : Int) := by omega
 have i9 : (0 : Int) ≤ 10 + (tkl zs : Int) := by omega
 have i10 : ¬ cap = 10 + tkl zs := hcE
 have HK := hid hk
 have HV := hid hr
 have BK := hid (readR_bd hk (take_bd (drop_bd h.bd 9) _) (by simp [keyP]; omega)).1
 have BV := hid (readR_bd hr (drop_bd h.bd _) (by simp [valP]; omega)).1
 have SK9 : Hid (∀ U, Reads U (some ⟨b, off, none⟩) n zs → Reads U (some ⟨b, off + 9, none⟩) (tkl zs) (keyP zs)) := hid fun U r => r.sub 9 (tkl zs) (by omega)
 have SV9 : Hid (∀ U, Reads U (some ⟨b, off, none⟩) n zs → Reads U (some ⟨b, off + (10 + tkl zs), none⟩) (n - (10 + tkl zs)) (valP zs)) := hid fun U r => by
  have r := r.sub (10 + tkl zs) (n - (10 + tkl zs)) (by omega)
  rw [List.take_of_length_le (by simp; omega)] at r
  exact r
 have HO := hid h
 have hbz := hid h.bd
 clear hk hr
 generalize numOf zs 0 4 = A at *
 generalize numOf zs 4 4 = B at *
 generalize numOk zs 0 4 = o1 at *
 generalize numOk zs 4 4 = o2 at *
 generalize tkl zs = kl at *
 clear h H0 H1 e8 c8
 go_enter Tryz.func49, Tryz.ntmps49
 go_wp2_with fail
 refine g1.mono ?_
 rintro e w1 ⟨rfl, h1⟩
 subst w1
 go_wp2_with fail
 refine g2.mono ?_
 rintro e w1 ⟨rfl, h1⟩
 subst w1
 clear g1 g2
 go_wp2_with fail
 generalize hW0 : (w.alloc (.cells #[.int .i64 0, .int .i64 0, .int .i64 0, .int .i64 0, .float .f64 0, .slice none 0 0, .int .i64 0, .int .i64 0, .float .f64 0, .slice none 0 0] 31)).alloc (.cells #[.int .i64 A, .int .i64 B, .int .i64 0, .int .i64 0, .float .f64 0, .slice none 0 0, .int .i64 0, .int .i64 0, .float .f64 0, .slice none 0 0] 31) = W0 at *
 clear hW0 d8
 have zz := R0.out.2.2
 have RR := hid R0.out.1
 have RT := hid R0.out.2.1
 have HZ := hid zz
 clear R0 zz
 refine (spec_KeyRead (cap - 9) (by omega) (SK9.out _ HH.out) (by omega) HK.out).mono ?_
 rintro e w3 ⟨f1, u1, rfl, hf1, S1, o, b3⟩
 obtain ⟨a1, c1, rfl, r, dd1⟩ := Reads.own o BK.out
 have hss1 := fun w a m => run_store Tryz.prog w a (.float .f64 f1) m rfl
 have bA := Below.alloc1 w3 (.cells #[.int .i64 RK, .int .i64 RN, .float .f64 f1, .slice a1 RZ.length c1] 29)
 have zz := b3.size
 have z2 := HZ.out
 have Q2 := hid (heap_alloc_new w3 (.cells #[.int .i64 RK, .int .i64 RN, .float .f64 f1, .slice a1 RZ.length c1] 29))
 replace RR := hid ((heap_alloc_old w3 (.cells #[.int .i64 RK, .int .i64 RN, .float .f64 f1, .slice a1 RZ.length c1] 29) (show w.heap.size < w3.heap.size by omega)).trans ((b3.block w.heap.size (by omega)).trans RR.out))
 replace RT := hid ((heap_alloc_old w3 (.cells #[.int .i64 RK, .int .i64 RN, .float .f64 f1, .slice a1 RZ.length c1] 29) (show w.heap.size + 1 < w3.heap.size by omega)).trans ((b3.block (w.heap.size + 1) (by omega)).trans RT.out))
 replace B0 := hid ((B0.out.trans (b3.mono (by omega))).trans (bA.mono (by omega)))
 replace HH := hid ((HH.out.below b3 (Nat.le_refl _)).below bA (Nat.le_refl _))
 have O1 := hid (owns_base (base' := w.heap.size + 2) (o.alloc (.cells #[.int .i64 RK, .int .i64 RN, .float .f64 f1, .slice a1 RZ.length c1] 29)) (by omega))
 have D1 : Hid (In a1 (w.heap.size + 2) w3.heap.size) := hid (by rcases dd1 with h | ⟨g, h, h1, h2⟩; exact .inl h; exact .inr ⟨g, h, by omega, h2⟩)
 have HS3 := hid (show w.heap.size + 2 ≤ w3.heap.size by omega)
 have HS4 := hid (alloc_size w3 (.cells #[.int .i64 RK, .int .i64 RN, .float .f64 f1, .slice a1 RZ.length c1] 29))
 clear o b3 bA r dd1 zz z2
 go_wp2_with fail
 generalize w3.alloc (.cells #[.int .i64 RK, .int .i64 RN, .float .f64 f1, .slice a1 RZ.length c1] 29) = U3 at *
 generalize w3.heap.size = q2 at *
 refine (spec_ValueRead (cap - (10 + kl)) (by omega) (SV9.out _ HH.out) (by omega) HV.out).mono ?_
 rintro e w4 ⟨f2, u2, rfl, hf2, S2, o, b4⟩
 obtain ⟨a2, c2, rfl, r, dd2⟩ := Reads.own o BV.out
 have hss2 := fun w a m => run_store Tryz.prog w a (.float .f64 f2) m rfl
 have bA := Below.alloc1 w4 (.cells #[.int .i64 SK, .int .i64 SN, .float .f64 f2, .slice a2 SZ.length c2] 29)
 have zz := b4.size
 have z3 := HS3.out
 have z4 := HS4.out
 have q3 := heap_alloc_new w4 (.cells #[.int .i64 SK, .int .i64 SN, .float .f64 f2, .slice a2 SZ.length c2] 29)
 replace Q2 := hid ((heap_alloc_old w4 (.cells #[.int .i64 SK, .int .i64 SN, .float .f64 f2, .slice a2 SZ.length c2] 29) (show q2 < w4.heap.size by omega)).trans ((b4.block q2 (by omega)).trans Q2.out))
 have rr := (heap_alloc_old w4 (.cells #[.int .i64 SK, .int .i64 SN, .float .f64 f2, .slice a2 SZ.length c2] 29) (show w.heap.size < w4.heap.size by omega)).trans ((b4.block w.heap.size (by omega)).trans RR.out)
 have rt := (heap_alloc_old w4 (.cells #[.int .i64 SK, .int .i64 SN, .float .f64 f2, .slice a2 SZ.length c2] 29) (show w.heap.size + 1 < w4.heap.size by omega)).trans ((b4.block (w.heap.size + 1) (by omega)).trans RT.out)
 have bb := (B0.out.trans (b4.mono (by omega))).trans (bA.mono (by omega))
 have o1 := (owns_below b4 (Nat.le_refl _) O1.out).alloc (.cells #[.int .i64 SK, .int .i64 SN, .float .f64 f2, .slice a2 SZ.length c2] 29)
 have o2 := owns_base (base' := w.heap.size + 2) (o.alloc (.cells #[.int .i64 SK, .int .i64 SN, .float .f64 f2, .slice a2 SZ.length c2] 29)) (by omega)
 have D2 : Hid (In a2 q2 w4.heap.size) := hid (by rcases dd2 with h | ⟨g, h, h1, h2⟩; exact .inl h; exact .inr ⟨g, h, by omega, h2⟩)
 have TA := hid rt
 have TB := hid (setRow_heap (w4.alloc (.cells #[.int .i64 SK, .int .i64 SN, .float .f64 f2, .slice a2 SZ.length c2] 29)) (w.heap.size + 1) _ #[.int .i64 A, .int .i64 B, .int .i64 RK, .int .i64 RN, .float .f64 f1, .slice a1 RZ.length c1, .int .i64 0, .int .i64 0, .float .f64 0, .slice none 0 0] _ _ rt)
 have Q3 := hid ((setRow_other (w4.alloc (.cells #[.int .i64 SK, .int .i64 SN, .float .f64 f2, .slice a2 SZ.length c2] 29)) (w.heap.size + 1) w4.heap.size #[.int .i64 A, .int .i64 B, .int .i64 RK, .int .i64 RN, .float .f64 f1, .slice a1 RZ.length c1, .int .i64 0, .int .i64 0, .float .f64 0, .slice none 0 0] (by omega)).trans q3)
 have TF := hid (setRow_heap _ (w.heap.size + 1) _ #[.int .i64 A, .int .i64 B, .int .i64 RK, .int .i64 RN, .float .f64 f1, .slice a1 RZ.length c1, .int .i64 SK, .int .i64 SN, .float .f64 f2, .slice a2 SZ.length c2] _ _ TB.out)
 have RF := hid ((setRow_other ((w4.alloc (.cells #[.int .i64 SK, .int .i64 SN, .float .f64 f2, .slice a2 SZ.length c2] 29)).setRow (w.heap.size + 1) #[.int .i64 A, .int .i64 B, .int .i64 RK, .int .i64 RN, .float .f64 f1, .slice a1 RZ.length c1, .int .i64 0, .int .i64 0, .float .f64 0, .slice none 0 0]) (w.heap.size + 1) w.heap.size #[.int .i64 A, .int .i64 B, .int .i64 RK, .int .i64 RN, .float .f64 f1, .slice a1 RZ.length c1, .int .i64 SK, .int .i64 SN, .float .f64 f2, .slice a2 SZ.length c2] (by omega)).trans ((setRow_other (w4.alloc (.cells #[.int .i64 SK, .int .i64 SN, .float .f64 f2, .slice a2 SZ.length c2] 29)) (w.heap.size + 1) w.heap.size #[.int .i64 A, .int .i64 B, .int .i64 RK, .int .i64 RN, .float .f64 f1, .slice a1 RZ.length c1, .int .i64 0, .int .i64 0, .float .f64 0, .slice none 0 0] (by omega)).trans rr))
 have B5 := hid (below_setRow (below_setRow bb (show w.heap.size ≤ w.heap.size + 1 by omega) #[.int .i64 A, .int .i64 B, .int .i64 RK, .int .i64 RN, .float .f64 f1, .slice a1 RZ.length c1, .int .i64 0, .int .i64 0, .float .f64 0, .slice none 0 0]) (show w.heap.size ≤ w.heap.size + 1 by omega) #[.int .i64 A, .int .i64 B, .int .i64 RK, .int .i64 RN, .float .f64 f1, .slice a1 RZ.length c1, .int .i64 SK, .int .i64 SN, .float .f64 f2, .slice a2 SZ.length c2])
 have G : ∀ (u : World) (R : Array Value), u.grownBy (u.setRow (w.heap.size + 1) R) (some (w.heap.size + 1)) := fun u R => ⟨rfl, rfl, rfl, by simp, fun i _ hne => setRow_other _ _ _ _ (fun e => hne (by rw [e]))⟩
 have NE : ∀ (a : Option Addr) (n c : Nat) (u : World) (xs : List Value), u.ownsRow (w.heap.size + 2) 5 1 (.slice a n c) n xs → (Value.slice a n c).ownBlock = none ∨ (Value.slice a n c).ownBlock ≠ some (w.heap.size + 1) := fun a n c u xs o => .inr fun e => by have := (o.lt _ e).1; omega
 have o1' := o1.kept (G _ #[.int .i64 A, .int .i64 B, .int .i64 RK, .int .i64 RN, .float .f64 f1, .slice a1 RZ.length c1, .int .i64 0, .int .i64 0, .float .f64 0, .slice none 0 0]) (NE _ _ _ _ _ o1)
 have o2' := o2.kept (G _ #[.int .i64 A, .int .i64 B, .int .i64 RK, .int .i64 RN, .float .f64 f1, .slice a1 RZ.length c1, .int .i64 0, .int .i64 0, .float .f64 0, .slice none 0 0]) (NE _ _ _ _ _ o2)
 replace O1 := hid (o1'.kept (G _ #[.int .i64 A, .int .i64 B, .int .i64 RK, .int .i64 RN, .float .f64 f1, .slice a1 RZ.length c1, .int .i64 SK, .int .i64 SN, .float .f64 f2, .slice a2 SZ.length c2]) (NE _ _ _ _ _ o1'))
 have O2 := hid (o2'.kept (G _ #[.int .i64 A, .int .i64 B, .int .i64 RK, .int .i64 RN, .float .f64 f1, .slice a1 RZ.length c1, .int .i64 SK, .int .i64 SN, .float .f64 f2, .slice a2 SZ.length c2]) (NE _ _ _ _ _ o2'))
 have SZ5 := hid (show w.heap.size + 1 < (((w4.alloc (.cells #[.int .i64 SK, .int .i64 SN, .float .f64 f2, .slice a2 SZ.length c2] 29)).setRow (w.heap.size + 1) #[.int .i64 A, .int .i64 B, .int .i64 RK, .int .i64 RN, .float .f64 f1, .slice a1 RZ.length c1, .int .i64 0, .int .i64 0, .float .f64 0, .slice none 0 0]).setRow (w.heap.size + 1) #[.int .i64 A, .int .i64 B, .int .i64 RK, .int .i64 RN, .float .f64 f1, .slice a1 RZ.length c1, .int .i64 SK, .int .i64 SN, .float .f64 f2, .slice a2 SZ.length c2]).heap.size by simp; omega)
 clear o b4 bA r dd2 zz z3 z4 q3 rr rt bb o1 o2 o1' o2' G NE RR RT B0 HH HS3 HS4 HZ
 obtain ⟨kk0, kk1, kk2, kk3⟩ := row_cells Q2.out
 obtain ⟨ll0, ll1, ll2, ll3⟩ := row_cells Q3.out
 go_wp2_with (first
  | (refine wpList_store_part rfl 29 (.tmp 58) (.tmp 57) rfl (w.heap.size + 1) 2 #[.int .i64 RK, .int .i64 RN, .float .f64 f1, .slice a1 RZ.length c1] rfl rfl 31 _ TA.out ?s1 ?s2 ?s3 #[.int .i64 A, .int .i64 B, .int .i64 RK, .int .i64 RN, .float .f64 f1, .slice a1 RZ.length c1, .int .i64 0, .int .i64 0, .float .f64 0, .slice none 0 0] rfl ?_)
  | (refine wpList_store_part rfl 29 (.tmp 60) (.tmp 59) rfl (w.heap.size + 1) 6 #[.int .i64 SK, .int .i64 SN, .float .f64 f2, .slice a2 SZ.length c2] rfl rfl 31 _ TB.out ?s4 ?s5 ?s6 #[.int .i64 A, .int .i64 B, .int .i64 RK, .int .i64 RN, .float .f64 f1, .slice a1 RZ.length c1, .int .i64 SK, .int .i64 SN, .float .f64 f2, .slice a2 SZ.length c2] rfl ?_))
 case s1 => exact size_it'
 case s2 => simp
 case s3 => simp [Value.oneCell']
 case s4 => exact size_it'
 case s5 => simp
 case s6 => simp [Value.oneCell']
 generalize ((w4.alloc (.cells #[.int .i64 SK, .int .i64 SN, .float .f64 f2, .slice a2 SZ.length c2] 29)).setRow (w.heap.size + 1) #[.int .i64 A, .int .i64 B, .int .i64 RK, .int .i64 RN, .float .f64 f1, .slice a1 RZ.length c1, .int .i64 0, .int .i64 0, .float .f64 0, .slice none 0 0]).setRow (w.heap.size + 1) #[.int .i64 A, .int .i64 B, .int .i64 RK, .int .i64 RN, .float .f64 f1, .slice a1 RZ.length c1, .int .i64 SK, .int .i64 SN, .float .f64 f2, .slice a2 SZ.length c2] = W5 at *
 clear TA TB Q2 Q3 kk0 kk1 kk2 kk3 ll0 ll1 ll2 ll3
 go_quiet (fail)
 go_wp2_with (first
  | (refine wpList_store_row rfl 31 (.tmp 2) (.tmp 75) rfl w.heap.size #[.int .i64 0, .int .i64 0, .int .i64 0, .int .i64 0, .float .f64 0, .slice none 0 0, .int .i64 0, .int .i64 0, .float .f64 0, .slice none 0 0] rfl rfl 31 _ RF.out ?s7 ?s8 ?s9 ?_))
 case s7 => exact size_tup
 case s8 => rfl
 case s9 => simp [Value.oneCell']
 exact bodyPost_ret (results_cell_tmp Tryz.results49 _ _ w.heap.size 31 _ (0, 0) _ rfl (setRow_heap _ _ _ _ _ _ RF.out) Tryz.underlying31 rfl size_tup) rfl ⟨rfl, below_setRow (B5.out.trans ((Still.drewN W5 _).below _)) (Nat.le_refl _) _⟩
set_option maxHeartbeats 12800000 in
theorem stread_nokE {b off n : Nat} {zs : List Int} {w : World} (h : Reads w (some ⟨b, off, none⟩) n zs) (h10 : 10 ≤ n) (h92 : n ≤ 92) (hb : n = 10 + tkl zs) {RK RN : Int} {RF : Nat} {RZ : List Int} (hk : readR unfK (keyP zs) = (RK, RN, RF, RZ, false)) {k2 : Bool} {SK SN : Int} {SF : Nat} {SZ : List Int} (hr : readR unfV (valP zs) = (SK, SN, SF, SZ, k2)) :
 Calls Tryz.prog 49 #[.slice (some ⟨b, off, none⟩) n n] w fun e w' => e = .returned (.tuple #[.agg #[.int .i64 0, .int .i64 0, .int .i64 0, .int .i64 0, .float .f64 0, .slice none 0 0, .int .i64 0, .int .i64 0, .float .f64 0, .slice none 0 0], .bool false]) ∧ Below w.heap.size w w' := by
 have hst := fun w a m => run_store Tryz.prog w a (.float .f64 0) m rfl
 have hl := h.len
 have H0 := hid (h.below (two w (.cells #[.int .i64 0, .int .i64 0, .int .i64 0, .int .i64 0, .float .f64 0, .slice none 0 0, .int .i64 0, .int .i64 0, .float .f64 0, .slice none 0 0] 31) (.cells #[.int .i64 0, .int .i64 0, .int .i64 0, .int .i64 0, .float .f64 0, .slice none 0 0, .int .i64 0, .int .i64 0, .float .f64 0, .slice none 0 0] 31)) (Nat.le_refl _))
 have g1 := spec_GetNum n H0.out (by omega) 0 4 (by omega) (by omega) (by omega)
 have H1 := hid (h.below (two w (.cells #[.int .i64 0, .int .i64 0, .int .i64 0, .int .i64 0, .float .f64 0, .slice none 0 0, .int .i64 0, .int .i64 0, .float .f64 0, .slice none 0 0] 31) (.cells #[.int .i64 (numOf zs 0 4), .int .i64 0, .int .i64 0, .int .i64 0, .float .f64 0, .slice none 0 0, .int .i64 0, .int .i64 0, .float .f64 0, .slice none 0 0] 31)) (Nat.le_refl _))
 have g2 := spec_GetNum n H1.out (by omega) 4 4 (by omega) (by omega) (by omega)
 have e8 : zs.getD 8 0 = (tkl zs : Int) := by unfold tkl; have := (h.bd 8).1; omega
 have c8 : w.cell? ⟨b, off + 8, none⟩ = some (.int .u8 (tkl zs)) := by
  rcases h.cells with h0 | ⟨b', off', e, hcc⟩
  · omega
  · cases e; rw [hcc 8 (by omega), e8]
 have hk255 : tkl zs ≤ 255 := by have := (h.bd 8).2; omega
 have wk : IntKind.i64.wrap (tkl zs : Int) = (tkl zs : Int) := by rw [IntKind.wrap_i64]; omega
 have d8 := cell_oldx (.cells #[.int .i64 (numOf zs 0 4), .int .i64 (numOf zs 4 4), .int .i64 0, .int .i64 0, .float .f64 0, .slice none 0 0, .int .i64 0, .int .i64 0, .float .f64 0, .slice none 0 0] 31) (cell_oldx (w := w) (.cells #[.int .i64 0, .int .i64 0, .int .i64 0, .int .i64 0, .float .f64 0, .slice none 0 0, .int .i64 0, .int .i64 0, .float .f64 0, .slice none 0 0] 31) c8)
 have R0 := hid (two_rows w (.cells #[.int .i64 0, .int .i64 0, .int .i64 0, .int .i64 0, .float .f64 0, .slice none 0 0, .int .i64 0, .int .i64 0, .float .f64 0, .slice none 0 0] 31) (.cells #[.int .i64 (numOf zs 0 4), .int .i64 (numOf zs 4 4), .int .i64 0, .int .i64 0, .float .f64 0, .slice none 0 0, .int .i64 0, .int .i64 0, .float .f64 0, .slice none 0 0] 31))
 have B0 := hid (two w (.cells #[.int .i64 0, .int .i64 0, .int .i64 0, .int .i64 0, .float .f64 0, .slice none 0 0, .int .i64 0, .int .i64 0, .float .f64 0, .slice none 0 0] 31) (.cells #[.int .i64 (numOf zs 0 4), .int .i64 (numOf zs 4 4), .int .i64 0, .int .i64 0, .float .f64 0, .slice none 0 0, .int .i64 0, .int .i64 0, .float .f64 0, .slice none 0 0] 31))
 have HH := hid (h.below B0.out (Nat.le_refl _))
 have i1 : ¬ (n : Int) < 10 := by omega
 have i2 : ¬ (92 : Int) < (n : Int) := by omega
 have i3 : (8 : Int) < (n : Int) := by omega
 have i4 : ¬ (n : Int) - 10 < (tkl zs : Int) := by omega
 have i5 : (9 : Int) ≤ 9 + (tkl zs : Int) := by omega
 have i6 : 9 + (tkl zs : Int) ≤ (n : Int) := by omega
 have i7 : ¬ n = 9 := by omega
 have i8 : 10 + (tkl zs : Int) ≤ (n : Int) := by omega
 have i9 : (0 : Int) ≤ 10 + (tkl zs : Int) := by omega
 have HK := hid hk
 have HV := hid hr
 have BK := hid (readR_bd hk (take_bd (drop_bd h.bd 9) _) (by simp [keyP]; omega)).1
 have BV := hid (readR_bd hr (drop_bd h.bd _) (by simp [valP]; omega)).1
 have SK9 : Hid (∀ U, Reads U (some ⟨b, off, none⟩) n zs → Reads U (some ⟨b, off + 9, none⟩) (tkl zs) (keyP zs)) := hid fun U r => r.sub 9 (tkl zs) (by omega)
 have HVE := hid (show readR unfV [] = (SK, SN, SF, SZ, k2) by rw [← hr]; congr 1; exact (List.drop_eq_nil_of_le (by omega)).symm)
 have HO := hid h
 have hbz := hid h.bd
 clear hk hr
 generalize numOf zs 0 4 = A at *
 generalize numOf zs 4 4 = B at *
 generalize numOk zs 0 4 = o1 at *
 generalize numOk zs 4 4 = o2 at *
 generalize hkl : tkl zs = kl at *
 subst hb
 clear h H0 H1 e8 c8
 go_enter Tryz.func49, Tryz.ntmps49
 go_wp2_with fail
 refine g1.mono ?_
 rintro e w1 ⟨rfl, h1⟩
 subst w1
 go_wp2_with fail
 refine g2.mono ?_
 rintro e w1 ⟨rfl, h1⟩
 subst w1
 clear g1 g2
 go_wp2_with fail
 generalize hW0 : (w.alloc (.cells #[.int .i64 0, .int .i64 0, .int .i64 0, .int .i64 0, .float .f64 0, .slice none 0 0, .int .i64 0, .int .i64 0, .float .f64 0, .slice none 0 0] 31)).alloc (.cells #[.int .i64 A, .int .i64 B, .int .i64 0, .int .i64 0, .float .f64 0, .slice none 0 0, .int .i64 0, .int .i64 0, .float .f64 0, .slice none 0 0] 31) = W0 at *
 clear hW0 d8
 have zz := R0.out.2.2
 have RR := hid R0.out.1
 have RT := hid R0.out.2.1
 have HZ := hid zz
 clear R0 zz
 refine (spec_KeyRead ((10 + kl) - 9) (by omega) (SK9.out _ HH.out) (by omega) HK.out).mono ?_
 rintro e w3 ⟨f1, u1, rfl, hf1, S1, o, b3⟩
 obtain ⟨a1, c1, rfl, r, dd1⟩ := Reads.own o BK.out
 have hss1 := fun w a m => run_store Tryz.prog w a (.float .f64 f1) m rfl
 have bA := Below.alloc1 w3 (.cells #[.int .i64 RK, .int .i64 RN, .float .f64 f1, .slice a1 RZ.length c1] 29)
 have zz := b3.size
 have z2 := HZ.out
 have Q2 := hid (heap_alloc_new w3 (.cells #[.int .i64 RK, .int .i64 RN, .float .f64 f1, .slice a1 RZ.length c1] 29))
 replace RR := hid ((heap_alloc_old w3 (.cells #[.int .i64 RK, .int .i64 RN, .float .f64 f1, .slice a1 RZ.length c1] 29) (show w.heap.size < w3.heap.size by omega)).trans ((b3.block w.heap.size (by omega)).trans RR.out))
 replace RT := hid ((heap_alloc_old w3 (.cells #[.int .i64 RK, .int .i64 RN, .float .f64 f1, .slice a1 RZ.length c1] 29) (show w.heap.size + 1 < w3.heap.size by omega)).trans ((b3.block (w.heap.size + 1) (by omega)).trans RT.out))
 replace B0 := hid ((B0.out.trans (b3.mono (by omega))).trans (bA.mono (by omega)))
 replace HH := hid ((HH.out.below b3 (Nat.le_refl _)).below bA (Nat.le_refl _))
 have O1 := hid (owns_base (base' := w.heap.size + 2) (o.alloc (.cells #[.int .i64 RK, .int .i64 RN, .float .f64 f1, .slice a1 RZ.length c1] 29)) (by omega))
 have D1 : Hid (In a1 (w.heap.size + 2) w3.heap.size) := hid (by rcases dd1 with h | ⟨g, h, h1, h2⟩; exact .inl h; exact .inr ⟨g, h, by omega, h2⟩)
 have HS3 := hid (show w.heap.size + 2 ≤ w3.heap.size by omega)
 have HS4 := hid (alloc_size w3 (.cells #[.int .i64 RK, .int .i64 RN, .float .f64 f1, .slice a1 RZ.length c1] 29))
 clear o b3 bA r dd1 zz z2
 go_wp2_with fail
 generalize w3.alloc (.cells #[.int .i64 RK, .int .i64 RN, .float .f64 f1, .slice a1 RZ.length c1] 29) = U3 at *
 generalize w3.heap.size = q2 at *
 refine (spec_ValueRead 0 (Nat.le_refl _) (Reads.zero (some ⟨b, off, none⟩)) (by omega) HVE.out).mono ?_
 rintro e w4 ⟨f2, u2, rfl, hf2, S2, o, b4⟩
 obtain ⟨a2, c2, rfl, r, dd2⟩ := Reads.own o BV.out
 have hss2 := fun w a m => run_store Tryz.prog w a (.float .f64 f2) m rfl
 have bA := Below.alloc1 w4 (.cells #[.int .i64 SK, .int .i64 SN, .float .f64 f2, .slice a2 SZ.length c2] 29)
 have zz := b4.size
 have z3 := HS3.out
 have z4 := HS4.out
 have q3 := heap_alloc_new w4 (.cells #[.int .i64 SK, .int .i64 SN, .float .f64 f2, .slice a2 SZ.length c2] 29)
 replace Q2 := hid ((heap_alloc_old w4 (.cells #[.int .i64 SK, .int .i64 SN, .float .f64 f2, .slice a2 SZ.length c2] 29) (show q2 < w4.heap.size by omega)).trans ((b4.block q2 (by omega)).trans Q2.out))
 have rr := (heap_alloc_old w4 (.cells #[.int .i64 SK, .int .i64 SN, .float .f64 f2, .slice a2 SZ.length c2] 29) (show w.heap.size < w4.heap.size by omega)).trans ((b4.block w.heap.size (by omega)).trans RR.out)
 have rt := (heap_alloc_old w4 (.cells #[.int .i64 SK, .int .i64 SN, .float .f64 f2, .slice a2 SZ.length c2] 29) (show w.heap.size + 1 < w4.heap.size by omega)).trans ((b4.block (w.heap.size + 1) (by omega)).trans RT.out)
 have bb := (B0.out.trans (b4.mono (by omega))).trans (bA.mono (by omega))
 have o1 := (owns_below b4 (Nat.le_refl _) O1.out).alloc (.cells #[.int .i64 SK, .int .i64 SN, .float .f64 f2, .slice a2 SZ.length c2] 29)
 have o2 := owns_base (base' := w.heap.size + 2) (o.alloc (.cells #[.int .i64 SK, .int .i64 SN, .float .f64 f2, .slice a2 SZ.length c2] 29)) (by omega)
 have D2 : Hid (In a2 q2 w4.heap.size) := hid (by rcases dd2 with h | ⟨g, h, h1, h2⟩; exact .inl h; exact .inr ⟨g, h, by omega, h2⟩)
 have TA := hid rt
 have TB := hid (setRow_heap (w4.alloc (.cells #[.int .i64 SK, .int .i64 SN, .float .f64 f2, .slice a2 SZ.length c2] 29)) (w.heap.size + 1) _ #[.int .i64 A, .int .i64 B, .int .i64 RK, .int .i64 RN, .float .f64 f1, .slice a1 RZ.length c1, .int .i64 0, .int .i64 0, .float .f64 0, .slice none 0 0] _ _ rt)
 have Q3 := hid ((setRow_other (w4.alloc (.cells #[.int .i64 SK, .int .i64 SN, .float .f64 f2, .slice a2 SZ.length c2] 29)) (w.heap.size + 1) w4.heap.size #[.int .i64 A, .int .i64 B, .int .i64 RK, .int .i64 RN, .float .f64 f1, .slice a1 RZ.length c1, .int .i64 0, .int .i64 0, .float .f64 0, .slice none 0 0] (by omega)).trans q3)
 have TF := hid (setRow_heap _ (w.heap.size + 1) _ #[.int .i64 A, .int .i64 B, .int .i64 RK, .int .i64 RN, .float .f64 f1, .slice a1 RZ.length c1, .int .i64 SK, .int .i64 SN, .float .f64 f2, .slice a2 SZ.length c2] _ _ TB.out)
 have RF := hid ((setRow_other ((w4.alloc (.cells #[.int .i64 SK, .int .i64 SN, .float .f64 f2, .slice a2 SZ.length c2] 29)).setRow (w.heap.size + 1) #[.int .i64 A, .int .i64 B, .int .i64 RK, .int .i64 RN, .float .f64 f1, .slice a1 RZ.length c1, .int .i64 0, .int .i64 0, .float .f64 0, .slice none 0 0]) (w.heap.size + 1) w.heap.size #[.int .i64 A, .int .i64 B, .int .i64 RK, .int .i64 RN, .float .f64 f1, .slice a1 RZ.length c1, .int .i64 SK, .int .i64 SN, .float .f64 f2, .slice a2 SZ.length c2] (by omega)).trans ((setRow_other (w4.alloc (.cells #[.int .i64 SK, .int .i64 SN, .float .f64 f2, .slice a2 SZ.length c2] 29)) (w.heap.size + 1) w.heap.size #[.int .i64 A, .int .i64 B, .int .i64 RK, .int .i64 RN, .float .f64 f1, .slice a1 RZ.length c1, .int .i64 0, .int .i64 0, .float .f64 0, .slice none 0 0] (by omega)).trans rr))
 have B5 := hid (below_setRow (below_setRow bb (show w.heap.size ≤ w.heap.size + 1 by omega) #[.int .i64 A, .int .i64 B, .int .i64 RK, .int .i64 RN, .float .f64 f1, .slice a1 RZ.length c1, .int .i64 0, .int .i64 0, .float .f64 0, .slice none 0 0]) (show w.heap.size ≤ w.heap.size + 1 by omega) #[.int .i64 A, .int .i64 B, .int .i64 RK, .int .i64 RN, .float .f64 f1, .slice a1 RZ.length c1, .int .i64 SK, .int .i64 SN, .float .f64 f2, .slice a2 SZ.length c2])
 have G : ∀ (u : World) (R : Array Value), u.grownBy (u.setRow (w.heap.size + 1) R) (some (w.heap.size + 1)) := fun u R => ⟨rfl, rfl, rfl, by simp, fun i _ hne => setRow_other _ _ _ _ (fun e => hne (by rw [e]))⟩
 have NE : ∀ (a : Option Addr) (n c : Nat) (u : World) (xs : List Value), u.ownsRow (w.heap.size + 2) 5 1 (.slice a n c) n xs → (Value.slice a n c).ownBlock = none ∨ (Value.slice a n c).ownBlock ≠ some (w.heap.size + 1) := fun a n c u xs o => .inr fun e => by have := (o.lt _ e).1; omega
 have o1' := o1.kept (G _ #[.int .i64 A, .int .i64 B, .int .i64 RK, .int .i64 RN, .float .f64 f1, .slice a1 RZ.length c1, .int .i64 0, .int .i64 0, .float .f64 0, .slice none 0 0]) (NE _ _ _ _ _ o1)
 have o2' := o2.kept (G _ #[.int .i64 A, .int .i64 B, .int .i64 RK, .int .i64 RN, .float .f64 f1, .slice a1 RZ.length c1, .int .i64 0, .int .i64 0, .float .f64 0, .slice none 0 0]) (NE _ _ _ _ _ o2)
 replace O1 := hid (o1'.kept (G _ #[.int .i64 A, .int .i64 B, .int .i64 RK, .int .i64 RN, .float .f64 f1, .slice a1 RZ.length c1, .int .i64 SK, .int .i64 SN, .float .f64 f2, .slice a2 SZ.length c2]) (NE _ _ _ _ _ o1'))
 have O2 := hid (o2'.kept (G _ #[.int .i64 A, .int .i64 B, .int .i64 RK, .int .i64 RN, .float .f64 f1, .slice a1 RZ.length c1, .int .i64 SK, .int .i64 SN, .float .f64 f2, .slice a2 SZ.length c2]) (NE _ _ _ _ _ o2'))
 have SZ5 := hid (show w.heap.size + 1 < (((w4.alloc (.cells #[.int .i64 SK, .int .i64 SN, .float .f64 f2, .slice a2 SZ.length c2] 29)).setRow (w.heap.size + 1) #[.int .i64 A, .int .i64 B, .int .i64 RK, .int .i64 RN, .float .f64 f1, .slice a1 RZ.length c1, .int .i64 0, .int .i64 0, .float .f64 0, .slice none 0 0]).setRow (w.heap.size + 1) #[.int .i64 A, .int .i64 B, .int .i64 RK, .int .i64 RN, .float .f64 f1, .slice a1 RZ.length c1, .int .i64 SK, .int .i64 SN, .float .f64 f2, .slice a2 SZ.length c2]).heap.size by simp; omega)
 clear o b4 bA r dd2 zz z3 z4 q3 rr rt bb o1 o2 o1' o2' G NE RR RT B0 HH HS3 HS4 HZ
 obtain ⟨kk0, kk1, kk2, kk3⟩ := row_cells Q2.out
 obtain ⟨ll0, ll1, ll2, ll3⟩ := row_cells Q3.out
 go_wp2_with (first
  | (refine wpList_store_part rfl 29 (.tmp 58) (.tmp 57) rfl (w.heap.size + 1) 2 #[.int .i64 RK, .int .i64 RN, .float .f64 f1, .slice a1 RZ.length c1] rfl rfl 31 _ TA.out ?s1 ?s2 ?s3 #[.int .i64 A, .int .i64 B, .int .i64 RK, .int .i64 RN, .float .f64 f1, .slice a1 RZ.length c1, .int .i64 0, .int .i64 0, .float .f64 0, .slice none 0 0] rfl ?_)
  | (refine wpList_store_part rfl 29 (.tmp 60) (.tmp 59) rfl (w.heap.size + 1) 6 #[.int .i64 SK, .int .i64 SN, .float .f64 f2, .slice a2 SZ.length c2] rfl rfl 31 _ TB.out ?s4 ?s5 ?s6 #[.int .i64 A, .int .i64 B, .int .i64 RK, .int .i64 RN, .float .f64 f1, .slice a1 RZ.length c1, .int .i64 SK, .int .i64 SN, .float .f64 f2, .slice a2 SZ.length c2] rfl ?_))
 case s1 => exact size_it'
 case s2 => simp
 case s3 => simp [Value.oneCell']
 case s4 => exact size_it'
 case s5 => simp
 case s6 => simp [Value.oneCell']
 generalize ((w4.alloc (.cells #[.int .i64 SK, .int .i64 SN, .float .f64 f2, .slice a2 SZ.length c2] 29)).setRow (w.heap.size + 1) #[.int .i64 A, .int .i64 B, .int .i64 RK, .int .i64 RN, .float .f64 f1, .slice a1 RZ.length c1, .int .i64 0, .int .i64 0, .float .f64 0, .slice none 0 0]).setRow (w.heap.size + 1) #[.int .i64 A, .int .i64 B, .int .i64 RK, .int .i64 RN, .float .f64 f1, .slice a1 RZ.length c1, .int .i64 SK, .int .i64 SN, .float .f64 f2, .slice a2 SZ.length c2] = W5 at *
 clear TA TB Q2 Q3 kk0 kk1 kk2 kk3 ll0 ll1 ll2 ll3
 go_quiet (fail)
 go_wp2_with (first
  | (refine wpList_store_row rfl 31 (.tmp 2) (.tmp 75) rfl w.heap.size #[.int .i64 0, .int .i64 0, .int .i64 0, .int .i64 0, .float .f64 0, .slice none 0 0, .int .i64 0, .int .i64 0, .float .f64 0, .slice none 0 0] rfl rfl 31 _ RF.out ?s7 ?s8 ?s9 ?_))
 case s7 => exact size_tup
 case s8 => rfl
 case s9 => simp [Value.oneCell']
 exact bodyPost_ret (results_cell_tmp Tryz.results49 _ _ w.heap.size 31 _ (0, 0) _ rfl (setRow_heap _ _ _ _ _ _ RF.out) Tryz.underlying31 rfl size_tup) rfl ⟨rfl, below_setRow (B5.out.trans ((Still.drewN W5 _).below _)) (Nat.le_refl _) _⟩
set_option maxHeartbeats 12800000 in
theorem stread_nofineE {b off n : Nat} {zs : List Int} {w : World} (h : Reads w (some ⟨b, off, none⟩) n zs) (h10 : 10 ≤ n) (h92 : n ≤ 92) (hb : n = 10 + tkl zs) {RK RN : Int} {RF : Nat} {RZ : List Int} (hk : readR unfK (keyP zs) = (RK, RN, RF, RZ, true)) {SK SN : Int} {SF : Nat} {SZ : List Int} (hr : readR unfV (valP zs) = (SK, SN, SF, SZ, false)) :
 Calls Tryz.prog 49 #[.slice (some ⟨b, off, none⟩) n n] w fun e w' => e = .returned (.tuple #[.agg #[.int .i64 0, .int .i64 0, .int .i64 0, .int .i64 0, .float .f64 0, .slice none 0 0, .int .i64 0, .int .i64 0, .float .f64 0, .slice none 0 0], .bool false]) ∧ Below w.heap.size w w' := by
 have hst := fun w a m => run_store Tryz.prog w a (.float .f64 0) m rfl
 have hl := h.len
 have H0 := hid (h.below (two w (.cells #[.int .i64 0, .int .i64 0, .int .i64 0, .int .i64 0, .float .f64 0, .slice none 0 0, .int .i64 0, .int .i64 0, .float .f64 0, .slice none 0 0] 31) (.cells #[.int .i64 0, .int .i64 0, .int .i64 0, .int .i64 0, .float .f64 0, .slice none 0 0, .int .i64 0, .int .i64 0, .float .f64 0, .slice none 0 0] 31)) (Nat.le_refl _))
 have g1 := spec_GetNum n H0.out (by omega) 0 4 (by omega) (by omega) (by omega)
 have H1 := hid (h.below (two w (.cells #[.int .i64 0, .int .i64 0, .int .i64 0, .int .i64 0, .float .f64 0, .slice none 0 0, .int .i64 0, .int .i64 0, .float .f64 0, .slice none 0 0] 31) (.cells #[.int .i64 (numOf zs 0 4), .int .i64 0, .int .i64 0, .int .i64 0, .float .f64 0, .slice none 0 0, .int .i64 0, .int .i64 0, .float .f64 0, .slice none 0 0] 31)) (Nat.le_refl _))
 have g2 := spec_GetNum n H1.out (by omega) 4 4 (by omega) (by omega) (by omega)
 have e8 : zs.getD 8 0 = (tkl zs : Int) := by unfold tkl; have := (h.bd 8).1; omega
 have c8 : w.cell? ⟨b, off + 8, none⟩ = some (.int .u8 (tkl zs)) := by
  rcases h.cells with h0 | ⟨b', off', e, hcc⟩
  · omega
  · cases e; rw [hcc 8 (by omega), e8]
 have hk255 : tkl zs ≤ 255 := by have := (h.bd 8).2; omega
 have wk : IntKind.i64.wrap (tkl zs : Int) = (tkl zs : Int) := by rw [IntKind.wrap_i64]; omega
 have d8 := cell_oldx (.cells #[.int .i64 (numOf zs 0 4), .int .i64 (numOf zs 4 4), .int .i64 0, .int .i64 0, .float .f64 0, .slice none 0 0, .int .i64 0, .int .i64 0, .float .f64 0, .slice none 0 0] 31) (cell_oldx (w := w) (.cells #[.int .i64 0, .int .i64 0, .int .i64 0, .int .i64 0, .float .f64 0, .slice none 0 0, .int .i64 0, .int .i64 0, .float .f64 0, .slice none 0 0] 31) c8)
 have R0 := hid (two_rows w (.cells #[.int .i64 0, .int .i64 0, .int .i64 0, .int .i64 0, .float .f64 0, .slice none 0 0, .int .i64 0, .int .i64 0, .float .f64 0, .slice none 0 0] 31) (.cells #[.int .i64 (numOf zs 0 4), .int .i64 (numOf zs 4 4), .int .i64 0, .int .i64 0, .float .f64 0, .slice none 0 0, .int .i64 0, .int .i64 0, .float .f64 0, .slice none 0 0] 31))
 have B0 := hid (two w (.cells #[.int .i64 0, .int .i64 0, .int .i64 0, .int .i64 0, .float .f64 0, .slice none 0 0, .int .i64 0, .int .i64 0, .float .f64 0, .slice none 0 0] 31) (.cells #[.int .i64 (numOf zs 0 4), .int .i64 (numOf zs 4 4), .int .i64 0, .int .i64 0, .float .f64 0, .slice none 0 0, .int .i64 0, .int .i64 0, .float .f64 0, .slice none 0 0] 31))
 have HH := hid (h.below B0.out (Nat.le_refl _))
 have i1 : ¬ (n : Int) < 10 := by omega
 have i2 : ¬ (92 : Int) < (n : Int) := by omega
 have i3 : (8 : Int) < (n : Int) := by omega
 have i4 : ¬ (n : Int) - 10 < (tkl zs : Int) := by omega
 have i5 : (9 : Int) ≤ 9 + (tkl zs : Int) := by omega
 have i6 : 9 + (tkl zs : Int) ≤ (n : Int) := by omega
 have i7 : ¬ n = 9 := by omega
 have i8 : 10 + (tkl zs : Int) ≤ (n : Int) := by omega
 have i9 : (0 : Int) ≤ 10 + (tkl zs : Int) := by omega
 have HK := hid hk
 have HV := hid hr
 have BK := hid (readR_bd hk (take_bd (drop_bd h.bd 9) _) (by simp [keyP]; omega)).1
 have BV := hid (readR_bd hr (drop_bd h.bd _) (by simp [valP]; omega)).1
 have SK9 : Hid (∀ U, Reads U (some ⟨b, off, none⟩) n zs → Reads U (some ⟨b, off + 9, none⟩) (tkl zs) (keyP zs)) := hid fun U r => r.sub 9 (tkl zs) (by omega)
 have HVE := hid (show readR unfV [] = (SK, SN, SF, SZ, false) by rw [← hr]; congr 1; exact (List.drop_eq_nil_of_le (by omega)).symm)
 have HO := hid h
 have hbz := hid h.bd
 clear hk hr
 generalize numOf zs 0 4 = A at *
 generalize numOf zs 4 4 = B at *
 generalize numOk zs 0 4 = o1 at *
 generalize numOk zs 4 4 = o2 at *
 generalize hkl : tkl zs = kl at *
 subst hb
 clear h H0 H1 e8 c8
 go_enter Tryz.func49, Tryz.ntmps49
 go_wp2_with fail
 refine g1.mono ?_
 rintro e w1 ⟨rfl, h1⟩
 subst w1
 go_wp2_with fail
 refine g2.mono ?_
 rintro e w1 ⟨rfl, h1⟩
 subst w1
 clear g1 g2
 go_wp2_with fail
 generalize hW0 : (w.alloc (.cells #[.int .i64 0, .int .i64 0, .int .i64 0, .int .i64 0, .float .f64 0, .slice none 0 0, .int .i64 0, .int .i64 0, .float .f64 0, .slice none 0 0] 31)).alloc (.cells #[.int .i64 A, .int .i64 B, .int .i64 0, .int .i64 0, .float .f64 0, .slice none 0 0, .int .i64 0, .int .i64 0, .float .f64 0, .slice none 0 0] 31) = W0 at *
 clear hW0 d8
 have zz := R0.out.2.2
 have RR := hid R0.out.1
 have RT := hid R0.out.2.1
 have HZ := hid zz
 clear R0 zz
 refine (spec_KeyRead ((10 + kl) - 9) (by omega) (SK9.out _ HH.out) (by omega) HK.out).mono ?_
 rintro e w3 ⟨f1, u1, rfl, hf1, S1, o, b3⟩
 obtain ⟨a1, c1, rfl, r, dd1⟩ := Reads.own o BK.out
 have hss1 := fun w a m => run_store Tryz.prog w a (.float .f64 f1) m rfl
 have bA := Below.alloc1 w3 (.cells #[.int .i64 RK, .int .i64 RN, .float .f64 f1, .slice a1 RZ.length c1] 29)
 have zz := b3.size
 have z2 := HZ.out
 have Q2 := hid (heap_alloc_new w3 (.cells #[.int .i64 RK, .int .i64 RN, .float .f64 f1, .slice a1 RZ.length c1] 29))
 replace RR := hid ((heap_alloc_old w3 (.cells #[.int .i64 RK, .int .i64 RN, .float .f64 f1, .slice a1 RZ.length c1] 29) (show w.heap.size < w3.heap.size by omega)).trans ((b3.block w.heap.size (by omega)).trans RR.out))
 replace RT := hid ((heap_alloc_old w3 (.cells #[.int .i64 RK, .int .i64 RN, .float .f64 f1, .slice a1 RZ.length c1] 29) (show w.heap.size + 1 < w3.heap.size by omega)).trans ((b3.block (w.heap.size + 1) (by omega)).trans RT.out))
 replace B0 := hid ((B0.out.trans (b3.mono (by omega))).trans (bA.mono (by omega)))
 replace HH := hid ((HH.out.below b3 (Nat.le_refl _)).below bA (Nat.le_refl _))
 have O1 := hid (owns_base (base' := w.heap.size + 2) (o.alloc (.cells #[.int .i64 RK, .int .i64 RN, .float .f64 f1, .slice a1 RZ.length c1] 29)) (by omega))
 have D1 : Hid (In a1 (w.heap.size + 2) w3.heap.size) := hid (by rcases dd1 with h | ⟨g, h, h1, h2⟩; exact .inl h; exact .inr ⟨g, h, by omega, h2⟩)
 have HS3 := hid (show w.heap.size + 2 ≤ w3.heap.size by omega)
 have HS4 := hid (alloc_size w3 (.cells #[.int .i64 RK, .int .i64 RN, .float .f64 f1, .slice a1 RZ.length c1] 29))
 clear o b3 bA r dd1 zz z2
 go_wp2_with fail
 generalize w3.alloc (.cells #[.int .i64 RK, .int .i64 RN, .float .f64 f1, .slice a1 RZ.length c1] 29) = U3 at *
 generalize w3.heap.size = q2 at *
 refine (spec_ValueRead 0 (Nat.le_refl _) (Reads.zero (some ⟨b, off, none⟩)) (by omega) HVE.out).mono ?_
 rintro e w4 ⟨f2, u2, rfl, hf2, S2, o, b4⟩
 obtain ⟨a2, c2, rfl, r, dd2⟩ := Reads.own o BV.out
 have hss2 := fun w a m => run_store Tryz.prog w a (.float .f64 f2) m rfl
 have bA := Below.alloc1 w4 (.cells #[.int .i64 SK, .int .i64 SN, .float .f64 f2, .slice a2 SZ.length c2] 29)
 have zz := b4.size
 have z3 := HS3.out
 have z4 := HS4.out
 have q3 := heap_alloc_new w4 (.cells #[.int .i64 SK, .int .i64 SN, .float .f64 f2, .slice a2 SZ.length c2] 29)
 replace Q2 := hid ((heap_alloc_old w4 (.cells #[.int .i64 SK, .int .i64 SN, .float .f64 f2, .slice a2 SZ.length c2] 29) (show q2 < w4.heap.size by omega)).trans ((b4.block q2 (by omega)).trans Q2.out))
 have rr := (heap_alloc_old w4 (.cells #[.int .i64 SK, .int .i64 SN, .float .f64 f2, .slice a2 SZ.length c2] 29) (show w.heap.size < w4.heap.size by omega)).trans ((b4.block w.heap.size (by omega)).trans RR.out)
 have rt := (heap_alloc_old w4 (.cells #[.int .i64 SK, .int .i64 SN, .float .f64 f2, .slice a2 SZ.length c2] 29) (show w.heap.size + 1 < w4.heap.size by omega)).trans ((b4.block (w.heap.size + 1) (by omega)).trans RT.out)
 have bb := (B0.out.trans (b4.mono (by omega))).trans (bA.mono (by omega))
 have o1 := (owns_below b4 (Nat.le_refl _) O1.out).alloc (.cells #[.int .i64 SK, .int .i64 SN, .float .f64 f2, .slice a2 SZ.length c2] 29)
 have o2 := owns_base (base' := w.heap.size + 2) (o.alloc (.cells #[.int .i64 SK, .int .i64 SN, .float .f64 f2, .slice a2 SZ.length c2] 29)) (by omega)
 have D2 : Hid (In a2 q2 w4.heap.size) := hid (by rcases dd2 with h | ⟨g, h, h1, h2⟩; exact .inl h; exact .inr ⟨g, h, by omega, h2⟩)
 have TA := hid rt
 have TB := hid (setRow_heap (w4.alloc (.cells #[.int .i64 SK, .int .i64 SN, .float .f64 f2, .slice a2 SZ.length c2] 29)) (w.heap.size + 1) _ #[.int .i64 A, .int .i64 B, .int .i64 RK, .int .i64 RN, .float .f64 f1, .slice a1 RZ.length c1, .int .i64 0, .int .i64 0, .float .f64 0, .slice none 0 0] _ _ rt)
 have Q3 := hid ((setRow_other (w4.alloc (.cells #[.int .i64 SK, .int .i64 SN, .float .f64 f2, .slice a2 SZ.length c2] 29)) (w.heap.size + 1) w4.heap.size #[.int .i64 A, .int .i64 B, .int .i64 RK, .int .i64 RN, .float .f64 f1, .slice a1 RZ.length c1, .int .i64 0, .int .i64 0, .float .f64 0, .slice none 0 0] (by omega)).trans q3)
 have TF := hid (setRow_heap _ (w.heap.size + 1) _ #[.int .i64 A, .int .i64 B, .int .i64 RK, .int .i64 RN, .float .f64 f1, .slice a1 RZ.length c1, .int .i64 SK, .int .i64 SN, .float .f64 f2, .slice a2 SZ.length c2] _ _ TB.out)
 have RF := hid ((setRow_other ((w4.alloc (.cells #[.int .i64 SK, .int .i64 SN, .float .f64 f2, .slice a2 SZ.length c2] 29)).setRow (w.heap.size + 1) #[.int .i64 A, .int .i64 B, .int .i64 RK, .int .i64 RN, .float .f64 f1, .slice a1 RZ.length c1, .int .i64 0, .int .i64 0, .float .f64 0, .slice none 0 0]) (w.heap.size + 1) w.heap.size #[.int .i64 A, .int .i64 B, .int .i64 RK, .int .i64 RN, .float .f64 f1, .slice a1 RZ.length c1, .int .i64 SK, .int .i64 SN, .float .f64 f2, .slice a2 SZ.length c2] (by omega)).trans ((setRow_other (w4.alloc (.cells #[.int .i64 SK, .int .i64 SN, .float .f64 f2, .slice a2 SZ.length c2] 29)) (w.heap.size + 1) w.heap.size #[.int .i64 A, .int .i64 B, .int .i64 RK, .int .i64 RN, .float .f64 f1, .slice a1 RZ.length c1, .int .i64 0, .int .i64 0, .float .f64 0, .slice none 0 0] (by omega)).trans rr))
 have B5 := hid (below_setRow (below_setRow bb (show w.heap.size ≤ w.heap.size + 1 by omega) #[.int .i64 A, .int .i64 B, .int .i64 RK, .int .i64 RN, .float .f64 f1, .slice a1 RZ.length c1, .int .i64 0, .int .i64 0, .float .f64 0, .slice none 0 0]) (show w.heap.size ≤ w.heap.size + 1 by omega) #[.int .i64 A, .int .i64 B, .int .i64 RK, .int .i64 RN, .float .f64 f1, .slice a1 RZ.length c1, .int .i64 SK, .int .i64 SN, .float .f64 f2, .slice a2 SZ.length c2])
 have G : ∀ (u : World) (R : Array Value), u.grownBy (u.setRow (w.heap.size + 1) R) (some (w.heap.size + 1)) := fun u R => ⟨rfl, rfl, rfl, by simp, fun i _ hne => setRow_other _ _ _ _ (fun e => hne (by rw [e]))⟩
 have NE : ∀ (a : Option Addr) (n c : Nat) (u : World) (xs : List Value), u.ownsRow (w.heap.size + 2) 5 1 (.slice a n c) n xs → (Value.slice a n c).ownBlock = none ∨ (Value.slice a n c).ownBlock ≠ some (w.heap.size + 1) := fun a n c u xs o => .inr fun e => by have := (o.lt _ e).1; omega
 have o1' := o1.kept (G _ #[.int .i64 A, .int .i64 B, .int .i64 RK, .int .i64 RN, .float .f64 f1, .slice a1 RZ.length c1, .int .i64 0, .int .i64 0, .float .f64 0, .slice none 0 0]) (NE _ _ _ _ _ o1)
 have o2' := o2.kept (G _ #[.int .i64 A, .int .i64 B, .int .i64 RK, .int .i64 RN, .float .f64 f1, .slice a1 RZ.length c1, .int .i64 0, .int .i64 0, .float .f64 0, .slice none 0 0]) (NE _ _ _ _ _ o2)
 replace O1 := hid (o1'.kept (G _ #[.int .i64 A, .int .i64 B, .int .i64 RK, .int .i64 RN, .float .f64 f1, .slice a1 RZ.length c1, .int .i64 SK, .int .i64 SN, .float .f64 f2, .slice a2 SZ.length c2]) (NE _ _ _ _ _ o1'))
 have O2 := hid (o2'.kept (G _ #[.int .i64 A, .int .i64 B, .int .i64 RK, .int .i64 RN, .float .f64 f1, .slice a1 RZ.length c1, .int .i64 SK, .int .i64 SN, .float .f64 f2, .slice a2 SZ.length c2]) (NE _ _ _ _ _ o2'))
 have SZ5 := hid (show w.heap.size + 1 < (((w4.alloc (.cells #[.int .i64 SK, .int .i64 SN, .float .f64 f2, .slice a2 SZ.length c2] 29)).setRow (w.heap.size + 1) #[.int .i64 A, .int .i64 B, .int .i64 RK, .int .i64 RN, .float .f64 f1, .slice a1 RZ.length c1, .int .i64 0, .int .i64 0, .float .f64 0, .slice none 0 0]).setRow (w.heap.size + 1) #[.int .i64 A, .int .i64 B, .int .i64 RK, .int .i64 RN, .float .f64 f1, .slice a1 RZ.length c1, .int .i64 SK, .int .i64 SN, .float .f64 f2, .slice a2 SZ.length c2]).heap.size by simp; omega)
 clear o b4 bA r dd2 zz z3 z4 q3 rr rt bb o1 o2 o1' o2' G NE RR RT B0 HH HS3 HS4 HZ
 obtain ⟨kk0, kk1, kk2, kk3⟩ := row_cells Q2.out
 obtain ⟨ll0, ll1, ll2, ll3⟩ := row_cells Q3.out
 go_wp2_with (first
  | (refine wpList_store_part rfl 29 (.tmp 58) (.tmp 57) rfl (w.heap.size + 1) 2 #[.int .i64 RK, .int .i64 RN, .float .f64 f1, .slice a1 RZ.length c1] rfl rfl 31 _ TA.out ?s1 ?s2 ?s3 #[.int .i64 A, .int .i64 B, .int .i64 RK, .int .i64 RN, .float .f64 f1, .slice a1 RZ.length c1, .int .i64 0, .int .i64 0, .float .f64 0, .slice none 0 0] rfl ?_)
  | (refine wpList_store_part rfl 29 (.tmp 60) (.tmp 59) rfl (w.heap.size + 1) 6 #[.int .i64 SK, .int .i64 SN, .float .f64 f2, .slice a2 SZ.length c2] rfl rfl 31 _ TB.out ?s4 ?s5 ?s6 #[.int .i64 A, .int .i64 B, .int .i64 RK, .int .i64 RN, .float .f64 f1, .slice a1 RZ.length c1, .int .i64 SK, .int .i64 SN, .float .f64 f2, .slice a2 SZ.length c2] rfl ?_))
 case s1 => exact size_it'
 case s2 => simp
 case s3 => simp [Value.oneCell']
 case s4 => exact size_it'
 case s5 => simp
 case s6 => simp [Value.oneCell']
 generalize ((w4.alloc (.cells #[.int .i64 SK, .int .i64 SN, .float .f64 f2, .slice a2 SZ.length c2] 29)).setRow (w.heap.size + 1) #[.int .i64 A, .int .i64 B, .int .i64 RK, .int .i64 RN, .float .f64 f1, .slice a1 RZ.length c1, .int .i64 0, .int .i64 0, .float .f64 0, .slice none 0 0]).setRow (w.heap.size + 1) #[.int .i64 A, .int .i64 B, .int .i64 RK, .int .i64 RN, .float .f64 f1, .slice a1 RZ.length c1, .int .i64 SK, .int .i64 SN, .float .f64 f2, .slice a2 SZ.length c2] = W5 at *
 clear TA TB Q2 Q3 kk0 kk1 kk2 kk3 ll0 ll1 ll2 ll3
 go_quiet (fail)
 go_wp2_with (first
  | (refine wpList_store_row rfl 31 (.tmp 2) (.tmp 75) rfl w.heap.size #[.int .i64 0, .int .i64 0, .int .i64 0, .int .i64 0, .float .f64 0, .slice none 0 0, .int .i64 0, .int .i64 0, .float .f64 0, .slice none 0 0] rfl rfl 31 _ RF.out ?s7 ?s8 ?s9 ?_))
 case s7 => exact size_tup
 case s8 => rfl
 case s9 => simp [Value.oneCell']
 exact bodyPost_ret (results_cell_tmp Tryz.results49 _ _ w.heap.size 31 _ (0, 0) _ rfl (setRow_heap _ _ _ _ _ _ RF.out) Tryz.underlying31 rfl size_tup) rfl ⟨rfl, below_setRow (B5.out.trans ((Still.drewN W5 _).below _)) (Nat.le_refl _) _⟩
end Go.Proofs.YtkfhfjghfadofaaGreat
