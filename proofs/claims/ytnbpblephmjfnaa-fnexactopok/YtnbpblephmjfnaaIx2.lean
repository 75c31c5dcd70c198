/- The program's ItemClean. -/
import Derived.Test.YtnbpblephmjfnaaMt
import Derived.Test.YtnbpblephmjfnaaIm1
namespace Go.Proofs.Ytnbpblephmjfnaa
open Go.RowKit
set_option maxRecDepth 100000 in
set_option maxHeartbeats 3200000 in
theorem impl_ItemClean_int (N : Int) (ad : Option Addr) (cap : Nat) (w : World) :
 Calls Try.prog 30 #[.agg #[.int .i64 1, .int .i64 N, .float .f64 0, .slice ad 0 cap]] w fun e w' => e = .returned (.agg #[.int .i64 1, .int .i64 N, .float .f64 0, .slice none 0 0]) ∧ Below w.heap.size w w' := by
 have hI := impl_ItemOk 1 N 0 ad 0 cap (by omega) (by omega)
 rw [show okI 1 N 0 0 = true from decide_eq_true (by omega)] at hI
 have hB := two w (.cells #[.int .i64 1, .int .i64 N, .float .f64 0, .slice ad 0 cap] 31) (.cells #[.int .i64 0, .int .i64 0, .float .f64 0, .slice none 0 0] 31)
 have z1 := alloc_size w (.cells #[.int .i64 1, .int .i64 N, .float .f64 0, .slice ad 0 cap] 31)
 have z2 := alloc_size (w.alloc (.cells #[.int .i64 1, .int .i64 N, .float .f64 0, .slice ad 0 cap] 31)) (.cells #[.int .i64 0, .int .i64 0, .float .f64 0, .slice none 0 0] 31)
 have R1 := heap_alloc_new (w.alloc (.cells #[.int .i64 1, .int .i64 N, .float .f64 0, .slice ad 0 cap] 31)) (.cells #[.int .i64 0, .int .i64 0, .float .f64 0, .slice none 0 0] 31)
 have X0 := (Box.new w 1 N 0 ad 0 cap 31).below ((Below.refl (w.heap.size + 1) _).alloc (by omega) (.cells #[.int .i64 0, .int .i64 0, .float .f64 0, .slice none 0 0] 31)) (by omega)
 rw [z1] at z2 R1
 have H1 := hid R1
 have HX := hid X0
 have HZ := hid (show w.heap.size + 1 < ((w.alloc (.cells #[.int .i64 1, .int .i64 N, .float .f64 0, .slice ad 0 cap] 31)).alloc (.cells #[.int .i64 0, .int .i64 0, .float .f64 0, .slice none 0 0] 31)).heap.size by omega)
 have HB := hid hB
 clear R1 z2 z1 hB X0
 go_enter Try.func30, Try.ntmps30
 go_wp2_with fail
 refine (hI _).mono ?_
 rintro e w1 ⟨rfl, b⟩
 have hz := HZ.out
 have S1 := (b.block (w.heap.size + 1) (by omega)).trans H1.out
 have X1 := HX.out.below b (by omega)
 have B1 := HB.out.trans (b.mono HB.out.size)
 have ys := b.size
 clear H1 HX HB HZ
 have H1 := hid S1
 have HX := hid X1
 have HB := hid B1
 have HZ := hid (show w.heap.size + 1 < w1.heap.size by omega)
 clear S1 B1 ys hz b
 obtain ⟨c0, c1, c2, c3⟩ := X1
 go_wp2_with fail
 clear c0 c1 c2 c3
 refine (contentOf_int N 0 ad 0 cap _).mono ?_
 rintro e w2 ⟨rfl, b⟩
 have hz := HZ.out
 have S1 := (b.block (w.heap.size + 1) (by omega)).trans H1.out
 have X1 := HX.out.below b (by omega)
 have B1 := HB.out.trans (b.mono HB.out.size)
 have ys := b.size
 clear H1 HX HB HZ X1
 have H1 := hid S1
 have HB := hid B1
 have HZ := hid (show w.heap.size + 1 < w2.heap.size by omega)
 clear S1 B1 ys hz b hI
 have q := m_clean_int
 go_wp2_with fail
 clear q
 refine (clean_int N _).mono ?_
 rintro e w3 ⟨rfl, rfl⟩
 go_wp2_with fail
 refine (itemOf_int N _).mono ?_
 rintro e w4 ⟨rfl, b⟩
 have hz := HZ.out
 have S1 := (b.block (w.heap.size + 1) (by omega)).trans H1.out
 have B1 := HB.out.trans (b.mono HB.out.size)
 have T1 := hid S1
 have HW := HZ
 clear S1 b hz HB H1 HZ
 go_wp2_with (first
  | (refine wpList_store_row rfl 31 (.tmp 2) (.tmp 10) rfl (w.heap.size + 1) #[.int .i64 1, .int .i64 N, .float .f64 0, .slice none 0 0] rfl rfl 31 _ T1.out ?s1 ?s2 ?s3 ?_))
 case s1 => exact size31
 case s2 => rfl
 case s3 => simp [Value.oneCell']
 exact bodyPost_ret (results_cell_row Try.results30 _ _ (w.heap.size + 1) 31 _ (0, 0) _ rfl (setRow_heap _ _ _ _ _ _ T1.out) Try.underlying31 rfl size31) rfl ⟨rfl, below_setRow B1 (by omega) _⟩
set_option maxRecDepth 100000 in
set_option maxHeartbeats 3200000 in
theorem impl_ItemClean_float (f : Nat) (hf : f < 18446744073709551616) (ad : Option Addr) (cap : Nat) (w : World) :
 Calls Try.prog 30 #[.agg #[.int .i64 2, .int .i64 0, .float .f64 f, .slice ad 0 cap]] w fun e w' => e = .returned (.agg #[.int .i64 2, .int .i64 0, .float .f64 (cleanF f), .slice none 0 0]) ∧ Below w.heap.size w w' := by
 have hI := impl_ItemOk 2 0 f ad 0 cap hf (by omega)
 rw [show okI 2 0 f 0 = true from decide_eq_true (by omega)] at hI
 have hB := two w (.cells #[.int .i64 2, .int .i64 0, .float .f64 f, .slice ad 0 cap] 31) (.cells #[.int .i64 0, .int .i64 0, .float .f64 0, .slice none 0 0] 31)
 have z1 := alloc_size w (.cells #[.int .i64 2, .int .i64 0, .float .f64 f, .slice ad 0 cap] 31)
 have z2 := alloc_size (w.alloc (.cells #[.int .i64 2, .int .i64 0, .float .f64 f, .slice ad 0 cap] 31)) (.cells #[.int .i64 0, .int .i64 0, .float .f64 0, .slice none 0 0] 31)
 have R1 := heap_alloc_new (w.alloc (.cells #[.int .i64 2, .int .i64 0, .float .f64 f, .slice ad 0 cap] 31)) (.cells #[.int .i64 0, .int .i64 0, .float .f64 0, .slice none 0 0] 31)
 have X0 := (Box.new w 2 0 f ad 0 cap 31).below ((Below.refl (w.heap.size + 1) _).alloc (by omega) (.cells #[.int .i64 0, .int .i64 0, .float .f64 0, .slice none 0 0] 31)) (by omega)
 rw [z1] at z2 R1
 have H1 := hid R1
 have HX := hid X0
 have HZ := hid (show w.heap.size + 1 < ((w.alloc (.cells #[.int .i64 2, .int .i64 0, .float .f64 f, .slice ad 0 cap] 31)).alloc (.cells #[.int .i64 0, .int .i64 0, .float .f64 0, .slice none 0 0] 31)).heap.size by omega)
 have HB := hid hB
 clear R1 z2 z1 hB X0
 go_enter Try.func30, Try.ntmps30
 go_wp2_with fail
 refine (hI _).mono ?_
 rintro e w1 ⟨rfl, b⟩
 have hz := HZ.out
 have S1 := (b.block (w.heap.size + 1) (by omega)).trans H1.out
 have X1 := HX.out.below b (by omega)
 have B1 := HB.out.trans (b.mono HB.out.size)
 have ys := b.size
 clear H1 HX HB HZ
 have H1 := hid S1
 have HX := hid X1
 have HB := hid B1
 have HZ := hid (show w.heap.size + 1 < w1.heap.size by omega)
 clear S1 B1 ys hz b
 obtain ⟨c0, c1, c2, c3⟩ := X1
 go_wp2_with fail
 clear c0 c1 c2 c3
 refine (contentOf_float 0 f ad 0 cap _).mono ?_
 rintro e w2 ⟨rfl, b⟩
 have hz := HZ.out
 have S1 := (b.block (w.heap.size + 1) (by omega)).trans H1.out
 have X1 := HX.out.below b (by omega)
 have B1 := HB.out.trans (b.mono HB.out.size)
 have ys := b.size
 clear H1 HX HB HZ X1
 have H1 := hid S1
 have HB := hid B1
 have HZ := hid (show w.heap.size + 1 < w2.heap.size by omega)
 clear S1 B1 ys hz b hI
 have q := m_clean_float
 go_wp2_with fail
 clear q
 refine (clean_float f hf _).mono ?_
 rintro e w3 ⟨rfl, rfl⟩
 go_wp2_with fail
 refine (itemOf_float (cleanF f) _).mono ?_
 rintro e w4 ⟨rfl, b⟩
 have hz := HZ.out
 have S1 := (b.block (w.heap.size + 1) (by omega)).trans H1.out
 have B1 := HB.out.trans (b.mono HB.out.size)
 have T1 := hid S1
 have HW := HZ
 clear S1 b hz HB H1 HZ
 go_wp2_with (first
  | (refine wpList_store_row rfl 31 (.tmp 2) (.tmp 10) rfl (w.heap.size + 1) #[.int .i64 2, .int .i64 0, .float .f64 (cleanF f), .slice none 0 0] rfl rfl 31 _ T1.out ?s1 ?s2 ?s3 ?_))
 case s1 => exact size31
 case s2 => rfl
 case s3 => simp [Value.oneCell']
 exact bodyPost_ret (results_cell_row Try.results30 _ _ (w.heap.size + 1) 31 _ (0, 0) _ rfl (setRow_heap _ _ _ _ _ _ T1.out) Try.underlying31 rfl size31) rfl ⟨rfl, below_setRow B1 (by omega) _⟩
set_option maxRecDepth 100000 in
set_option maxHeartbeats 3200000 in
theorem impl_ItemClean_text {ad : Option Addr} {n : Nat} (cap : Nat) {zs : List Int} {w : World} (h : Reads w ad n zs) (hn : n ≤ 40) :
 Calls Try.prog 30 #[.agg #[.int .i64 3, .int .i64 0, .float .f64 0, .slice ad n cap]] w fun e w' => ∃ v, e = .returned (.agg #[.int .i64 3, .int .i64 0, .float .f64 0, v]) ∧ w'.ownsRow w.heap.size 5 1 v n (bys zs) ∧ Below w.heap.size w w' := by
 have hI := impl_ItemOk 3 0 0 ad n cap (by omega) (by omega)
 rw [show okI 3 0 0 n = true from decide_eq_true (by omega)] at hI
 have hB := two w (.cells #[.int .i64 3, .int .i64 0, .float .f64 0, .slice ad n cap] 31) (.cells #[.int .i64 0, .int .i64 0, .float .f64 0, .slice none 0 0] 31)
 have z1 := alloc_size w (.cells #[.int .i64 3, .int .i64 0, .float .f64 0, .slice ad n cap] 31)
 have z2 := alloc_size (w.alloc (.cells #[.int .i64 3, .int .i64 0, .float .f64 0, .slice ad n cap] 31)) (.cells #[.int .i64 0, .int .i64 0, .float .f64 0, .slice none 0 0] 31)
 have R1 := heap_alloc_new (w.alloc (.cells #[.int .i64 3, .int .i64 0, .float .f64 0, .slice ad n cap] 31)) (.cells #[.int .i64 0, .int .i64 0, .float .f64 0, .slice none 0 0] 31)
 have X0 := (Box.new w 3 0 0 ad n cap 31).below ((Below.refl (w.heap.size + 1) _).alloc (by omega) (.cells #[.int .i64 0, .int .i64 0, .float .f64 0, .slice none 0 0] 31)) (by omega)
 rw [z1] at z2 R1
 have hbd := h.bd
 have HRd := hid (h.below hB (Nat.le_refl _))
 clear h
 have H1 := hid R1
 have HX := hid X0
 have HZ := hid (show w.heap.size + 1 < ((w.alloc (.cells #[.int .i64 3, .int .i64 0, .float .f64 0, .slice ad n cap] 31)).alloc (.cells #[.int .i64 0, .int .i64 0, .float .f64 0, .slice none 0 0] 31)).heap.size by omega)
 have HB := hid hB
 clear R1 z2 z1 hB X0
 go_enter Try.func30, Try.ntmps30
 go_wp2_with fail
 refine (hI _).mono ?_
 rintro e w1 ⟨rfl, b⟩
 have hz := HZ.out
 have S1 := (b.block (w.heap.size + 1) (by omega)).trans H1.out
 have X1 := HX.out.below b (by omega)
 have B1 := HB.out.trans (b.mono HB.out.size)
 have ys := b.size
 have rd := HRd.out.below b (Nat.le_refl _)
 clear HRd
 have HRd := hid rd
 clear rd
 clear H1 HX HB HZ
 have H1 := hid S1
 have HX := hid X1
 have HB := hid B1
 have HZ := hid (show w.heap.size + 1 < w1.heap.size by omega)
 clear S1 B1 ys hz b
 obtain ⟨c0, c1, c2, c3⟩ := X1
 go_wp2_with fail
 clear c0 c1 c2 c3
 refine (contentOf_text 0 0 ad n cap _).mono ?_
 rintro e w2 ⟨rfl, b⟩
 have hz := HZ.out
 have S1 := (b.block (w.heap.size + 1) (by omega)).trans H1.out
 have X1 := HX.out.below b (by omega)
 have B1 := HB.out.trans (b.mono HB.out.size)
 have ys := b.size
 have rd := HRd.out.below b (Nat.le_refl _)
 clear HRd
 have HRd := hid rd
 clear rd
 clear H1 HX HB HZ X1
 have H1 := hid S1
 have HB := hid B1
 have HZ := hid (show w.heap.size + 1 < w2.heap.size by omega)
 clear S1 B1 ys hz b hI
 have q := m_clean_text
 go_wp2_with fail
 clear q
 refine (clean_text ad n cap _).mono ?_
 rintro e w3 ⟨rfl, rfl⟩
 go_wp2_with fail
 refine (itemOf_text cap HRd.out (by omega)).mono ?_
 rintro e w4 ⟨v, rfl, o, b⟩
 obtain ⟨ad1, cap1, rfl, r1, _⟩ := Reads.own o hbd
 have O := hid o
 clear o r1 HRd
 have hz := HZ.out
 have S1 := (b.block (w.heap.size + 1) (by omega)).trans H1.out
 have B1 := HB.out.trans (b.mono HB.out.size)
 have T1 := hid S1
 have HW := HZ
 clear S1 b hz HB H1 HZ
 go_wp2_with (first
  | (refine wpList_store_row rfl 31 (.tmp 2) (.tmp 10) rfl (w.heap.size + 1) #[.int .i64 3, .int .i64 0, .float .f64 0, .slice ad1 n cap1] rfl rfl 31 _ T1.out ?s1 ?s2 ?s3 ?_))
 case s1 => exact size31
 case s2 => rfl
 case s3 => simp [Value.oneCell']
 have hw := HW.out
 refine bodyPost_ret (results_cell_row Try.results30 _ _ (w.heap.size + 1) 31 _ (0, 0) _ rfl (setRow_heap _ _ _ _ _ _ T1.out) Try.underlying31 rfl size31) rfl ⟨_, rfl, owns_base (owns_at O.out fun k hk => ?_) (by omega), below_setRow B1 (by omega) _⟩
 rw [setRow_other _ _ _ _ (by omega)]
set_option maxRecDepth 100000 in
set_option maxHeartbeats 3200000 in
theorem impl_ItemClean_none (ad : Option Addr) (cap : Nat) (w : World) :
 Calls Try.prog 30 #[.agg #[.int .i64 0, .int .i64 0, .float .f64 0, .slice ad 0 cap]] w fun e w' => e = .returned (.agg #[.int .i64 0, .int .i64 0, .float .f64 0, .slice none 0 0]) ∧ Below w.heap.size w w' := by
 have hI := impl_ItemOk 0 0 0 ad 0 cap (by omega) (by omega)
 rw [show okI 0 0 0 0 = true from decide_eq_true (by omega)] at hI
 have hB := two w (.cells #[.int .i64 0, .int .i64 0, .float .f64 0, .slice ad 0 cap] 31) (.cells #[.int .i64 0, .int .i64 0, .float .f64 0, .slice none 0 0] 31)
 have z1 := alloc_size w (.cells #[.int .i64 0, .int .i64 0, .float .f64 0, .slice ad 0 cap] 31)
 have z2 := alloc_size (w.alloc (.cells #[.int .i64 0, .int .i64 0, .float .f64 0, .slice ad 0 cap] 31)) (.cells #[.int .i64 0, .int .i64 0, .float .f64 0, .slice none 0 0] 31)
 have R1 := heap_alloc_new (w.alloc (.cells #[.int .i64 0, .int .i64 0, .float .f64 0, .slice ad 0 cap] 31)) (.cells #[.int .i64 0, .int .i64 0, .float .f64 0, .slice none 0 0] 31)
 have X0 := (Box.new w 0 0 0 ad 0 cap 31).below ((Below.refl (w.heap.size + 1) _).alloc (by omega) (.cells #[.int .i64 0, .int .i64 0, .float .f64 0, .slice none 0 0] 31)) (by omega)
 rw [z1] at z2 R1
 have H1 := hid R1
 have HX := hid X0
 have HZ := hid (show w.heap.size + 1 < ((w.alloc (.cells #[.int .i64 0, .int .i64 0, .float .f64 0, .slice ad 0 cap] 31)).alloc (.cells #[.int .i64 0, .int .i64 0, .float .f64 0, .slice none 0 0] 31)).heap.size by omega)
 have HB := hid hB
 clear R1 z2 z1 hB X0
 go_enter Try.func30, Try.ntmps30
 go_wp2_with fail
 refine (hI _).mono ?_
 rintro e w1 ⟨rfl, b⟩
 have hz := HZ.out
 have S1 := (b.block (w.heap.size + 1) (by omega)).trans H1.out
 have X1 := HX.out.below b (by omega)
 have B1 := HB.out.trans (b.mono HB.out.size)
 have ys := b.size
 clear H1 HX HB HZ
 have H1 := hid S1
 have HX := hid X1
 have HB := hid B1
 have HZ := hid (show w.heap.size + 1 < w1.heap.size by omega)
 clear S1 B1 ys hz b
 obtain ⟨c0, c1, c2, c3⟩ := X1
 go_wp2_with fail
 clear c0 c1 c2 c3
 refine (contentOf_none 0 0 ad 0 cap _).mono ?_
 rintro e w2 ⟨rfl, b⟩
 have hz := HZ.out
 have S1 := (b.block (w.heap.size + 1) (by omega)).trans H1.out
 have X1 := HX.out.below b (by omega)
 have B1 := HB.out.trans (b.mono HB.out.size)
 have ys := b.size
 clear H1 HX HB HZ X1
 have H1 := hid S1
 have HB := hid B1
 have HZ := hid (show w.heap.size + 1 < w2.heap.size by omega)
 clear S1 B1 ys hz b hI
 have q := m_clean_none
 go_wp2_with fail
 clear q
 refine (clean_none _).mono ?_
 rintro e w3 ⟨rfl, b⟩
 have hz := HZ.out
 have S1 := (b.block (w.heap.size + 1) (by omega)).trans H1.out
 have B1 := HB.out.trans (b.mono HB.out.size)
 have ys := b.size
 clear H1 HB HZ
 have H1 := hid S1
 have HB := hid B1
 have HZ := hid (show w.heap.size + 1 < w3.heap.size by omega)
 clear S1 B1 ys hz b
 go_wp2_with fail
 refine (itemOf_none _).mono ?_
 rintro e w4 ⟨rfl, b⟩
 have hz := HZ.out
 have S1 := (b.block (w.heap.size + 1) (by omega)).trans H1.out
 have B1 := HB.out.trans (b.mono HB.out.size)
 have T1 := hid S1
 have HW := HZ
 clear S1 b hz HB H1 HZ
 go_wp2_with (first
  | (refine wpList_store_row rfl 31 (.tmp 2) (.tmp 10) rfl (w.heap.size + 1) #[.int .i64 0, .int .i64 0, .float .f64 0, .slice none 0 0] rfl rfl 31 _ T1.out ?s1 ?s2 ?s3 ?_))
 case s1 => exact size31
 case s2 => rfl
 case s3 => simp [Value.oneCell']
 exact bodyPost_ret (results_cell_row Try.results30 _ _ (w.heap.size + 1) 31 _ (0, 0) _ rfl (setRow_heap _ _ _ _ _ _ T1.out) Try.underlying31 rfl size31) rfl ⟨rfl, below_setRow B1 (by omega) _⟩
end Go.Proofs.Ytnbpblephmjfnaa
