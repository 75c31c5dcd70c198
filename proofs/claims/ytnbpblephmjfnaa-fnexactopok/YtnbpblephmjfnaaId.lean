/- The contract of the specification's ItemClean. Conditions: texts of at most 2^21 bytes. -/
import Derived.Test.YtnbpblephmjfnaaIc
namespace Go.Proofs.Ytnbpblephmjfnaa
open Go.RowKit
def cleanF (f : Nat) : Nat := if f = 9223372036854775808 then 0 else f
set_option maxRecDepth 100000 in
set_option maxHeartbeats 3200000 in
theorem spec_ItemClean_no (K N : Int) (f : Nat) (ad : Option Addr) (n cap : Nat) (hf : f < 18446744073709551616) (hn : n ≤ 2097152) (hok : okI K N f n = false) (w : World) :
 Calls Try.prog 13 #[.agg #[.int .i64 K, .int .i64 N, .float .f64 f, .slice ad n cap]] w fun e w' => e = .returned (.agg #[.int .i64 0, .int .i64 0, .float .f64 0, .slice none 0 0]) ∧ Below w.heap.size w w' := by
 have hI := spec_ItemOk K N f ad n cap hf hn
 rw [hok] at hI
 have hB := two w (.cells #[.int .i64 K, .int .i64 N, .float .f64 f, .slice ad n cap] 31) (.cells #[.int .i64 0, .int .i64 0, .float .f64 0, .slice none 0 0] 31)
 have z1 := alloc_size w (.cells #[.int .i64 K, .int .i64 N, .float .f64 f, .slice ad n cap] 31)
 have z2 := alloc_size (w.alloc (.cells #[.int .i64 K, .int .i64 N, .float .f64 f, .slice ad n cap] 31)) (.cells #[.int .i64 0, .int .i64 0, .float .f64 0, .slice none 0 0] 31)
 have R1 := heap_alloc_new (w.alloc (.cells #[.int .i64 K, .int .i64 N, .float .f64 f, .slice ad n cap] 31)) (.cells #[.int .i64 0, .int .i64 0, .float .f64 0, .slice none 0 0] 31)
 rw [z1] at z2 R1
 have H1 := hid R1
 have HZ := hid z2
 have HB := hid hB
 clear R1 z2 z1 hB
 go_enter Try.func13, Try.ntmps13
 go_wp2_with fail
 refine (hI _).mono ?_
 rintro e w1 ⟨rfl, b1⟩
 have hz := HZ.out
 have S1 := (b1.block (w.heap.size + 1) (by omega)).trans H1.out
 have B1 := HB.out.trans (b1.mono HB.out.size)
 have T1 := hid S1
 clear S1 b1 hz HZ HB H1
 go_wp2_with (first
  | (refine wpList_store_row rfl 31 (.tmp 2) (.tmp 7) rfl (w.heap.size + 1) #[.int .i64 0, .int .i64 0, .float .f64 0, .slice none 0 0] rfl rfl 31 _ T1.out ?s1 ?s2 ?s3 ?_))
 case s1 => exact size31
 case s2 => rfl
 case s3 => simp [Value.oneCell']
 exact bodyPost_ret (results_cell_row Try.results13 _ _ (w.heap.size + 1) 31 _ (0, 0) _ rfl (setRow_heap _ _ _ _ _ _ T1.out) Try.underlying31 rfl size31) rfl ⟨rfl, below_setRow B1 (by omega) _⟩
set_option maxRecDepth 100000 in
set_option maxHeartbeats 3200000 in
theorem spec_ItemClean_yes (K N : Int) (f : Nat) {ad : Option Addr} {n : Nat} (cap : Nat) (hnil : ad = none → cap = 0) {zs : List Int} {w : World} (h : Reads w ad n zs) (hf : f < 18446744073709551616) (hn : n ≤ 2097152) (hok : okI K N f n = true) :
 Calls Try.prog 13 #[.agg #[.int .i64 K, .int .i64 N, .float .f64 f, .slice ad n cap]] w fun e w' => ∃ v, e = .returned (.agg #[.int .i64 K, .int .i64 N, .float .f64 (cleanF f), v]) ∧ w'.ownsRow w.heap.size 5 1 v n (bys zs) ∧ Below w.heap.size w w' := by
 have hI := spec_ItemOk K N f ad n cap hf hn
 rw [hok] at hI
 have hbd := h.bd
 have hst := fun w a m => run_store Try.prog w a (.float .f64 f) m rfl
 have hst0 := fun w a m => run_store Try.prog w a (.float .f64 0) m rfl
 have hB := two w (.cells #[.int .i64 K, .int .i64 N, .float .f64 f, .slice ad n cap] 31) (.cells #[.int .i64 0, .int .i64 0, .float .f64 0, .slice none 0 0] 31)
 have z1 := alloc_size w (.cells #[.int .i64 K, .int .i64 N, .float .f64 f, .slice ad n cap] 31)
 have z2 := alloc_size (w.alloc (.cells #[.int .i64 K, .int .i64 N, .float .f64 f, .slice ad n cap] 31)) (.cells #[.int .i64 0, .int .i64 0, .float .f64 0, .slice none 0 0] 31)
 have R1 := heap_alloc_new (w.alloc (.cells #[.int .i64 K, .int .i64 N, .float .f64 f, .slice ad n cap] 31)) (.cells #[.int .i64 0, .int .i64 0, .float .f64 0, .slice none 0 0] 31)
 have X0 := (Box.new w K N f ad n cap 31).below ((Below.refl (w.heap.size + 1) _).alloc (by omega) (.cells #[.int .i64 0, .int .i64 0, .float .f64 0, .slice none 0 0] 31)) (by omega)
 rw [z1] at z2 R1
 have h0 := h.below hB (Nat.le_refl _)
 have H1 := hid R1
 have HZ := hid z2
 have HB := hid hB
 have HX := hid X0
 have HR := hid h0
 clear R1 z2 z1 hB X0 h0 h
 go_enter Try.func13, Try.ntmps13
 go_wp2_with fail
 refine (hI _).mono ?_
 rintro e w1 ⟨rfl, b1⟩
 have hz := HZ.out
 have S1 := hid ((b1.block (w.heap.size + 1) (by omega)).trans H1.out)
 have B1 := hid (HB.out.trans (b1.mono HB.out.size))
 have X1 := hid (HX.out.below b1 (by omega))
 have r1 := hid (HR.out.below b1 (Nat.le_refl _))
 have Z1 := hid (show w.heap.size + 1 < w1.heap.size by have := b1.size; omega)
 clear b1 hz HZ HB H1 HX HR
 obtain ⟨c0, c1, c2, c3⟩ := X1.out
 go_wp2_with fail
 clear c0 c1 c2 c3
 refine (spec_l3copy K N f cap hnil r1.out hn).mono ?_
 rintro e w2 ⟨v, rfl, o2, b2⟩
 have hz := Z1.out
 obtain ⟨ad2, cap2, rfl, r2, d2⟩ := Reads.own o2 hbd
 have S2 := hid ((b2.block (w.heap.size + 1) (by omega)).trans S1.out)
 have B2 := hid (B1.out.trans (b2.mono B1.out.size))
 have X2 := hid (X1.out.below b2 (by omega))
 have Z2 := hid (show w.heap.size + 1 < w2.heap.size by have := b2.size; omega)
 have O2 := hid o2
 clear b2 hz S1 B1 X1 r1 o2 d2 r2
 obtain ⟨c0, c1, c2, c3⟩ := X2.out
 by_cases hz : f = 0 ∨ f = 9223372036854775808
 · have hc := hid (show cleanF f = 0 by rw [cleanF]; split <;> omega)
   have o : FloatKind.f64.format.order f 0 = some .eq := by rcases hz with rfl | rfl <;> decide
   have zz := Z2.out
   have T1 := hid ((alloc_old w2 (.cells #[.int .i64 K, .int .i64 N, .float .f64 0, .slice ad2 n cap2] 31) (w.heap.size + 1) (by omega)).trans S2.out)
   have BA := hid (B2.out.alloc (show w.heap.size ≤ w2.heap.size by omega) (.cells #[.int .i64 K, .int .i64 N, .float .f64 0, .slice ad2 n cap2] 31))
   have OA := hid (O2.out.alloc (.cells #[.int .i64 K, .int .i64 N, .float .f64 0, .slice ad2 n cap2] 31))
   have zz0 : w.heap.size < w2.heap.size := by omega
   have ne0 : ¬ w.heap.size = w2.heap.size := by omega
   clear S2 B2 O2 hz X2
   go_wp2_with (first
    | (refine wpList_store_row rfl 31 (.tmp 2) (.tmp 14) rfl (w.heap.size + 1) #[.int .i64 K, .int .i64 N, .float .f64 0, .slice ad2 n cap2] rfl rfl 31 _ T1.out ?s1 ?s2 ?s3 ?_))
   case s1 => exact size31
   case s2 => rfl
   case s3 => simp [Value.oneCell']
   refine bodyPost_ret (results_cell_row Try.results13 _ _ (w.heap.size + 1) 31 _ (0, 0) _ rfl (setRow_heap _ _ _ _ _ _ T1.out) Try.underlying31 rfl size31) rfl ⟨.slice ad2 n cap2, by rw [hc.out], owns_base (owns_at OA.out fun k hk => ?_) (by have := Z1.out; omega), below_setRow BA.out (by omega) _⟩
   exact setRow_other _ _ _ _ (by have := Z1.out; omega)
 · have hc := hid (show cleanF f = f by rw [cleanF, if_neg (by omega)])
   have o : FloatKind.f64.format.order f 0 = some .lt ∨ FloatKind.f64.format.order f 0 = some .gt ∨ FloatKind.f64.format.order f 0 = none := by
    by_cases hN : isN f = true
    · exact .inr (.inr (order_l f 0 hf hN))
    · have hN' : isN f = false := by simpa using hN
      have hm := (isN_not f).1 hN'
      by_cases hp : f < 9223372036854775808
      · exact .inr (.inl (order_gt f 0 hf (by omega) hN' isN_zero (by rw [kx_zero, kx, if_pos hp]; omega)))
      · exact .inl (order_lt f 0 hf (by omega) hN' isN_zero (by rw [kx_zero, kx, if_neg hp]; omega))
   rcases o with o | o | o
   all_goals
    have zz := Z2.out
    have T1 := hid ((alloc_old w2 (.cells #[.int .i64 K, .int .i64 N, .float .f64 f, .slice ad2 n cap2] 31) (w.heap.size + 1) (by omega)).trans S2.out)
    have BA := hid (B2.out.alloc (show w.heap.size ≤ w2.heap.size by omega) (.cells #[.int .i64 K, .int .i64 N, .float .f64 f, .slice ad2 n cap2] 31))
    have OA := hid (O2.out.alloc (.cells #[.int .i64 K, .int .i64 N, .float .f64 f, .slice ad2 n cap2] 31))
    have zz0 : w.heap.size < w2.heap.size := by omega
    have ne0 : ¬ w.heap.size = w2.heap.size := by omega
    clear S2 B2 O2 hz X2
    go_wp2_with (first
     | (refine wpList_store_row rfl 31 (.tmp 2) (.tmp 14) rfl (w.heap.size + 1) #[.int .i64 K, .int .i64 N, .float .f64 f, .slice ad2 n cap2] rfl rfl 31 _ T1.out ?s1 ?s2 ?s3 ?_))
    case s1 => exact size31
    case s2 => rfl
    case s3 => simp [Value.oneCell']
    refine bodyPost_ret (results_cell_row Try.results13 _ _ (w.heap.size + 1) 31 _ (0, 0) _ rfl (setRow_heap _ _ _ _ _ _ T1.out) Try.underlying31 rfl size31) rfl ⟨.slice ad2 n cap2, by rw [hc.out], owns_base (owns_at OA.out fun k hk => ?_) (by have := Z1.out; omega), below_setRow BA.out (by omega) _⟩
    exact setRow_other _ _ _ _ (by have := Z1.out; omega)
end Go.Proofs.Ytnbpblephmjfnaa
