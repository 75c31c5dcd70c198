/- ItemClean, the specification's and the program's, as one contract. -/
import Derived.Test.YtnbpblephmjfnaaIx2
namespace Go.Proofs.Ytnbpblephmjfnaa
open Go.RowKit
def cleanR (K N : Int) (f n : Nat) (zs : List Int) : Int × Int × Nat × List Int := if okI K N f n = true then (K, N, cleanF f, zs) else (0, 0, 0, [])
theorem cleanF_lt (f : Nat) (hf : f < 18446744073709551616) : cleanF f < 18446744073709551616 := by
 unfold cleanF
 split <;> omega
theorem spec_Clean (K N : Int) (f : Nat) {ad : Option Addr} {n : Nat} (cap : Nat) (hnil : ad = none → cap = 0) {zs : List Int} {w : World} (h : Reads w ad n zs) (hf : f < 18446744073709551616) (hn : n ≤ 2097152) {RK RN : Int} {RF : Nat} {RZ : List Int} (hR : cleanR K N f n zs = (RK, RN, RF, RZ)) :
 Calls Try.prog 13 #[.agg #[.int .i64 K, .int .i64 N, .float .f64 f, .slice ad n cap]] w fun e w' => ∃ (f' : Nat) (v : Value), e = .returned (.agg #[.int .i64 RK, .int .i64 RN, .float .f64 f', v]) ∧ f' < 18446744073709551616 ∧ Hid (Same RF f') ∧ w'.ownsRow w.heap.size 5 1 v RZ.length (bys RZ) ∧ Below w.heap.size w w' := by
 by_cases hok : okI K N f n = true
 · rw [cleanR, if_pos hok] at hR
   obtain ⟨rfl, h2⟩ := Prod.mk.inj hR
   obtain ⟨rfl, h3⟩ := Prod.mk.inj h2
   obtain ⟨rfl, rfl⟩ := Prod.mk.inj h3
   refine (spec_ItemClean_yes K N f cap hnil h hf hn hok).mono ?_
   rintro e w' ⟨v, rfl, o, b⟩
   exact ⟨_, _, rfl, cleanF_lt f hf, hid (Same.refl _), by rw [h.len]; exact o, b⟩
 · rw [cleanR, if_neg hok] at hR
   obtain ⟨rfl, h2⟩ := Prod.mk.inj hR
   obtain ⟨rfl, h3⟩ := Prod.mk.inj h2
   obtain ⟨rfl, rfl⟩ := Prod.mk.inj h3
   refine (spec_ItemClean_no K N f ad n cap hf hn (by simpa using hok) w).mono ?_
   rintro e w' ⟨rfl, b⟩
   exact ⟨_, _, rfl, by omega, hid (Same.refl _), World.ownsRow_nil _ _ _ _, b⟩
set_option maxRecDepth 100000 in
set_option maxHeartbeats 3200000 in
theorem impl_ItemClean_no (K N : Int) (f : Nat) (ad : Option Addr) (n cap : Nat) (hf : f < 18446744073709551616) (hn : n ≤ 2097152) (hok : okI K N f n = false) (w : World) :
 Calls Try.prog 30 #[.agg #[.int .i64 K, .int .i64 N, .float .f64 f, .slice ad n cap]] w fun e w' => e = .returned (.agg #[.int .i64 0, .int .i64 0, .float .f64 0, .slice none 0 0]) ∧ Below w.heap.size w w' := by
 have hI := impl_ItemOk K N f ad n cap hf hn
 rw [hok] at hI
 have hB := two w (.cells #[.int .i64 K, .int .i64 N, .float .f64 f, .slice ad n cap] 31) (.cells #[.int .i64 0, .int .i64 0, .float .f64 0, .slice none 0 0] 31)
 have z1 := alloc_size w (.cells #[.int .i64 K, .int .i64 N, .float .f64 f, .slice ad n cap] 31)
 have z2 := alloc_size (w.alloc (.cells #[.int .i64 K, .int .i64 N, .float .f64 f, .slice ad n cap] 31)) (.cells #[.int .i64 0, .int .i64 0, .float .f64 0, .slice none 0 0] 31)
 have R1 := heap_alloc_new (w.alloc (.cells #[.int .i64 K, .int .i64 N, .float .f64 f, .slice ad n cap] 31)) (.cells #[.int .i64 0, .int .i64 0, .float .f64 0, .slice none 0 0] 31)
 rw [z1] at z2 R1
 have H1 := hid R1
 have HZ := hid z2
 have HB := hid hB
 clear R1 z2 z1 hB
 go_enter Try.func30, Try.ntmps30
 go_wp2_with fail
 refine (hI _).mono ?_
 rintro e w1 ⟨rfl, b1⟩
 have hz := HZ.out
 have S1 := (b1.block (w.heap.size + 1) (by omega)).trans H1.out
 have B1 := HB.out.trans (b1.mono HB.out.size)
 have T1 := hid S1
 clear S1 b1 hz HZ HB H1
 go_wp2_with (first
  | (refine wpList_store_row rfl 31 (.tmp 2) (.tmp 6) rfl (w.heap.size + 1) #[.int .i64 0, .int .i64 0, .float .f64 0, .slice none 0 0] rfl rfl 31 _ T1.out ?s1 ?s2 ?s3 ?_))
 case s1 => exact size31
 case s2 => rfl
 case s3 => simp [Value.oneCell']
 exact bodyPost_ret (results_cell_row Try.results30 _ _ (w.heap.size + 1) 31 _ (0, 0) _ rfl (setRow_heap _ _ _ _ _ _ T1.out) Try.underlying31 rfl size31) rfl ⟨rfl, below_setRow B1 (by omega) _⟩
theorem impl_Clean (K N : Int) (f : Nat) {ad : Option Addr} {n : Nat} (cap : Nat) {zs : List Int} {w : World} (h : Reads w ad n zs) (hf : f < 18446744073709551616) (hn : n ≤ 2097152) {RK RN : Int} {RF : Nat} {RZ : List Int} (hR : cleanR K N f n zs = (RK, RN, RF, RZ)) :
 Calls Try.prog 30 #[.agg #[.int .i64 K, .int .i64 N, .float .f64 f, .slice ad n cap]] w fun e w' => ∃ (f' : Nat) (v : Value), e = .returned (.agg #[.int .i64 RK, .int .i64 RN, .float .f64 f', v]) ∧ f' < 18446744073709551616 ∧ Hid (Same RF f') ∧ w'.ownsRow w.heap.size 5 1 v RZ.length (bys RZ) ∧ Below w.heap.size w w' := by
 by_cases hok : okI K N f n = true
 · rw [cleanR, if_pos hok] at hR
   obtain ⟨rfl, h2⟩ := Prod.mk.inj hR
   obtain ⟨rfl, h3⟩ := Prod.mk.inj h2
   obtain ⟨rfl, rfl⟩ := Prod.mk.inj h3
   have ho := of_decide_eq_true hok
   have hl := h.len
   have hK : K = 0 ∨ K = 1 ∨ K = 2 ∨ K = 3 := by omega
   rcases hK with rfl | rfl | rfl | rfl
   · obtain rfl : N = 0 := by omega
     obtain rfl : f = 0 := by omega
     obtain rfl : n = 0 := by omega
     obtain rfl : zs = [] := List.eq_nil_of_length_eq_zero hl
     refine (impl_ItemClean_none ad cap w).mono ?_
     rintro e w' ⟨rfl, b⟩
     exact ⟨_, _, rfl, by omega, hid (Same.refl _), World.ownsRow_nil _ _ _ _, b⟩
   · obtain rfl : f = 0 := by omega
     obtain rfl : n = 0 := by omega
     obtain rfl : zs = [] := List.eq_nil_of_length_eq_zero hl
     refine (impl_ItemClean_int N ad cap w).mono ?_
     rintro e w' ⟨rfl, b⟩
     exact ⟨_, _, rfl, by omega, hid (Same.refl _), World.ownsRow_nil _ _ _ _, b⟩
   · obtain rfl : N = 0 := by omega
     obtain rfl : n = 0 := by omega
     obtain rfl : zs = [] := List.eq_nil_of_length_eq_zero hl
     refine (impl_ItemClean_float f hf ad cap w).mono ?_
     rintro e w' ⟨rfl, b⟩
     exact ⟨_, _, rfl, cleanF_lt f hf, hid (Same.refl _), World.ownsRow_nil _ _ _ _, b⟩
   · obtain rfl : N = 0 := by omega
     obtain rfl : f = 0 := by omega
     refine (impl_ItemClean_text cap h (by omega)).mono ?_
     rintro e w' ⟨v, rfl, o, b⟩
     exact ⟨_, _, rfl, by omega, hid (Same.refl _), by rw [hl]; exact o, b⟩
 · rw [cleanR, if_neg hok] at hR
   obtain ⟨rfl, h2⟩ := Prod.mk.inj hR
   obtain ⟨rfl, h3⟩ := Prod.mk.inj h2
   obtain ⟨rfl, rfl⟩ := Prod.mk.inj h3
   refine (impl_ItemClean_no K N f ad n cap hf hn (by simpa using hok) w).mono ?_
   rintro e w' ⟨rfl, b⟩
   exact ⟨_, _, rfl, by omega, hid (Same.refl _), World.ownsRow_nil _ _ _ _, b⟩
end Go.Proofs.Ytnbpblephmjfnaa
