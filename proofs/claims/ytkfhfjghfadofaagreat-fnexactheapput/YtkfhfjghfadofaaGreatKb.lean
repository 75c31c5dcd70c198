/- KeyBytes and ValueBytes of the program, as the specification's. -/
import Derived.Test.YtkfhfjghfadofaaGreatKb1i
import Derived.Test.YtkfhfjghfadofaaGreatKb1f
import Derived.Test.YtkfhfjghfadofaaGreatKb1t
import Derived.Test.YtkfhfjghfadofaaGreatKb2i
import Derived.Test.YtkfhfjghfadofaaGreatKb2f
import Derived.Test.YtkfhfjghfadofaaGreatKb2t
namespace Go.Proofs.YtkfhfjghfadofaaGreat
open Go.RowKit
set_option maxRecDepth 100000 in
set_option maxHeartbeats 1600000 in
theorem impl_KeyBytes_no (K N : Int) (f : Nat) (ad : Option Addr) (n cap : Nat) (hf : f < 18446744073709551616) (hn : n ≤ 2097152) (hok : okK K N f n = false) (w : World) :
 Calls Tryz.prog 147 #[.agg #[.int .i64 K, .int .i64 N, .float .f64 f, .slice ad n cap]] w fun e w' => e = .returned (.slice none 0 0) ∧ Below w.heap.size w w' := by
 have hI := impl_KeyOk K N f ad n cap hf hn
 rw [hok] at hI
 have HB := hid (Below.alloc1 w (.cells #[.int .i64 K, .int .i64 N, .float .f64 f, .slice ad n cap] 29))
 go_enter Tryz.func147, Tryz.ntmps147
 go_wp2_with fail
 refine (hI _).mono ?_
 rintro e w1 ⟨rfl, b⟩
 replace HB := hid (HB.out.trans (b.mono HB.out.size))
 clear b hI
 go_wp2_with fail
 go_ret
 exact ⟨rfl, HB.out⟩
set_option maxRecDepth 100000 in
set_option maxHeartbeats 1600000 in
theorem impl_ValueBytes_no (K N : Int) (f : Nat) (ad : Option Addr) (n cap : Nat) (hf : f < 18446744073709551616) (hn : n ≤ 2097152) (hok : ¬ (okI K N f n = true ∧ K ≠ 0)) (w : World) :
 Calls Tryz.prog 148 #[.agg #[.int .i64 K, .int .i64 N, .float .f64 f, .slice ad n cap]] w fun e w' => e = .returned (.slice none 0 0) ∧ Below w.heap.size w w' := by
 have hI := impl_ItemOk K N f ad n cap hf hn
 have HB := hid (Below.alloc1 w (.cells #[.int .i64 K, .int .i64 N, .float .f64 f, .slice ad n cap] 29))
 have HX := hid (Box.new w K N f ad n cap 29)
 by_cases h1 : okI K N f n = true
 · rw [h1] at hI
   obtain rfl : K = 0 := by
    by_cases hK : K = 0
    · exact hK
    · exact absurd ⟨h1, hK⟩ hok
   clear hok h1
   go_enter Tryz.func148, Tryz.ntmps148
   go_wp2_with fail
   refine (hI _).mono ?_
   rintro e w1 ⟨rfl, b⟩
   replace HB := hid (HB.out.trans (b.mono HB.out.size))
   obtain ⟨c0, c1, c2, c3⟩ := HX.out.below b (by simp)
   clear b hI
   go_wp2_with fail
   go_ret
   exact ⟨rfl, HB.out⟩
 · have h1' : okI K N f n = false := by simpa using h1
   rw [h1'] at hI
   clear hok h1 h1'
   go_enter Tryz.func148, Tryz.ntmps148
   go_wp2_with fail
   refine (hI _).mono ?_
   rintro e w1 ⟨rfl, b⟩
   replace HB := hid (HB.out.trans (b.mono HB.out.size))
   clear b hI
   go_wp2_with fail
   go_ret
   exact ⟨rfl, HB.out⟩
theorem impl_KeyBytes (K N : Int) (f : Nat) {ad : Option Addr} {n : Nat} (cap : Nat) (hnil : ad = none → cap = 0) {zs : List Int} {w : World} (h : Reads w ad n zs) (hn : n ≤ 2097152) (hN0 : -9223372036854775808 ≤ N) (hN1 : N ≤ 9223372036854775807) (hf : f < 18446744073709551616) :
 Calls Tryz.prog 147 #[.agg #[.int .i64 K, .int .i64 N, .float .f64 f, .slice ad n cap]] w fun e w' => ∃ v, e = .returned v ∧ w'.ownsRow w.heap.size 5 1 v (keyB K N f n zs).length (bys (keyB K N f n zs)) ∧ Below w.heap.size w w' := by
 by_cases hok : okK K N f n = true
 · obtain ⟨ho, hK, hz⟩ := okK_I hok
   have hi := of_decide_eq_true ho
   have hl := h.len
   rw [show keyB K N f n zs = bytesI K N (frank f) zs by rw [keyB, if_pos hok]]
   have hc : K = 1 ∨ K = 2 ∨ K = 3 := by omega
   rcases hc with rfl | rfl | rfl
   · obtain rfl : f = 0 := by omega
     obtain rfl : n = 0 := by omega
     refine (impl_KeyBytes_int N ad cap hN0 hN1 w).mono ?_
     rintro e w' ⟨v, rfl, o, b⟩
     have e : bytesI 1 N (frank 0) zs = [1] ++ hi8 (N + 9223372036854775808).toNat 8 := by rw [bytesI, if_pos rfl]
     rw [e]
     exact ⟨_, rfl, by rw [List.length_append, hi8_length]; exact o, b⟩
   · obtain rfl : N = 0 := by omega
     obtain rfl : n = 0 := by omega
     refine (impl_KeyBytes_float f hf hz ad cap w).mono ?_
     rintro e w' ⟨v, rfl, o, b⟩
     have e : bytesI 2 0 (frank f) zs = [2] ++ hi8 (frank f) 8 := by rw [bytesI, if_neg (by decide), if_pos rfl]
     rw [e]
     exact ⟨_, rfl, by rw [List.length_append, hi8_length]; exact o, b⟩
   · obtain rfl : N = 0 := by omega
     obtain rfl : f = 0 := by omega
     refine (impl_KeyBytes_text cap hnil h (by omega)).mono ?_
     rintro e w' ⟨v, rfl, o, b⟩
     have e : bytesI 3 0 (frank 0) zs = [3] ++ zs := by rw [bytesI, if_neg (by decide), if_neg (by decide)]
     rw [e]
     exact ⟨_, rfl, by rw [List.length_append, hl]; exact o, b⟩
 · have hok' : okK K N f n = false := by simpa using hok
   rw [show keyB K N f n zs = [] by rw [keyB, if_neg hok]]
   refine (impl_KeyBytes_no K N f ad n cap hf hn hok' w).mono ?_
   rintro e w' ⟨rfl, b⟩
   exact ⟨_, rfl, World.ownsRow_nil _ _ _ _, b⟩
theorem impl_ValueBytes (K N : Int) (f : Nat) {ad : Option Addr} {n : Nat} (cap : Nat) (hnil : ad = none → cap = 0) {zs : List Int} {w : World} (h : Reads w ad n zs) (hn : n ≤ 2097152) (hN0 : -9223372036854775808 ≤ N) (hN1 : N ≤ 9223372036854775807) (hf : f < 18446744073709551616) :
 Calls Tryz.prog 148 #[.agg #[.int .i64 K, .int .i64 N, .float .f64 f, .slice ad n cap]] w fun e w' => ∃ v, e = .returned v ∧ w'.ownsRow w.heap.size 5 1 v (valB K N f n zs).length (bys (valB K N f n zs)) ∧ Below w.heap.size w w' := by
 by_cases hok : okI K N f n = true ∧ K ≠ 0
 · have hi := of_decide_eq_true hok.1
   have hl := h.len
   rw [show valB K N f n zs = bytesI K N (fbits f) zs by rw [valB, if_pos hok]]
   have hc : K = 1 ∨ K = 2 ∨ K = 3 := by have := hok.2; omega
   rcases hc with rfl | rfl | rfl
   · obtain rfl : f = 0 := by omega
     obtain rfl : n = 0 := by omega
     refine (impl_ValueBytes_int N ad cap hN0 hN1 w).mono ?_
     rintro e w' ⟨v, rfl, o, b⟩
     have e : bytesI 1 N (fbits 0) zs = [1] ++ hi8 (N + 9223372036854775808).toNat 8 := by rw [bytesI, if_pos rfl]
     rw [e]
     exact ⟨_, rfl, by rw [List.length_append, hi8_length]; exact o, b⟩
   · obtain rfl : N = 0 := by omega
     obtain rfl : n = 0 := by omega
     refine (impl_ValueBytes_float f hf ad cap w).mono ?_
     rintro e w' ⟨v, rfl, o, b⟩
     have e : bytesI 2 0 (fbits f) zs = [2] ++ hi8 (fbits f) 8 := by rw [bytesI, if_neg (by decide), if_pos rfl]
     rw [e]
     exact ⟨_, rfl, by rw [List.length_append, hi8_length]; exact o, b⟩
   · obtain rfl : N = 0 := by omega
     obtain rfl : f = 0 := by omega
     refine (impl_ValueBytes_text cap hnil h (by omega)).mono ?_
     rintro e w' ⟨v, rfl, o, b⟩
     have e : bytesI 3 0 (fbits 0) zs = [3] ++ zs := by rw [bytesI, if_neg (by decide), if_neg (by decide)]
     rw [e]
     exact ⟨_, rfl, by rw [List.length_append, hl]; exact o, b⟩
 · rw [show valB K N f n zs = [] by rw [valB, if_neg hok]]
   refine (impl_ValueBytes_no K N f ad n cap hf hn hok w).mono ?_
   rintro e w' ⟨rfl, b⟩
   exact ⟨_, rfl, World.ownsRow_nil _ _ _ _, b⟩
end Go.Proofs.YtkfhfjghfadofaaGreat
