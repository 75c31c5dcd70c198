/- The contracts of the program's SpanOk, isActive, lastsPast, isBetween, Concurrent. Conditions: texts of at most 2^21 bytes. -/
import Derived.Test.YtjcjoabblafboaaGreatMgb
import Derived.Test.YtjcjoabblafboaaGreatMgd
import Derived.Test.YtjcjoabblafboaaGreatMga
namespace Go.Proofs.YtjcjoabblafboaaGreat
open Go.RowKit
set_option maxRecDepth 100000
set_option maxHeartbeats 3200000 in
theorem impl_SpanOk (e f : Im) {a a' : Option Addr} (c c' : Nat) {w : World} (r : Reads w a e.Z.length e.Z) (r' : Reads w a' f.Z.length f.Z) (hf : e.F < 18446744073709551616) (hf' : f.F < 18446744073709551616) (hn : e.Z.length ≤ 2097152) (hn' : f.Z.length ≤ 2097152) :
 Calls Tryz.prog 93 #[spV e f (.slice a e.Z.length c) (.slice a' f.Z.length c')] w fun y w' => y = .returned (.bool (spB (e, f))) ∧ Below w.heap.size w w' := by
 obtain ⟨K, N, F, Z⟩ := e
 obtain ⟨K', N', F', Z'⟩ := f
 simp only at r r' hf hf' hn hn'
 obtain ⟨n, hZ⟩ : ∃ n, Z.length = n := ⟨_, rfl⟩
 obtain ⟨n', hZ'⟩ : ∃ n, Z'.length = n := ⟨_, rfl⟩
 have HSp := hid (show spB (⟨K, N, F, Z⟩, ⟨K', N', F', Z'⟩) = (okK K N F n && (okK K' N' F' n' && decide (cmpI K N F n Z K' N' F' n' Z' ≤ 0))) by unfold spB okM cmpM; simp only [hZ, hZ'])
 rw [HSp.out]
 simp only [hZ, hZ'] at r r' hn hn' ⊢
 clear hZ hZ' HSp
 have hst := fun w a m => run_store Tryz.prog w a (.float .f64 F) m rfl
 have hst' := fun w a m => run_store Tryz.prog w a (.float .f64 F') m rfl
 have hB := Below.alloc1 w (.cells #[.int .i64 K, .int .i64 N, .float .f64 F, .slice a n c, .int .i64 K', .int .i64 N', .float .f64 F', .slice a' n' c'] 74)
 have R := heap_alloc_new w (.cells #[.int .i64 K, .int .i64 N, .float .f64 F, .slice a n c, .int .i64 K', .int .i64 N', .float .f64 F', .slice a' n' c'] 74)
 have HZ := hid (alloc_size w (.cells #[.int .i64 K, .int .i64 N, .float .f64 F, .slice a n c, .int .i64 K', .int .i64 N', .float .f64 F', .slice a' n' c'] 74))
 have H1 := hid (r.below hB (Nat.le_refl _))
 have H2 := hid (r'.below hB (Nat.le_refl _))
 have HB := hid hB
 have HR := hid R
 clear hB R r r'
 have cells : ∀ W : World, W.heap[w.heap.size]? = some (.cells #[.int .i64 K, .int .i64 N, .float .f64 F, .slice a n c, .int .i64 K', .int .i64 N', .float .f64 F', .slice a' n' c'] 74) → (W.cell? ⟨w.heap.size, 0, none⟩ = some (.int .i64 K) ∧ W.cell? ⟨w.heap.size, 1, none⟩ = some (.int .i64 N) ∧ W.cell? ⟨w.heap.size, 2, none⟩ = some (.float .f64 F) ∧ W.cell? ⟨w.heap.size, 3, none⟩ = some (.slice a n c)) ∧ (W.cell? ⟨w.heap.size, 4, none⟩ = some (.int .i64 K') ∧ W.cell? ⟨w.heap.size, 5, none⟩ = some (.int .i64 N') ∧ W.cell? ⟨w.heap.size, 6, none⟩ = some (.float .f64 F') ∧ W.cell? ⟨w.heap.size, 7, none⟩ = some (.slice a' n' c')) := fun W h => by
  refine ⟨⟨?_, ?_, ?_, ?_⟩, ?_, ?_, ?_, ?_⟩ <;> (rw [cell_of_row _ _ _ _ _ _ h]; rfl)
 have HC := hid cells
 clear cells
 go_enter Tryz.func93, Tryz.ntmps93
 go_wp2_with fail
 refine (impl_KeyOk K N F a n c hf hn _).mono ?_
 rintro y w1 ⟨rfl, b⟩
 have t0 := (b.block w.heap.size (by have := HZ.out; omega)).trans HR.out
 replace HB := hid (HB.out.trans (b.mono HB.out.size))
 replace H1 := hid (H1.out.below b (Nat.le_refl _))
 replace H2 := hid (H2.out.below b (Nat.le_refl _))
 replace HR := hid t0
 have HS1 := hid (show w.heap.size < w1.heap.size by have := HZ.out; have := b.size; omega)
 cases hk : okK K N F n with
 | false =>
  have HK := hid hk
  clear hk t0 b
  go_wp2_with fail
  go_ret
  exact ⟨by rw [HK.out]; simp, HB.out⟩
 | true =>
  have HK := hid hk
  obtain ⟨-, d4, d5, d6, d7⟩ := HC.out _ t0
  clear hk t0 b
  go_wp2_with fail
  clear d4 d5 d6 d7
  refine (impl_KeyOk K' N' F' a' n' c' hf' hn' _).mono ?_
  rintro y w2 ⟨rfl, b⟩
  have t0 := (b.block w.heap.size HS1.out).trans HR.out
  replace HB := hid (HB.out.trans (b.mono HB.out.size))
  replace H1 := hid (H1.out.below b (Nat.le_refl _))
  replace H2 := hid (H2.out.below b (Nat.le_refl _))
  cases hk : okK K' N' F' n' with
  | false =>
   have HK2 := hid hk
   clear hk t0 b
   go_wp2_with fail
   go_ret
   exact ⟨by rw [HK.out, HK2.out]; simp, HB.out⟩
  | true =>
   have HK2 := hid hk
   obtain ⟨⟨d0, d1, d2, d3⟩, d4, d5, d6, d7⟩ := HC.out _ t0
   clear hk t0 b
   go_wp2_with fail
   clear d0 d1 d2 d3 d4 d5 d6 d7
   refine (impl_ItemCompare K N K' N' F F' c c' hf hf' H1.out H2.out hn hn').mono ?_
   rintro y w3 ⟨rfl, b⟩
   replace HB := hid (HB.out.trans (b.mono HB.out.size))
   clear b
   go_wp2_with fail
   go_ret
   exact ⟨by rw [HK.out, HK2.out]; simp, HB.out⟩
theorem impl_SpanOk_n (K N : Int) (f : Nat) {ad : Option Addr} {n : Nat} (cap : Nat) (K' N' : Int) (f' : Nat) {ad' : Option Addr} {n' : Nat} (cap' : Nat) {zs zs' : List Int} {w : World} (r : Reads w ad n zs) (r' : Reads w ad' n' zs') (hf : f < 18446744073709551616) (hf' : f' < 18446744073709551616) (hn : n ≤ 2097152) (hn' : n' ≤ 2097152) :
 Calls Tryz.prog 93 #[.agg #[.int .i64 K, .int .i64 N, .float .f64 f, .slice ad n cap, .int .i64 K', .int .i64 N', .float .f64 f', .slice ad' n' cap']] w fun y w' => y = .returned (.bool (spB (⟨K, N, f, zs⟩, ⟨K', N', f', zs'⟩))) ∧ Below w.heap.size w w' := by
 have e := r.len
 have e' := r'.len
 subst e e'
 exact impl_SpanOk ⟨K, N, f, zs⟩ ⟨K', N', f', zs'⟩ cap cap' r r' hf hf' hn hn'
end Go.Proofs.YtjcjoabblafboaaGreat
