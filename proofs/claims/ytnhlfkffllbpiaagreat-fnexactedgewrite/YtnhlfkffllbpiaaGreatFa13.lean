/- The contracts of the program's SpanOk, isActive, lastsPast, isBetween, Concurrent. Conditions: texts of at most 2^21 bytes. -/
import Derived.Test.YtnhlfkffllbpiaaGreatEj13
import Derived.Test.YtnhlfkffllbpiaaGreatEm13
import Derived.Test.YtnhlfkffllbpiaaGreatIm2
import Derived.Test.YtnhlfkffllbpiaaGreatIx
namespace Go.Proofs.YtnhlfkffllbpiaaGreat
open Go.RowKit
set_option maxRecDepth 100000
set_option maxHeartbeats 3200000 in
theorem impl_SpanOk (e f : Im) {a a' : Option Addr} (c c' : Nat) {w : World} (r : Reads w a e.Z.length e.Z) (r' : Reads w a' f.Z.length f.Z) (hf : e.F < 18446744073709551616) (hf' : f.F < 18446744073709551616) (hn : e.Z.length ≤ 2097152) (hn' : f.Z.length ≤ 2097152) :
 Calls Tryz.prog 103 #[spV e f (.slice a e.Z.length c) (.slice a' f.Z.length c')] w fun y w' => y = .returned (.bool (spB (e, f))) ∧ Below w.heap.size w w' := by
 obtain ⟨K, N, F, Z⟩ := e
 obtain ⟨K', N', F', Z'⟩ := f
 simp only at r r' hf hf' hn hn'
 obtain ⟨n, hZ⟩ : ∃ n, Z.length = n := ⟨_, rfl⟩
 obtain ⟨n', hZ'⟩ : ∃ n, Z'.length = n := ⟨_, rfl⟩
 have HSp := hid (show spB (⟨K, N, F, Z⟩, ⟨K', N', F', Z'⟩) = (okK K N F n && (okK K' N' F' n' && decide (cmpI K N F n Z K' N' F' n' Z' ≤ 0))) by unfold spB okM cmpM; simp only [hZ, hZ'])
 rw [HSp.out]
 simp only [hZ, hZ'] at r r' hn hn' ⊢
 clear hZ hZ' HSp
 have hst := fun w a m => run_store Tryz.prog w a (.float .f64 F) m rfl
 have hst' := fun w a m => run_store Tryz.prog w a (.float .f64 F') m rfl
 have hB := Below.alloc1 w (.cells #[.int .i64 K, .int .i64 N, .float .f64 F, .slice a n c, .int .i64 K', .int .i64 N', .float .f64 F', .slice a' n' c'] 78)
 have R := heap_alloc_new w (.cells #[.int .i64 K, .int .i64 N, .float .f64 F, .slice a n c, .int .i64 K', .int .i64 N', .float .f64 F', .slice a' n' c'] 78)
 have HZ := hid (alloc_size w (.cells #[.int .i64 K, .int .i64 N, .float .f64 F, .slice a n c, .int .i64 K', .int .i64 N', .float .f64 F', .slice a' n' c'] 78))
 have H1 := hid (r.below hB (Nat.le_refl _))
 have H2 := hid (r'.below hB (Nat.le_refl _))
 have HB := hid hB
 have HR := hid R
 clear hB R r r'
 have cells : ∀ W : World, W.heap[w.heap.size]? = some (.cells #[.int .i64 K, .int .i64 N, .float .f64 F, .slice a n c, .int .i64 K', .int .i64 N', .float .f64 F', .slice a' n' c'] 78) → (W.cell? ⟨w.heap.size, 0, none⟩ = some (.int .i64 K) ∧ W.cell? ⟨w.heap.size, 1, none⟩ = some (.int .i64 N) ∧ W.cell? ⟨w.heap.size, 2, none⟩ = some (.float .f64 F) ∧ W.cell? ⟨w.heap.size, 3, none⟩ = some (.slice a n c)) ∧ (W.cell? ⟨w.heap.size, 4, none⟩ = some (.int .i64 K') ∧ W.cell? ⟨w.heap.size, 5, none⟩ = some (.int .i64 N') ∧ W.cell? ⟨w.heap.size, 6, none⟩ = some (.float .f64 F') ∧ W.cell? ⟨w.heap.size, 7, none⟩ = some (.slice a' n' c')) := fun W h => by
  refine ⟨⟨?_, ?_, ?_, ?_⟩, ?_, ?_, ?_, ?_⟩ <;> (rw [cell_of_row _ _ _ _ _ _ h]; rfl)
 have HC := hid cells
 clear cells
 go_enter Tryz.func103, Tryz.ntmps103
 go_wp2_with fail
 refine (impl_KeyOk K N F a n c hf hn _).mono ?_
 rintro y w1 ⟨rfl, b⟩
 have t0 := (b.block w.heap.size (by have := HZ.out; omega)).trans HR.out
 replace HB := hid (HB.out.trans (b.mono HB.out.size))
 replace H1 := hid (H1.out.below b (Nat.le_refl _))
 replace H2 := hid (H2.out.below b (Nat.le_refl _))
 replace HR := hid t0
 have HS1 := hid (show w.heap.size < w1.heap.size by have := HZ.out; have := b.size; omega)
 cases hk : okK K N F n with
 | false =>
  have HK := hid hk
  clear hk t0 b
  go_wp2_with fail
  go_ret
  exact ⟨by rw [HK.out]; simp, HB.out⟩
 | true =>
  have HK := hid hk
  obtain ⟨-, d4, d5, d6, d7⟩ := HC.out _ t0
  clear hk t0 b
  go_wp2_with fail
  clear d4 d5 d6 d7
  refine (impl_KeyOk K' N' F' a' n' c' hf' hn' _).mono ?_
  rintro y w2 ⟨rfl, b⟩
  have t0 := (b.block w.heap.size HS1.out).trans HR.out
  replace HB := hid (HB.out.trans (b.mono HB.out.size))
  replace H1 := hid (H1.out.below b (Nat.le_refl _))
  replace H2 := hid (H2.out.below b (Nat.le_refl _))
  cases hk : okK K' N' F' n' with
  | false =>
   have HK2 := hid hk
   clear hk t0 b
   go_wp2_with fail
   go_ret
   exact ⟨by rw [HK.out, HK2.out]; simp, HB.out⟩
  | true =>
   have HK2 := hid hk
   obtain ⟨⟨d0, d1, d2, d3⟩, d4, d5, d6, d7⟩ := HC.out _ t0
   clear hk t0 b
   go_wp2_with fail
   clear d0 d1 d2 d3 d4 d5 d6 d7
   refine (impl_ItemCompare K N K' N' F F' c c' hf hf' H1.out H2.out hn hn').mono ?_
   rintro y w3 ⟨rfl, b⟩
   replace HB := hid (HB.out.trans (b.mono HB.out.size))
   clear b
   go_wp2_with fail
   go_ret
   exact ⟨by rw [HK.out, HK2.out]; simp, HB.out⟩
theorem impl_SpanOk_n (K N : Int) (f : Nat) {ad : Option Addr} {n : Nat} (cap : Nat) (K' N' : Int) (f' : Nat) {ad' : Option Addr} {n' : Nat} (cap' : Nat) {zs zs' : List Int} {w : World} (r : Reads w ad n zs) (r' : Reads w ad' n' zs') (hf : f < 18446744073709551616) (hf' : f' < 18446744073709551616) (hn : n ≤ 2097152) (hn' : n' ≤ 2097152) :
 Calls Tryz.prog 103 #[.agg #[.int .i64 K, .int .i64 N, .float .f64 f, .slice ad n cap, .int .i64 K', .int .i64 N', .float .f64 f', .slice ad' n' cap']] w fun y w' => y = .returned (.bool (spB (⟨K, N, f, zs⟩, ⟨K', N', f', zs'⟩))) ∧ Below w.heap.size w w' := by
 have e := r.len
 have e' := r'.len
 subst e e'
 exact impl_SpanOk ⟨K, N, f, zs⟩ ⟨K', N', f', zs'⟩ cap cap' r r' hf hf' hn hn'
set_option maxHeartbeats 1600000 in
theorem impl_isActive (t : Tk) (x y : Value) (w : World) :
 Calls Tryz.prog 57 #[tkV t x y] w fun e w' => e = .returned (.bool (decide (t.ended = 0))) ∧ Below w.heap.size w w' := by
 obtain ⟨xi, be, en, al, rs, ws, inn, ou⟩ := t
 have HB := hid (Below.alloc1 w (.cells #[.int .i64 xi, .int .i64 be, .int .i64 en, .bool al, x, y, .bool inn, .bool ou] 52))
 simp only
 by_cases h1 : en = 0
 · have q1 : (en == 0) = true := by simpa using h1
   have H1 := hid (decide_eq_true h1)
   clear h1
   go_enter Tryz.func57, Tryz.ntmps57
   go_wp2_with fail
   go_ret
   exact ⟨by rw [H1.out]; rfl, HB.out⟩
 · have q1 : (en == 0) = false := by simpa using h1
   have H1 := hid (decide_eq_false h1)
   clear h1
   go_enter Tryz.func57, Tryz.ntmps57
   go_wp2_with fail
   go_ret
   exact ⟨by rw [H1.out]; rfl, HB.out⟩
set_option maxHeartbeats 1600000 in
theorem impl_isBetween (t : Tk) (x y : Value) (w : World) :
 Calls Tryz.prog 72 #[tkV t x y] w fun e w' => e = .returned (.bool (t.inn && t.out)) ∧ Below w.heap.size w w' := by
 obtain ⟨xi, be, en, al, rs, ws, inn, ou⟩ := t
 have HB := hid (Below.alloc1 w (.cells #[.int .i64 xi, .int .i64 be, .int .i64 en, .bool al, x, y, .bool inn, .bool ou] 52))
 simp only
 cases inn with
 | true =>
  go_enter Tryz.func72, Tryz.ntmps72
  go_wp2_with fail
  go_ret
  exact ⟨by rw [Bool.true_and]; rfl, HB.out⟩
 | false =>
  go_enter Tryz.func72, Tryz.ntmps72
  go_wp2_with fail
  go_ret
  exact ⟨by rw [Bool.false_and]; rfl, HB.out⟩
def lastB (t : Tk) (b : Int) : Bool := decide (t.ended = 0) || decide (b < t.ended)
set_option maxHeartbeats 1600000 in
theorem impl_lastsPast (t : Tk) (x y : Value) (b : Int) (w : World) :
 Calls Tryz.prog 92 #[tkV t x y, .int .i64 b] w fun e w' => e = .returned (.bool (lastB t b)) ∧ Below w.heap.size w w' := by
 obtain ⟨xi, be, en, al, rs, ws, inn, ou⟩ := t
 have HB := hid (Below.alloc1 w (.cells #[.int .i64 xi, .int .i64 be, .int .i64 en, .bool al, x, y, .bool inn, .bool ou] 52))
 have R := hid (heap_alloc_new w (.cells #[.int .i64 xi, .int .i64 be, .int .i64 en, .bool al, x, y, .bool inn, .bool ou] 52))
 have HZ := hid (alloc_size w (.cells #[.int .i64 xi, .int .i64 be, .int .i64 en, .bool al, x, y, .bool inn, .bool ou] 52))
 obtain ⟨V, hV⟩ : ∃ V, lastB ⟨xi, be, en, al, rs, ws, inn, ou⟩ b = V := ⟨_, rfl⟩
 rw [hV]
 unfold lastB at hV
 simp only at hV
 go_enter Tryz.func92, Tryz.ntmps92
 go_wp2_with fail
 refine (impl_isActive ⟨xi, be, en, al, rs, ws, inn, ou⟩ x y _).mono ?_
 rintro e w1 ⟨rfl, b1⟩
 have t1 := (b1.block w.heap.size (by have := HZ.out; omega)).trans R.out
 have k2 : w1.cell? ⟨w.heap.size, 2, none⟩ = some (.int .i64 en) := by rw [cell_of_row _ _ _ _ _ _ t1]; rfl
 have HBW := hid (HB.out.trans (b1.mono HB.out.size))
 simp only
 clear t1 b1
 by_cases h1 : en = 0
 · rw [decide_eq_true h1]
   have HV := hid (show V = true by rw [← hV, decide_eq_true h1]; rfl)
   clear h1 hV
   go_wp2_with fail
   go_ret
   exact ⟨by rw [HV.out]; rfl, HBW.out⟩
 · rw [decide_eq_false h1]
   have HV := hid (show V = decide (b < en) by rw [← hV, decide_eq_false h1]; rfl)
   clear h1 hV
   go_wp2_with fail
   go_ret
   exact ⟨by rw [HV.out]; rfl, HBW.out⟩
set_option maxHeartbeats 1600000 in
theorem impl_Concurrent (t u : Tk) (x y x' y' : Value) (w : World) (_ : bdT1 t) (_ : bdT1 u) :
 Calls Tryz.prog 71 #[tkV t x y, tkV u x' y'] w fun e w' => e = .returned (.bool (concB t u)) ∧ Below w.heap.size w w' := by
 obtain ⟨xi, be, en, al, rs, ws, inn, ou⟩ := t
 obtain ⟨xi', be', en', al', rs', ws', inn', ou'⟩ := u
 obtain ⟨V, hV⟩ : ∃ V, concB ⟨xi, be, en, al, rs, ws, inn, ou⟩ ⟨xi', be', en', al', rs', ws', inn', ou'⟩ = V := ⟨_, rfl⟩
 rw [hV]
 have HV := hid (show V = (lastB ⟨xi, be, en, al, rs, ws, inn, ou⟩ be' && lastB ⟨xi', be', en', al', rs', ws', inn', ou'⟩ be) from hV.symm)
 clear hV
 have HB := hid (two w (.cells #[.int .i64 xi, .int .i64 be, .int .i64 en, .bool al, x, y, .bool inn, .bool ou] 52) (.cells #[.int .i64 xi', .int .i64 be', .int .i64 en', .bool al', x', y', .bool inn', .bool ou'] 52))
 obtain ⟨T1, T2, z⟩ := two_rows13 w (.cells #[.int .i64 xi, .int .i64 be, .int .i64 en, .bool al, x, y, .bool inn, .bool ou] 52) (.cells #[.int .i64 xi', .int .i64 be', .int .i64 en', .bool al', x', y', .bool inn', .bool ou'] 52)
 have HA0 := hid (BoxK.row T1)
 have HA1 := hid (BoxK.row T2)
 clear T1 T2 z
 go_enter Tryz.func71, Tryz.ntmps71
 go_wp2_with fail
 refine (impl_lastsPast ⟨xi, be, en, al, rs, ws, inn, ou⟩ x y be' _).mono ?_
 rintro e w1 ⟨rfl, b1⟩
 obtain ⟨y0, y1, y2, y3, y4, y5, y6, y7⟩ := HA1.out.below b1 (Nat.le_refl _)
 have z1 := (HA0.out.below b1 (Nat.le_refl _)).c1
 replace HB := hid (HB.out.trans (b1.mono HB.out.size))
 clear b1
 cases h1 : lastB ⟨xi, be, en, al, rs, ws, inn, ou⟩ be' with
 | false =>
  replace HV := hid (show V = false by rw [HV.out, h1, Bool.false_and])
  clear h1
  go_wp2_with fail
  go_ret
  exact ⟨by rw [HV.out]; rfl, HB.out⟩
 | true =>
  replace HV := hid (show V = lastB ⟨xi', be', en', al', rs', ws', inn', ou'⟩ be by rw [HV.out, h1, Bool.true_and])
  clear h1
  go_wp2_with fail
  clear y0 y1 y2 y3 y4 y5 y6 y7 z1
  refine (impl_lastsPast ⟨xi', be', en', al', rs', ws', inn', ou'⟩ x' y' be _).mono ?_
  rintro e w2 ⟨rfl, b2⟩
  replace HB := hid (HB.out.trans (b2.mono HB.out.size))
  clear b2
  go_wp2_with fail
  go_ret
  exact ⟨by rw [HV.out]; rfl, HB.out⟩
end Go.Proofs.YtnhlfkffllbpiaaGreat
