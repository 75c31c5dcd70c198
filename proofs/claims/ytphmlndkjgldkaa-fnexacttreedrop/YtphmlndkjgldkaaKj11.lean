/- Entries in order, both sides: what is one, which is less. Conditions: texts of at most 2^21 bytes. -/
import Derived.Test.YtphmlndkjgldkaaKc11
import Derived.Test.YtphmlndkjgldkaaIx
import Derived.Test.YtphmlndkjgldkaaIm2
namespace Go.Proofs.Ytphmlndkjgldkaa
open Go.RowKit
set_option maxRecDepth 100000
def entB (K N : Int) (f n : Nat) (id : Int) : Bool := okK K N f n && decide (0 ≤ id ∧ id ≤ 255)
def entOk (e : En) : Bool := entB e.K e.N e.F e.Z.length e.id
def cmpE (a b : En) : Int := cmpI a.K a.N a.F a.Z.length a.Z b.K b.N b.F b.Z.length b.Z
def ltB (c a b : Int) : Bool := decide (c < 0 ∨ (c = 0 ∧ a < b))
def ltE (a b : En) : Bool := ltB (cmpE a b) a.id b.id
theorem spec_in11 (n lo hi : Int) (w : World) : Calls Try.prog 105 #[.int .i64 n, .int .i64 lo, .int .i64 hi] w fun e w' => e = .returned (.bool (decide (lo ≤ n ∧ n ≤ hi))) ∧ w' = w := by
 by_cases h1 : lo ≤ n
 · by_cases h2 : n ≤ hi
   · rw [decide_eq_true ⟨h1, h2⟩]
     go_enter Try.func105, Try.ntmps105
     go_wp2
     go_ret
     exact ⟨rfl, rfl⟩
   · rw [decide_eq_false (fun q => h2 q.2)]
     go_enter Try.func105, Try.ntmps105
     go_wp2
     go_ret
     exact ⟨rfl, rfl⟩
 · rw [decide_eq_false (fun q => h1 q.1)]
   go_enter Try.func105, Try.ntmps105
   go_wp2
   go_ret
   exact ⟨rfl, rfl⟩
theorem impl_in11 (n lo hi : Int) (w : World) : Calls Try.prog 84 #[.int .i64 n, .int .i64 lo, .int .i64 hi] w fun e w' => e = .returned (.bool (decide (lo ≤ n ∧ n ≤ hi))) ∧ w' = w := by
 by_cases h1 : lo ≤ n
 · by_cases h2 : n ≤ hi
   · rw [decide_eq_true ⟨h1, h2⟩]
     go_enter Try.func84, Try.ntmps84
     go_wp2
     go_ret
     exact ⟨rfl, rfl⟩
   · rw [decide_eq_false (fun q => h2 q.2)]
     go_enter Try.func84, Try.ntmps84
     go_wp2
     go_ret
     exact ⟨rfl, rfl⟩
 · rw [decide_eq_false (fun q => h1 q.1)]
   go_enter Try.func84, Try.ntmps84
   go_wp2
   go_ret
   exact ⟨rfl, rfl⟩
set_option maxHeartbeats 1600000 in
theorem spec_entry (K N : Int) (f : Nat) (ad : Option Addr) (n cap : Nat) (id : Int) (hf : f < 18446744073709551616) (hn : n ≤ 2097152) (w : World) :
 Calls Try.prog 79 #[.agg #[.int .i64 K, .int .i64 N, .float .f64 f, .slice ad n cap, .int .i64 id]] w fun e w' => e = .returned (.bool (entB K N f n id)) ∧ Below w.heap.size w w' := by
 have hst := fun w a m => run_store Try.prog w a (.float .f64 f) m rfl
 have HB := hid (Below.alloc1 w (.cells #[.int .i64 K, .int .i64 N, .float .f64 f, .slice ad n cap, .int .i64 id] 35))
 have R0 := hid (heap_alloc_new w (.cells #[.int .i64 K, .int .i64 N, .float .f64 f, .slice ad n cap, .int .i64 id] 35))
 have Z0 := hid (alloc_size w (.cells #[.int .i64 K, .int .i64 N, .float .f64 f, .slice ad n cap, .int .i64 id] 35))
 go_enter Try.func79, Try.ntmps79
 go_wp2_with fail
 refine (spec_KeyOk K N f ad n cap hf hn _).mono ?_
 rintro e w1 ⟨rfl, b⟩
 have z := Z0.out
 have c4 : w1.cell? ⟨w.heap.size, 4, none⟩ = some (.int .i64 id) := by rw [cell_of_row _ _ _ _ _ _ ((b.block w.heap.size (by omega)).trans R0.out)]; rfl
 replace HB := hid (HB.out.trans (b.mono HB.out.size))
 have HE := hid (show entB K N f n id = (okK K N f n && decide (0 ≤ id ∧ id ≤ 255)) from rfl)
 clear b z
 cases hk : okK K N f n with
 | false =>
  rw [hk] at HE
  go_wp2_with fail
  go_ret
  exact ⟨by rw [HE.out]; rfl, HB.out⟩
 | true =>
  rw [hk] at HE
  go_wp2_with fail
  refine (spec_in11 id 0 255 w1).mono ?_
  rintro e w2 ⟨rfl, e1⟩
  subst w2
  obtain ⟨S, hS⟩ : ∃ S, decide (0 ≤ id ∧ id ≤ 255) = S := ⟨_, rfl⟩
  rw [hS] at HE
  rw [hS]
  clear c4 hS
  go_wp2_with fail
  go_ret
  exact ⟨by rw [HE.out]; simp, HB.out⟩
set_option maxHeartbeats 1600000 in
theorem impl_entry (K N : Int) (f : Nat) (ad : Option Addr) (n cap : Nat) (id : Int) (hf : f < 18446744073709551616) (hn : n ≤ 2097152) (w : World) :
 Calls Try.prog 53 #[.agg #[.int .i64 K, .int .i64 N, .float .f64 f, .slice ad n cap, .int .i64 id]] w fun e w' => e = .returned (.bool (entB K N f n id)) ∧ Below w.heap.size w w' := by
 have hst := fun w a m => run_store Try.prog w a (.float .f64 f) m rfl
 have HB := hid (Below.alloc1 w (.cells #[.int .i64 K, .int .i64 N, .float .f64 f, .slice ad n cap, .int .i64 id] 35))
 have R0 := hid (heap_alloc_new w (.cells #[.int .i64 K, .int .i64 N, .float .f64 f, .slice ad n cap, .int .i64 id] 35))
 have Z0 := hid (alloc_size w (.cells #[.int .i64 K, .int .i64 N, .float .f64 f, .slice ad n cap, .int .i64 id] 35))
 go_enter Try.func53, Try.ntmps53
 go_wp2_with fail
 refine (impl_KeyOk K N f ad n cap hf hn _).mono ?_
 rintro e w1 ⟨rfl, b⟩
 have z := Z0.out
 have c4 : w1.cell? ⟨w.heap.size, 4, none⟩ = some (.int .i64 id) := by rw [cell_of_row _ _ _ _ _ _ ((b.block w.heap.size (by omega)).trans R0.out)]; rfl
 replace HB := hid (HB.out.trans (b.mono HB.out.size))
 have HE := hid (show entB K N f n id = (okK K N f n && decide (0 ≤ id ∧ id ≤ 255)) from rfl)
 clear b z
 cases hk : okK K N f n with
 | false =>
  rw [hk] at HE
  go_wp2_with fail
  go_ret
  exact ⟨by rw [HE.out]; rfl, HB.out⟩
 | true =>
  rw [hk] at HE
  go_wp2_with fail
  refine (impl_in11 id 0 255 w1).mono ?_
  rintro e w2 ⟨rfl, e1⟩
  subst w2
  obtain ⟨S, hS⟩ : ∃ S, decide (0 ≤ id ∧ id ≤ 255) = S := ⟨_, rfl⟩
  rw [hS] at HE
  rw [hS]
  clear c4 hS
  go_wp2_with fail
  go_ret
  exact ⟨by rw [HE.out]; simp, HB.out⟩
set_option maxHeartbeats 1600000 in
theorem spec_less (K N : Int) (f : Nat) {ad : Option Addr} {n : Nat} (cap : Nat) (id : Int) (K' N' : Int) (f' : Nat) {ad' : Option Addr} {n' : Nat} (cap' : Nat) (id' : Int) {zs zs' : List Int} {w : World} (hf : f < 18446744073709551616) (hf' : f' < 18446744073709551616) (h : Reads w ad n zs) (h' : Reads w ad' n' zs') (hn : n ≤ 2097152) (hn' : n' ≤ 2097152) :
 Calls Try.prog 82 #[.agg #[.int .i64 K, .int .i64 N, .float .f64 f, .slice ad n cap, .int .i64 id], .agg #[.int .i64 K', .int .i64 N', .float .f64 f', .slice ad' n' cap', .int .i64 id']] w fun e w' => e = .returned (.bool (ltB (cmpI K N f n zs K' N' f' n' zs') id id')) ∧ Below w.heap.size w w' := by
 have hst := fun w a m => run_store Try.prog w a (.float .f64 f) m rfl
 have hst' := fun w a m => run_store Try.prog w a (.float .f64 f') m rfl
 have hB := two w (.cells #[.int .i64 K, .int .i64 N, .float .f64 f, .slice ad n cap, .int .i64 id] 35) (.cells #[.int .i64 K', .int .i64 N', .float .f64 f', .slice ad' n' cap', .int .i64 id'] 35)
 obtain ⟨R1, R2, z⟩ := two_rows11 w (.cells #[.int .i64 K, .int .i64 N, .float .f64 f, .slice ad n cap, .int .i64 id] 35) (.cells #[.int .i64 K', .int .i64 N', .float .f64 f', .slice ad' n' cap', .int .i64 id'] 35)
 have HB := hid hB
 have H1 := hid (h.below hB (Nat.le_refl _))
 have H2 := hid (h'.below hB (Nat.le_refl _))
 have HR1 := hid R1
 have HR2 := hid R2
 have HZ := hid z
 clear hB R1 R2 z h h'
 go_enter Try.func82, Try.ntmps82
 go_wp2_with fail
 refine (spec_ItemCompare K N K' N' f f' cap cap' hf hf' H1.out H2.out hn hn').mono ?_
 rintro e w1 ⟨rfl, b⟩
 have hz := HZ.out
 have c1 : w1.cell? ⟨w.heap.size, 4, none⟩ = some (.int .i64 id) := by rw [cell_of_row _ _ _ _ _ _ ((b.block w.heap.size (by omega)).trans HR1.out)]; rfl
 have c2 : w1.cell? ⟨w.heap.size + 1, 4, none⟩ = some (.int .i64 id') := by rw [cell_of_row _ _ _ _ _ _ ((b.block (w.heap.size + 1) (by omega)).trans HR2.out)]; rfl
 replace HB := hid (HB.out.trans (b.mono HB.out.size))
 obtain ⟨C, hC⟩ : ∃ C, cmpI K N f n zs K' N' f' n' zs' = C := ⟨_, rfl⟩
 rw [hC]
 have HC := hid hC
 clear b hz hC HR1 HR2 HZ
 by_cases h1 : C < 0
 · have HL := hid (show ltB C id id' = true from decide_eq_true (.inl h1))
   go_wp2_with fail
   go_ret
   exact ⟨by rw [HC.out, HL.out]; rfl, HB.out⟩
 · by_cases h2 : C = 0
   · by_cases h3 : id < id'
     · have HL := hid (show ltB C id id' = true from decide_eq_true (.inr ⟨h2, h3⟩))
       subst h2
       go_wp2_with fail
       go_ret
       exact ⟨by rw [HC.out, HL.out]; rfl, HB.out⟩
     · have HL := hid (show ltB C id id' = false from decide_eq_false (fun q => by omega))
       subst h2
       go_wp2_with fail
       go_ret
       exact ⟨by rw [HC.out, HL.out]; simp; omega, HB.out⟩
   · have HL := hid (show ltB C id id' = false from decide_eq_false (fun q => by omega))
     go_wp2_with fail
     go_ret
     exact ⟨by rw [HC.out, HL.out]; simp; omega, HB.out⟩
def cmpZ (x y : Int) : Int := if x < y then -1 else if y < x then 1 else 0
set_option maxHeartbeats 1600000 in
theorem impl_ordI (x y : Int) (w : World) : Calls Try.prog 116 #[.int .i64 x, .int .i64 y] w fun e w' => e = .returned (.int .i64 (cmpZ x y)) ∧ w' = w := by
 unfold cmpZ
 by_cases h1 : x < y
 · rw [if_pos h1]
   go_enter Try.func116, Try.ntmps116
   go_wp2
   go_ret
   exact ⟨rfl, rfl⟩
 · rw [if_neg h1]
   by_cases h2 : y < x
   · rw [if_pos h2]
     go_enter Try.func116, Try.ntmps116
     go_wp2
     go_ret
     exact ⟨rfl, rfl⟩
   · rw [if_neg h2]
     go_enter Try.func116, Try.ntmps116
     go_wp2
     go_ret
     exact ⟨rfl, rfl⟩
end Go.Proofs.Ytphmlndkjgldkaa
