/- The contracts of the laws' toEntry, toEntryS, szEntry, szEntryS, eqEntry, eqEntryS. Conditions: entries of at most 2^21 bytes together. -/
import Derived.Test.YtphmlndkjgldkaaKa11
import Derived.Test.YtphmlndkjgldkaaIc
import Derived.Laws.CopyOwn
import Derived.Test.YtphmlndkjgldkaaPt
import Derived.Test.YtphmlndkjgldkaaMga
import Derived.Laws.Tables
import Derived.Deep.RegionHeld3
import Derived.Deep.MidRow
namespace Go.Proofs.Ytphmlndkjgldkaa
open Go.RowKit
set_option maxRecDepth 100000
theorem row_grown11 (u : World) (q : Nat) (R : Array Value) : u.grownBy (u.setRow q R) (some q) := ⟨rfl, rfl, rfl, by simp, fun i _ hne => setRow_other _ _ _ _ (fun e => hne (by rw [e]))⟩
theorem grown_set11 (w : World) (b o : Nat) (v : Value) : w.grownBy (w.setCell ⟨b, o, none⟩ v) (some b) := ⟨rfl, rfl, rfl, by rw [set_size]; exact Nat.le_refl _, fun k _ hk => heap_set_ne w b o k v (fun e => hk (by rw [e]))⟩
theorem two_rows11 (w : World) (a b : Obj) : ((w.alloc a).alloc b).heap[w.heap.size]? = some a ∧ ((w.alloc a).alloc b).heap[w.heap.size + 1]? = some b ∧ ((w.alloc a).alloc b).heap.size = w.heap.size + 2 := by
 have z1 := alloc_size w a
 have z2 := alloc_size (w.alloc a) b
 refine ⟨?_, ?_, by omega⟩
 · rw [heap_alloc_old _ _ (by omega)]; exact heap_alloc_new w a
 · have := heap_alloc_new (w.alloc a) b
   rwa [z1] at this
def lft11 (left : Int) (n : Nat) : Int := if left < n then -1 else left - n
theorem Try.infoEn : (Try.prog.info? 35).map (fun i => (i.zero, i.size, i.bytes)) = some (some (.agg #[.int .i64 0, .int .i64 0, .float .f64 0, .slice none 0 0, .int .i64 0]), 5, 56) := by kernel_rfl
theorem size_en : (Try.prog.info? 35).map (·.size) = some 5 := by kernel_rfl
theorem size_it11 : (Try.prog.info? 32).map (·.size) = some 4 := by kernel_rfl
set_option maxHeartbeats 3200000 in
theorem toEntry (K N : Int) (f : Nat) {ad : Option Addr} {n : Nat} (cap : Nat) (id : Int) {zs : List Int} {w : World} (rk : Reads w ad n zs) (hn : n ≤ 2097152) :
 Calls Try.prog 133 #[.agg #[.int .i64 K, .int .i64 N, .float .f64 f, .slice ad n cap, .int .i64 id]] w fun e w' => ∃ g1, e = .returned (.agg #[.int .i64 K, .int .i64 N, .float .f64 f, .slice (some ⟨g1, 0, none⟩) n n, .int .i64 id]) ∧ w'.ownsRow w.heap.size 5 1 (.slice (some ⟨g1, 0, none⟩) n n) n (bys zs) ∧ Below w.heap.size w w' := by
 have hst := fun w a m => run_store Try.prog w a (.float .f64 f) m rfl
 obtain ⟨z3, r1, r2, b3⟩ := three w (.cells #[.int .i64 K, .int .i64 N, .float .f64 f, .slice ad n cap, .int .i64 id] 161) (.cells #[.int .i64 0, .int .i64 0, .float .f64 0, .slice none 0 0, .int .i64 0] 35) (.cells #[.int .i64 0, .int .i64 0, .float .f64 0, .slice none 0 0, .int .i64 0] 35)
 have r0 := three_first w (.cells #[.int .i64 K, .int .i64 N, .float .f64 f, .slice ad n cap, .int .i64 id] 161) (.cells #[.int .i64 0, .int .i64 0, .float .f64 0, .slice none 0 0, .int .i64 0] 35) (.cells #[.int .i64 0, .int .i64 0, .float .f64 0, .slice none 0 0, .int .i64 0] 35)
 have H0 := hid r0
 have H1 := hid r1
 have H2 := hid r2
 have HZ := hid z3
 have HB := hid b3
 have RK := hid (rk.below b3 (Nat.le_refl _))
 clear r0 r1 r2 z3 b3 rk
 go_enter Try.func133, Try.ntmps133
 go_wp2_with fail
 refine (toItem K N f cap RK.out hn).mono ?_
 rintro e w1 ⟨g1, rfl, ow, b⟩
 have z := HZ.out
 have bs := b.size
 have t0 := (b.block w.heap.size (by omega)).trans H0.out
 have t1 := (b.block (w.heap.size + 1) (by omega)).trans H1.out
 have t2 := (b.block (w.heap.size + 1 + 1) (by omega)).trans H2.out
 have og := ow.lt g1 rfl
 have bb := HB.out.trans (b.mono HB.out.size)
 have T2 := hid t2
 have u2 := setRow_heap w1 (w.heap.size + 1 + 1) _ #[.int .i64 K, .int .i64 N, .float .f64 f, .slice (some ⟨g1, 0, none⟩) n n, .int .i64 0] _ _ t2
 have u2b := heap_setCell_same _ (w.heap.size + 1 + 1) 4 _ 35 (.int .i64 id) u2
 have u1 := (heap_setCell_other (w1.setRow (w.heap.size + 1 + 1) #[.int .i64 K, .int .i64 N, .float .f64 f, .slice (some ⟨g1, 0, none⟩) n n, .int .i64 0]) ⟨(w.heap.size + 1 + 1), 4, none⟩ (w.heap.size + 1) (.int .i64 id) (by simp)).trans ((setRow_other w1 (w.heap.size + 1 + 1) (w.heap.size + 1) #[.int .i64 K, .int .i64 N, .float .f64 f, .slice (some ⟨g1, 0, none⟩) n n, .int .i64 0] (by omega)).trans t1)
 have u0 := (setRow_other w1 (w.heap.size + 1 + 1) w.heap.size #[.int .i64 K, .int .i64 N, .float .f64 f, .slice (some ⟨g1, 0, none⟩) n n, .int .i64 0] (by omega)).trans t0
 have gA := row_grown11 w1 (w.heap.size + 1 + 1) #[.int .i64 K, .int .i64 N, .float .f64 f, .slice (some ⟨g1, 0, none⟩) n n, .int .i64 0]
 have gB := grown_set11 (w1.setRow (w.heap.size + 1 + 1) #[.int .i64 K, .int .i64 N, .float .f64 f, .slice (some ⟨g1, 0, none⟩) n n, .int .i64 0]) (w.heap.size + 1 + 1) 4 (.int .i64 id)
 have gC := row_grown11 ((w1.setRow (w.heap.size + 1 + 1) #[.int .i64 K, .int .i64 N, .float .f64 f, .slice (some ⟨g1, 0, none⟩) n n, .int .i64 0]).setCell ⟨(w.heap.size + 1 + 1), 4, none⟩ (.int .i64 id)) (w.heap.size + 1) #[.int .i64 K, .int .i64 N, .float .f64 f, .slice (some ⟨g1, 0, none⟩) n n, .int .i64 id]
 have O3 := hid (owns_base (base' := w.heap.size) (((ow.kept gA (.inr (by simp [Value.ownBlock]; omega))).kept gB (.inr (by simp [Value.ownBlock]; omega))).kept gC (.inr (by simp [Value.ownBlock]; omega))) (by omega))
 have B3 := hid (below_setRow ((below_setRow bb (show w.heap.size ≤ (w.heap.size + 1 + 1) by omega) #[.int .i64 K, .int .i64 N, .float .f64 f, .slice (some ⟨g1, 0, none⟩) n n, .int .i64 0]).setCell (p := ⟨(w.heap.size + 1 + 1), 4, none⟩) (by simp; omega) (.int .i64 id)) (show w.heap.size ≤ (w.heap.size + 1) by omega) #[.int .i64 K, .int .i64 N, .float .f64 f, .slice (some ⟨g1, 0, none⟩) n n, .int .i64 id])
 have c4 : (w1.setRow (w.heap.size + 1 + 1) #[.int .i64 K, .int .i64 N, .float .f64 f, .slice (some ⟨g1, 0, none⟩) n n, .int .i64 0]).cell? ⟨w.heap.size, 4, none⟩ = some (.int .i64 id) := by rw [cell_of_row _ _ _ _ _ _ u0]; rfl
 have d4 : (w1.setRow (w.heap.size + 1 + 1) #[.int .i64 K, .int .i64 N, .float .f64 f, .slice (some ⟨g1, 0, none⟩) n n, .int .i64 0]).cell? ⟨(w.heap.size + 1 + 1), 4, none⟩ = some (.int .i64 0) := by rw [cell_of_row _ _ _ _ _ _ u2]; rfl
 have d5 : (w1.setRow (w.heap.size + 1 + 1) #[.int .i64 K, .int .i64 N, .float .f64 f, .slice (some ⟨g1, 0, none⟩) n n, .int .i64 0]).frozen? ⟨(w.heap.size + 1 + 1), 4, none⟩ = false := frozen_of_row _ _ _ _ _ u2
 have U2 := hid u2b
 have U1 := hid u1
 clear z bs t0 t1 t2 og bb ow b H0 H1 H2 HZ HB RK u2 u2b u1 u0 gA gB gC
 go_wp2_with (first
  | (refine wpList_store_part rfl 32 (.tmp 7) (.tmp 6) rfl (w.heap.size + 1 + 1) 0 #[.int .i64 K, .int .i64 N, .float .f64 f, .slice (some ⟨g1, 0, none⟩) n n] rfl rfl 35 _ T2.out ?s1 ?s2 ?s3 #[.int .i64 K, .int .i64 N, .float .f64 f, .slice (some ⟨g1, 0, none⟩) n n, .int .i64 0] rfl ?_)
  | (refine wpList_load_row rfl 35 (.tmp 3) rfl (w.heap.size + 1 + 1) rfl 35 _ (0, 0) _ U2.out Try.underlying35 rfl size_en ?_)
  | (refine wpList_store_row rfl 35 (.tmp 2) (.tmp 11) rfl (w.heap.size + 1) #[.int .i64 K, .int .i64 N, .float .f64 f, .slice (some ⟨g1, 0, none⟩) n n, .int .i64 id] rfl rfl 35 _ U1.out ?s7 ?s8 ?s9 ?_))
 case s1 => exact size_it11
 case s2 => simp
 case s3 => simp [Value.oneCell']
 case s7 => exact size_en
 case s8 => rfl
 case s9 => simp [Value.oneCell']
 exact bodyPost_ret (results_cell_row Try.results133 _ _ (w.heap.size + 1) 35 _ (0, 0) _ rfl (setRow_heap _ _ _ _ _ _ U1.out) Try.underlying35 rfl size_en) rfl ⟨g1, rfl, O3.out, B3.out⟩
set_option maxHeartbeats 1600000 in
theorem szEntry (K N : Int) (f : Nat) (ad : Option Addr) (n cap : Nat) (id : Int) (left : Int) (hn : n ≤ 9223372036854775807) (h0 : 0 ≤ left) (h1 : left ≤ 1048576) (w : World) :
 Calls Try.prog 132 #[.agg #[.int .i64 K, .int .i64 N, .float .f64 f, .slice ad n cap, .int .i64 id], .int .i64 left] w fun e w' => e = .returned (.int .i64 (lft11 left n)) ∧ Below w.heap.size w w' := by
 have hst := fun w a m => run_store Try.prog w a (.float .f64 f) m rfl
 have HB := hid (Below.alloc1 w (.cells #[.int .i64 K, .int .i64 N, .float .f64 f, .slice ad n cap, .int .i64 id] 161))
 obtain ⟨M, hM⟩ : ∃ M : Int, lft11 left n = M := ⟨_, rfl⟩
 have hM0 : M < 0 → M = -1 := by unfold lft11 at hM; split at hM <;> omega
 have HM := hid hM
 have HM0 := hid hM0
 clear hM hM0
 go_enter Try.func132, Try.ntmps132
 go_wp2_with fail
 refine (szItem K N f ad n cap left hn h0 h1 _).mono ?_
 rintro e w1 ⟨rfl, b⟩
 rw [show (if left < (n : Int) then (-1 : Int) else left - n) = M from HM.out]
 replace HB := hid (HB.out.trans (b.mono HB.out.size))
 clear b
 by_cases hq : M < 0
 · go_wp2_with fail
   go_ret
   exact ⟨by rw [HM.out, HM0.out hq]; rfl, HB.out⟩
 · go_wp2_with fail
   go_ret
   exact ⟨by rw [HM.out]; rfl, HB.out⟩
set_option maxHeartbeats 3200000 in
theorem eqEntry (K N : Int) (f : Nat) {ad bd : Option Addr} {n : Nat} (cap cp : Nat) (id : Int) {zs : List Int} {w : World} (hf : f < 18446744073709551616) (rk : Reads w ad n zs) (rk' : Reads w bd n zs) (hn : n ≤ 2097152) :
 Calls Try.prog 71 #[.agg #[.int .i64 K, .int .i64 N, .float .f64 f, .slice ad n cap, .int .i64 id], .agg #[.int .i64 K, .int .i64 N, .float .f64 f, .slice bd n cp, .int .i64 id]] w fun e w' => e = .returned (.bool true) ∧ Below w.heap.size w w' := by
 have hst := fun w a m => run_store Try.prog w a (.float .f64 f) m rfl
 have hB := two w (.cells #[.int .i64 K, .int .i64 N, .float .f64 f, .slice ad n cap, .int .i64 id] 35) (.cells #[.int .i64 K, .int .i64 N, .float .f64 f, .slice bd n cp, .int .i64 id] 35)
 have H1 := hid (rk.below hB (Nat.le_refl _))
 have H2 := hid (rk'.below hB (Nat.le_refl _))
 have HB := hid hB
 have q1 : (id != id) = false := by simp
 obtain ⟨R1, R2, z⟩ := two_rows11 w (.cells #[.int .i64 K, .int .i64 N, .float .f64 f, .slice ad n cap, .int .i64 id] 35) (.cells #[.int .i64 K, .int .i64 N, .float .f64 f, .slice bd n cp, .int .i64 id] 35)
 have HR1 := hid R1
 have HR2 := hid R2
 have HZ := hid z
 clear hB rk rk' R1 R2 z
 go_enter Try.func71, Try.ntmps71
 go_wp2_with fail
 refine (eqItem K N f f cap cp hf hf (hid (Same.refl f)) H1.out H2.out hn).mono ?_
 rintro e w2 ⟨rfl, b⟩
 have hz := HZ.out
 have t1 := (b.block w.heap.size (by omega)).trans HR1.out
 have t2 := (b.block (w.heap.size + 1) (by omega)).trans HR2.out
 have c1 : w2.cell? ⟨w.heap.size, 4, none⟩ = some (.int .i64 id) := by rw [cell_of_row _ _ _ _ _ _ t1]; rfl
 have c2 : w2.cell? ⟨w.heap.size + 1, 4, none⟩ = some (.int .i64 id) := by rw [cell_of_row _ _ _ _ _ _ t2]; rfl
 replace HB := hid (HB.out.trans (b.mono HB.out.size))
 clear b t1 t2 hz HZ HR1 HR2
 go_wp2_with fail
 go_ret
 exact ⟨rfl, HB.out⟩
end Go.Proofs.Ytphmlndkjgldkaa
