/- The contract of the specification's l3copy. Conditions: texts of at most 2^21 bytes. -/
import Derived.Test.YtphmlndkjgldkaaIt9
namespace Go.Proofs.Ytphmlndkjgldkaa
open Go.RowKit
theorem three_first (w : World) (a b c : Obj) : (((w.alloc a).alloc b).alloc c).heap[w.heap.size]? = some a := by
 have h1 := alloc_size w a
 have h2 := alloc_size (w.alloc a) b
 rw [alloc_old _ _ _ (by omega), alloc_old _ _ _ (by omega)]
 exact heap_alloc_new w a
set_option maxRecDepth 100000 in
set_option maxHeartbeats 3200000 in
theorem spec_l3copy (K N : Int) (f : Nat) {ad : Option Addr} {n : Nat} (cap : Nat) (hnil : ad = none → cap = 0) {zs : List Int} {w : World} (h : Reads w ad n zs) (hn : n ≤ 2097152) :
 Calls Try.prog 78 #[.agg #[.int .i64 K, .int .i64 N, .float .f64 f, .slice ad n cap]] w fun e w' => ∃ v, e = .returned (.agg #[.int .i64 K, .int .i64 N, .float .f64 f, v]) ∧ w'.ownsRow w.heap.size 5 1 v n (bys zs) ∧ Below w.heap.size w w' := by
 obtain ⟨i0, hi, hz0, hz1, hz2⟩ := info_parts Try.info5
 have hl := h.len
 have hbd := h.bd
 have hst := fun w a m => run_store Try.prog w a (.float .f64 f) m rfl
 obtain ⟨z, R1, R2, bW⟩ := three w (.cells #[.int .i64 K, .int .i64 N, .float .f64 f, .slice ad n cap] 32) (.cells #[.int .i64 0, .int .i64 0, .float .f64 0, .slice none 0 0] 32) (.cells #[] 5)
 have R0 := three_first w (.cells #[.int .i64 K, .int .i64 N, .float .f64 f, .slice ad n cap] 32) (.cells #[.int .i64 0, .int .i64 0, .float .f64 0, .slice none 0 0] 32) (.cells #[] 5)
 have z2 := alloc_size (w.alloc (.cells #[.int .i64 K, .int .i64 N, .float .f64 f, .slice ad n cap] 32)) (.cells #[.int .i64 0, .int .i64 0, .float .f64 0, .slice none 0 0] 32)
 have z1 := alloc_size w (.cells #[.int .i64 K, .int .i64 N, .float .f64 f, .slice ad n cap] 32)
 rw [z1] at z2
 have o5 := World.ownsRow_lit (base := w.heap.size + 1 + 1) (e := 5) (size := 1) ((w.alloc (.cells #[.int .i64 K, .int .i64 N, .float .f64 f, .slice ad n cap] 32)).alloc (.cells #[.int .i64 0, .int .i64 0, .float .f64 0, .slice none 0 0] 32)) #[] 0 (by omega) (Nat.zero_le _) rfl
 rw [z2] at o5
 have r2 := h.below bW (Nat.le_refl _)
 have O5 := hid o5
 have H0 := hid R0
 have H1 := hid R1
 have HB := hid bW
 have HZ := hid z
 have HR := hid r2
 clear o5 R0 R1 R2 bW z z2 r2 z1
 rcases hc : ad with _ | a
 · subst hc
   obtain rfl := hnil rfl
   obtain rfl : n = 0 := by
    rcases h.cells with h0 | ⟨b, off, e, _⟩
    · exact h0
    · cases e
   obtain rfl : zs = [] := List.eq_nil_of_length_eq_zero hl
   clear h
   go_enter Try.func78, Try.ntmps78
   go_wp2_with (at_builtin; refine wpList_append_own_none rfl _ _ 22 rfl (w.heap.size + 1 + 1) 5 i0 1 Try.underlying22 hi _ _ _ rfl O5.out rfl ?_)
   obtain ⟨_, Q1, _, bQ⟩ := three w (.cells #[.int .i64 K, .int .i64 N, .float .f64 f, .slice (some ⟨w.heap.size + 1 + 1, 0, none⟩) 0 0] 32) (.cells #[.int .i64 K, .int .i64 N, .float .f64 f, .slice (some ⟨w.heap.size + 1 + 1, 0, none⟩) 0 0] 32) (.cells #[] 5)
   have y1 := alloc_size w (.cells #[.int .i64 K, .int .i64 N, .float .f64 f, .slice (some ⟨w.heap.size + 1 + 1, 0, none⟩) 0 0] 32)
   have y2 := alloc_size (w.alloc (.cells #[.int .i64 K, .int .i64 N, .float .f64 f, .slice (some ⟨w.heap.size + 1 + 1, 0, none⟩) 0 0] 32)) (.cells #[.int .i64 K, .int .i64 N, .float .f64 f, .slice (some ⟨w.heap.size + 1 + 1, 0, none⟩) 0 0] 32)
   rw [y1] at y2
   have oQ := World.ownsRow_lit (base := w.heap.size) (e := 5) (size := 1) ((w.alloc (.cells #[.int .i64 K, .int .i64 N, .float .f64 f, .slice (some ⟨w.heap.size + 1 + 1, 0, none⟩) 0 0] 32)).alloc (.cells #[.int .i64 K, .int .i64 N, .float .f64 f, .slice (some ⟨w.heap.size + 1 + 1, 0, none⟩) 0 0] 32)) #[] 0 (by omega) (Nat.zero_le _) rfl
   rw [y2] at oQ
   exact bodyPost_ret (results_cell_row Try.results78 _ _ (w.heap.size + 1) 32 _ (0, 0) _ rfl Q1 Try.underlying32 rfl size32) rfl ⟨_, rfl, oQ, bQ⟩
 · subst hc
   clear h
   go_enter Try.func78, Try.ntmps78
   go_wp2_with (at_builtin; refine wpList_append_own _ rfl _ _ 22 rfl (w.heap.size + 1 + 1) 5 i0 (.int .u8 0) 1 1 Try.underlying22 hi hz0 hz1 hz2 rfl (by decide) _ _ _ rfl O5.out a n cap (bys zs) rfl ?k2 HR.out.news (bys_one _) ?k4 ?k5 ?k6 ?_)
   case k2 => simp [bys_length, hl]
   case k4 => unfold maxLen; omega
   case k5 => omega
   intro v7 w7 o7 g7 _
   have o8 : w7.ownsRow (w.heap.size + 1 + 1) 5 1 v7 n (bys zs) := by simpa using o7
   obtain ⟨ad7, cap7, rfl, r7, d7⟩ := Reads.own o8 hbd
   have zW := HZ.out
   have B7 : Below w.heap.size w w7 := HB.out.grown g7 (by omega) (fun k hk => by have := (O5.out.lt k hk).1; omega)
   have S0 : w7.heap[w.heap.size]? = _ := (g7.block _ (by omega) (fun e => by have := (O5.out.lt _ e.symm).1; omega)).trans H0.out
   have S1 : w7.heap[w.heap.size + 1]? = _ := (g7.block _ (by omega) (fun e => by have := (O5.out.lt _ e.symm).1; omega)).trans H1.out
   have c3 : w7.cell? ⟨w.heap.size, 3, none⟩ = some (.slice (some a) n cap) := by rw [cell_of_row _ _ _ _ _ _ S0]; rfl
   have fz : w7.frozen? ⟨w.heap.size, 3, none⟩ = false := frozen_of_row _ _ _ _ _ S0
   have T0 := hid (heap_setCell_same w7 w.heap.size 3 _ 32 (.slice ad7 n cap7) S0)
   have T1 := hid ((heap_setCell_other w7 ⟨w.heap.size, 3, none⟩ (w.heap.size + 1) (.slice ad7 n cap7) (by simp)).trans S1)
   have BC := hid (B7.setCell (p := ⟨w.heap.size, 3, none⟩) (by simp) (.slice ad7 n cap7))
   have O7 := hid o8
   clear S0 S1 g7 o7 o8 r7 d7 zW B7 O5 H0 H1 HB HZ HR
   go_wp2_with (first
    | (refine wpList_load_row rfl 32 (.tmp 1) rfl w.heap.size rfl 32 _ (0, 0) _ T0.out Try.underlying32 rfl size32 ?_)
    | (refine wpList_store_row rfl 32 (.tmp 2) (.tmp 8) rfl (w.heap.size + 1) #[.int .i64 K, .int .i64 N, .float .f64 f, .slice ad7 n cap7] rfl rfl 32 _ T1.out ?s1 ?s2 ?s3 ?_))
   case s1 => exact size32
   case s2 => rfl
   case s3 => simp [Value.oneCell']
   refine bodyPost_ret (results_cell_row Try.results78 _ _ (w.heap.size + 1) 32 #[.int .i64 K, .int .i64 N, .float .f64 f, .slice ad7 n cap7] (0, 0) _ rfl (setRow_heap _ _ _ _ _ _ T1.out) Try.underlying32 rfl size32) rfl ⟨.slice ad7 n cap7, rfl, owns_base (owns_at O7.out fun k hk => ?_) (by omega), below_setRow BC.out (by omega) _⟩
   rw [setRow_other _ _ _ _ (by omega), heap_setCell_other _ _ _ _ (by simp; omega)]
end Go.Proofs.Ytphmlndkjgldkaa
