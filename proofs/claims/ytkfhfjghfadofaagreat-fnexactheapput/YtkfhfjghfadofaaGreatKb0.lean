/- KeyBytes and ValueBytes of the program, by kinds. -/
import Derived.Test.YtkfhfjghfadofaaGreatGw
import Derived.Test.YtkfhfjghfadofaaGreatMt
import Derived.Test.YtkfhfjghfadofaaGreatMgb
import Derived.Deep.RegionHeld3
namespace Go.Proofs.YtkfhfjghfadofaaGreat
open Go.RowKit
theorem new2 (w : World) (a b : Value) (t : TypeId) : (w.alloc (.cells #[a, b] t)).cell? ⟨w.heap.size, 0, none⟩ = some a ∧ (w.alloc (.cells #[a, b] t)).cell? ⟨w.heap.size, 1, none⟩ = some b := by
 have h := heap_alloc_new w (.cells #[a, b] t)
 refine ⟨?_, ?_⟩ <;> (rw [cell_of_row _ _ _ _ _ _ h]; rfl)
theorem new2' (w : World) (o : Obj) (a b : Value) (t : TypeId) : ((w.alloc o).alloc (.cells #[a, b] t)).cell? ⟨w.heap.size + 1, 0, none⟩ = some a ∧ ((w.alloc o).alloc (.cells #[a, b] t)).cell? ⟨w.heap.size + 1, 1, none⟩ = some b := by
 have := new2 (w.alloc o) a b t
 rw [alloc_size] at this
 exact this
theorem new1 (w : World) (K : Int) (h0 : 0 ≤ K) (h1 : K ≤ 255) : Reads (w.alloc (.cells #[.int .u8 K] 5)) (some ⟨w.heap.size, 0, none⟩) 1 [K] := by
 refine ⟨rfl, .inr ⟨_, _, rfl, fun i hi => ?_⟩, fun i => ?_⟩
 · obtain rfl : i = 0 := by omega
   have h := heap_alloc_new w (.cells #[.int .u8 K] 5)
   rw [cell_of_row _ _ _ _ _ _ h]; rfl
 · match i with
   | 0 => exact ⟨h0, h1⟩
   | i + 1 => simp
theorem new1k (w : World) (K : Int) (h0 : 0 ≤ K) (h1 : K ≤ 255) : Reads (w.alloc (.cells #[.int .u8 (IntKind.u8.wrap K)] 5)) (some ⟨w.heap.size, 0, none⟩) 1 [K] := by
 rw [show IntKind.u8.wrap K = K by simp [IntKind.wrap, IntKind.bits, IntKind.signed]; omega]
 exact new1 w K h0 h1
theorem keep_cell {W w' : World} {p : Addr} {v : Value} (b : Below W.heap.size W w') (h : W.cell? p = some v) : w'.cell? p = some v := by
 rw [b.cell (World.block_lt_of_cell? W _ h)]; exact h
theorem bstep {w W w' : World} (h : Below w.heap.size w W) (b : Below W.heap.size W w') : Below w.heap.size w w' := h.trans (b.mono h.size)
end Go.Proofs.YtkfhfjghfadofaaGreat
