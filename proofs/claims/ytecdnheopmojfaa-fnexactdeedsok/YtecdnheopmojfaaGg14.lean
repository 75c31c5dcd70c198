/- The edge between two deeds, plain, and the contract of the specification's l14edge. Conditions: texts of at most 2^21 bytes, at most 2^21 reads and writes. -/
import Derived.Test.YtecdnheopmojfaaGd14
import Derived.Test.YtecdnheopmojfaaEu13
namespace Go.Proofs.Ytecdnheopmojfaa
open Go.RowKit
set_option maxRecDepth 100000
structure BoxV (w : World) (g : Nat) (xi be en : Int) (x y : Value) : Prop where
 c0 : w.cell? ⟨g, 0, none⟩ = some (.int .i64 xi)
 c1 : w.cell? ⟨g, 1, none⟩ = some (.int .i64 be)
 c2 : w.cell? ⟨g, 2, none⟩ = some (.int .i64 en)
 c3 : w.cell? ⟨g, 3, none⟩ = some x
 c4 : w.cell? ⟨g, 4, none⟩ = some y
theorem BoxV.row {w : World} {g : Nat} {xi be en : Int} {x y : Value} {t : TypeId} (h : w.heap[g]? = some (.cells #[.int .i64 xi, .int .i64 be, .int .i64 en, x, y] t)) : BoxV w g xi be en x y := by
 refine ⟨?_, ?_, ?_, ?_, ?_⟩ <;> (rw [cell_of_row _ _ _ _ _ _ h]; rfl)
theorem BoxV.below {w w' : World} {g : Nat} {xi be en : Int} {x y : Value} (q : BoxV w g xi be en x y) {B : Nat} (hb : Below B w w') (hB : w.heap.size ≤ B) : BoxV w' g xi be en x y := by
 have e := hb.block g (Nat.lt_of_lt_of_le (World.block_lt_of_cell? w _ q.c0) hB)
 exact ⟨(World.cell?_of_block (w := w) (a := ⟨g, 0, none⟩) e).trans q.c0, (World.cell?_of_block (w := w) (a := ⟨g, 1, none⟩) e).trans q.c1, (World.cell?_of_block (w := w) (a := ⟨g, 2, none⟩) e).trans q.c2, (World.cell?_of_block (w := w) (a := ⟨g, 3, none⟩) e).trans q.c3, (World.cell?_of_block (w := w) (a := ⟨g, 4, none⟩) e).trans q.c4⟩
end Go.Proofs.Ytecdnheopmojfaa
