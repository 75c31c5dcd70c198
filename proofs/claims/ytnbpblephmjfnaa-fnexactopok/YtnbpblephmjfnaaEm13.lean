/- Boxes of spans and tracks, and small facts for the walks of chapter 13's laws. No statement of its own; no conditions. -/
import Derived.Test.YtnbpblephmjfnaaEk13
import Derived.Test.YtnbpblephmjfnaaEh13
import Derived.Test.YtnbpblephmjfnaaEl13
namespace Go.Proofs.Ytnbpblephmjfnaa
open Go.RowKit
set_option maxRecDepth 100000
structure BoxS (w : World) (g : Nat) (K N : Int) (f : Nat) (x : Value) (K' N' : Int) (f' : Nat) (x' : Value) : Prop where
 c0 : w.cell? ⟨g, 0, none⟩ = some (.int .i64 K)
 c1 : w.cell? ⟨g, 1, none⟩ = some (.int .i64 N)
 c2 : w.cell? ⟨g, 2, none⟩ = some (.float .f64 f)
 c3 : w.cell? ⟨g, 3, none⟩ = some x
 c4 : w.cell? ⟨g, 4, none⟩ = some (.int .i64 K')
 c5 : w.cell? ⟨g, 5, none⟩ = some (.int .i64 N')
 c6 : w.cell? ⟨g, 6, none⟩ = some (.float .f64 f')
 c7 : w.cell? ⟨g, 7, none⟩ = some x'
theorem BoxS.row {w : World} {g : Nat} {K N : Int} {f : Nat} {x : Value} {K' N' : Int} {f' : Nat} {x' : Value} {t : TypeId} (h : w.heap[g]? = some (.cells #[.int .i64 K, .int .i64 N, .float .f64 f, x, .int .i64 K', .int .i64 N', .float .f64 f', x'] t)) : BoxS w g K N f x K' N' f' x' := by
 refine ⟨?_, ?_, ?_, ?_, ?_, ?_, ?_, ?_⟩ <;> (rw [cell_of_row _ _ _ _ _ _ h]; rfl)
theorem BoxS.below {w w' : World} {g : Nat} {K N : Int} {f : Nat} {x : Value} {K' N' : Int} {f' : Nat} {x' : Value} (q : BoxS w g K N f x K' N' f' x') {B : Nat} (hb : Below B w w') (hB : w.heap.size ≤ B) : BoxS w' g K N f x K' N' f' x' := by
 have hl := World.block_lt_of_cell? w _ q.c0
 simp only at hl
 have e := hb.block g (by omega)
 exact ⟨(World.cell?_of_block (w := w) (a := ⟨g, 0, none⟩) e).trans q.c0, (World.cell?_of_block (w := w) (a := ⟨g, 1, none⟩) e).trans q.c1, (World.cell?_of_block (w := w) (a := ⟨g, 2, none⟩) e).trans q.c2, (World.cell?_of_block (w := w) (a := ⟨g, 3, none⟩) e).trans q.c3, (World.cell?_of_block (w := w) (a := ⟨g, 4, none⟩) e).trans q.c4, (World.cell?_of_block (w := w) (a := ⟨g, 5, none⟩) e).trans q.c5, (World.cell?_of_block (w := w) (a := ⟨g, 6, none⟩) e).trans q.c6, (World.cell?_of_block (w := w) (a := ⟨g, 7, none⟩) e).trans q.c7⟩
structure BoxK (w : World) (g : Nat) (xi be en : Int) (al : Bool) (x y : Value) (inn ou : Bool) : Prop where
 c0 : w.cell? ⟨g, 0, none⟩ = some (.int .i64 xi)
 c1 : w.cell? ⟨g, 1, none⟩ = some (.int .i64 be)
 c2 : w.cell? ⟨g, 2, none⟩ = some (.int .i64 en)
 c3 : w.cell? ⟨g, 3, none⟩ = some (.bool al)
 c4 : w.cell? ⟨g, 4, none⟩ = some x
 c5 : w.cell? ⟨g, 5, none⟩ = some y
 c6 : w.cell? ⟨g, 6, none⟩ = some (.bool inn)
 c7 : w.cell? ⟨g, 7, none⟩ = some (.bool ou)
theorem BoxK.row {w : World} {g : Nat} {xi be en : Int} {al : Bool} {x y : Value} {inn ou : Bool} {t : TypeId} (h : w.heap[g]? = some (.cells #[.int .i64 xi, .int .i64 be, .int .i64 en, .bool al, x, y, .bool inn, .bool ou] t)) : BoxK w g xi be en al x y inn ou := by
 refine ⟨?_, ?_, ?_, ?_, ?_, ?_, ?_, ?_⟩ <;> (rw [cell_of_row _ _ _ _ _ _ h]; rfl)
theorem BoxK.below {w w' : World} {g : Nat} {xi be en : Int} {al : Bool} {x y : Value} {inn ou : Bool} (q : BoxK w g xi be en al x y inn ou) {B : Nat} (hb : Below B w w') (hB : w.heap.size ≤ B) : BoxK w' g xi be en al x y inn ou := by
 have hl := World.block_lt_of_cell? w _ q.c0
 simp only at hl
 have e := hb.block g (by omega)
 exact ⟨(World.cell?_of_block (w := w) (a := ⟨g, 0, none⟩) e).trans q.c0, (World.cell?_of_block (w := w) (a := ⟨g, 1, none⟩) e).trans q.c1, (World.cell?_of_block (w := w) (a := ⟨g, 2, none⟩) e).trans q.c2, (World.cell?_of_block (w := w) (a := ⟨g, 3, none⟩) e).trans q.c3, (World.cell?_of_block (w := w) (a := ⟨g, 4, none⟩) e).trans q.c4, (World.cell?_of_block (w := w) (a := ⟨g, 5, none⟩) e).trans q.c5, (World.cell?_of_block (w := w) (a := ⟨g, 6, none⟩) e).trans q.c6, (World.cell?_of_block (w := w) (a := ⟨g, 7, none⟩) e).trans q.c7⟩
structure BoxJ (w : World) (g : Nat) (K N : Int) (f : Nat) (x : Value) : Prop where
 c0 : w.cell? ⟨g, 0, none⟩ = some (.int .i64 K)
 c1 : w.cell? ⟨g, 1, none⟩ = some (.int .i64 N)
 c2 : w.cell? ⟨g, 2, none⟩ = some (.float .f64 f)
 c3 : w.cell? ⟨g, 3, none⟩ = some x
theorem BoxJ.row {w : World} {g : Nat} {K N : Int} {f : Nat} {x : Value} {t : TypeId} (h : w.heap[g]? = some (.cells #[.int .i64 K, .int .i64 N, .float .f64 f, x] t)) : BoxJ w g K N f x := by
 refine ⟨?_, ?_, ?_, ?_⟩ <;> (rw [cell_of_row _ _ _ _ _ _ h]; rfl)
theorem BoxJ.below {w w' : World} {g : Nat} {K N : Int} {f : Nat} {x : Value} (q : BoxJ w g K N f x) {B : Nat} (hb : Below B w w') (hB : w.heap.size ≤ B) : BoxJ w' g K N f x := by
 have hl := World.block_lt_of_cell? w _ q.c0
 simp only at hl
 have e := hb.block g (by omega)
 exact ⟨(World.cell?_of_block (w := w) (a := ⟨g, 0, none⟩) e).trans q.c0, (World.cell?_of_block (w := w) (a := ⟨g, 1, none⟩) e).trans q.c1, (World.cell?_of_block (w := w) (a := ⟨g, 2, none⟩) e).trans q.c2, (World.cell?_of_block (w := w) (a := ⟨g, 3, none⟩) e).trans q.c3⟩
end Go.Proofs.Ytnbpblephmjfnaa
