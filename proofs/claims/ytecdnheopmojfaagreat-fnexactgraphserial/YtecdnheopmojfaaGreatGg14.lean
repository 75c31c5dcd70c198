/- The edge between two deeds, plain, and the contract of the specification's l14edge. Conditions: texts of at most 2^21 bytes, at most 2^21 reads and writes. -/
import Derived.Test.YtecdnheopmojfaaGreatGd14
import Derived.Test.YtecdnheopmojfaaGreatEu13
namespace Go.Proofs.YtecdnheopmojfaaGreat
open Go.RowKit
set_option maxRecDepth 100000
structure BoxV (w : World) (g : Nat) (xi be en : Int) (x y : Value) : Prop where
 c0 : w.cell? ⟨g, 0, none⟩ = some (.int .i64 xi)
 c1 : w.cell? ⟨g, 1, none⟩ = some (.int .i64 be)
 c2 : w.cell? ⟨g, 2, none⟩ = some (.int .i64 en)
 c3 : w.cell? ⟨g, 3, none⟩ = some x
 c4 : w.cell? ⟨g, 4, none⟩ = some y
theorem BoxV.row {w : World} {g : Nat} {xi be en : Int} {x y : Value} {t : TypeId} (h : w.heap[g]? = some (.cells #[.int .i64 xi, .int .i64 be, .int .i64 en, x, y] t)) : BoxV w g xi be en x y := by
 refine ⟨?_, ?_, ?_, ?_, ?_⟩ <;> (rw [cell_of_row _ _ _ _ _ _ h]; rfl)
theorem BoxV.below {w w' : World} {g : Nat} {xi be en : Int} {x y : Value} (q : BoxV w g xi be en x y) {B : Nat} (hb : Below B w w') (hB : w.heap.size ≤ B) : BoxV w' g xi be en x y := by
 have e := hb.block g (Nat.lt_of_lt_of_le (World.block_lt_of_cell? w _ q.c0) hB)
 exact ⟨(World.cell?_of_block (w := w) (a := ⟨g, 0, none⟩) e).trans q.c0, (World.cell?_of_block (w := w) (a := ⟨g, 1, none⟩) e).trans q.c1, (World.cell?_of_block (w := w) (a := ⟨g, 2, none⟩) e).trans q.c2, (World.cell?_of_block (w := w) (a := ⟨g, 3, none⟩) e).trans q.c3, (World.cell?_of_block (w := w) (a := ⟨g, 4, none⟩) e).trans q.c4⟩
theorem spec_l14reads_n (t : Tk) (x : Im) {a1 : Option Addr} {n1 : Nat} (c1 : Nat) (y : Value) {ax : Option Addr} {m : Nat} (cx : Nat) {w : World} (hn1 : t.rs.length = n1) (hm : x.Z.length = m) (h : ReadsM w a1 (fl2 t.rs)) (hx : Reads w ax m x.Z) (hfx : x.F < 18446744073709551616) (hnx : m ≤ 2097152) (hs : ∀ i, ((fl2 t.rs).getD i im0).Z.length ≤ 2097152) (hn : n1 ≤ 2097152) :
 Calls Tryz.prog 48 #[ddV t (.slice a1 n1 c1) y, imV x (.slice ax m cx)] w fun e w' => e = .returned (.bool (rdsB t x)) ∧ Below w.heap.size w w' := by
 subst hn1 hm
 exact spec_l14reads t x c1 y cx h hx hfx hnx hs hn
end Go.Proofs.YtecdnheopmojfaaGreat
