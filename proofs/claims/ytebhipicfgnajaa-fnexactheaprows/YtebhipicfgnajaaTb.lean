/- A tuple in a block of its own, and what it leads to. No statement of its own; no conditions. -/
import Derived.Test.YtebhipicfgnajaaMgb
import Derived.Test.YtebhipicfgnajaaNr
namespace Go.Proofs.Ytebhipicfgnajaa
open Go.RowKit
set_option maxRecDepth 100000

structure BoxT (w : World) (g : Nat) (A B K N : Int) (f : Nat) (ad : Option Addr) (n cap : Nat) (L M : Int) (h : Nat) (ad' : Option Addr) (m cap' : Nat) : Prop where
  c0 : w.cell? ⟨g, 0, none⟩ = some (.int .i64 A)
  c1 : w.cell? ⟨g, 1, none⟩ = some (.int .i64 B)
  c2 : w.cell? ⟨g, 2, none⟩ = some (.int .i64 K)
  c3 : w.cell? ⟨g, 3, none⟩ = some (.int .i64 N)
  c4 : w.cell? ⟨g, 4, none⟩ = some (.float .f64 f)
  c5 : w.cell? ⟨g, 5, none⟩ = some (.slice ad n cap)
  c6 : w.cell? ⟨g, 6, none⟩ = some (.int .i64 L)
  c7 : w.cell? ⟨g, 7, none⟩ = some (.int .i64 M)
  c8 : w.cell? ⟨g, 8, none⟩ = some (.float .f64 h)
  c9 : w.cell? ⟨g, 9, none⟩ = some (.slice ad' m cap')

section
variable {w w' : World} {g : Nat} {A B K N : Int} {f : Nat} {ad : Option Addr} {n cap : Nat} {L M : Int} {h : Nat} {ad' : Option Addr} {m cap' : Nat}
theorem BoxT.row {t : TypeId} (h0 : w.heap[g]? = some (.cells #[.int .i64 A, .int .i64 B, .int .i64 K, .int .i64 N, .float .f64 f, .slice ad n cap, .int .i64 L, .int .i64 M, .float .f64 h, .slice ad' m cap'] t (0, 0))) : BoxT w g A B K N f ad n cap L M h ad' m cap' := by
  refine ⟨?_, ?_, ?_, ?_, ?_, ?_, ?_, ?_, ?_, ?_⟩ <;> (rw [cell_of_row _ _ _ _ _ _ h0]; rfl)
theorem BoxT.agree (b : BoxT w g A B K N f ad n cap L M h ad' m cap') (e : w'.heap[g]? = w.heap[g]?) : BoxT w' g A B K N f ad n cap L M h ad' m cap' :=
  ⟨(World.cell?_of_block (w := w) (a := ⟨g, 0, none⟩) e).trans b.c0, (World.cell?_of_block (w := w) (a := ⟨g, 1, none⟩) e).trans b.c1, (World.cell?_of_block (w := w) (a := ⟨g, 2, none⟩) e).trans b.c2, (World.cell?_of_block (w := w) (a := ⟨g, 3, none⟩) e).trans b.c3, (World.cell?_of_block (w := w) (a := ⟨g, 4, none⟩) e).trans b.c4, (World.cell?_of_block (w := w) (a := ⟨g, 5, none⟩) e).trans b.c5, (World.cell?_of_block (w := w) (a := ⟨g, 6, none⟩) e).trans b.c6, (World.cell?_of_block (w := w) (a := ⟨g, 7, none⟩) e).trans b.c7, (World.cell?_of_block (w := w) (a := ⟨g, 8, none⟩) e).trans b.c8, (World.cell?_of_block (w := w) (a := ⟨g, 9, none⟩) e).trans b.c9⟩
theorem BoxT.lt (b : BoxT w g A B K N f ad n cap L M h ad' m cap') : g < w.heap.size := World.block_lt_of_cell? w _ b.c0
theorem BoxT.below (b : BoxT w g A B K N f ad n cap L M h ad' m cap') {B0 : Nat} (e : Below B0 w w') (hB : w.heap.size ≤ B0) : BoxT w' g A B K N f ad n cap L M h ad' m cap' := b.agree (e.block g (Nat.lt_of_lt_of_le b.lt hB))
theorem BoxT.other (b : BoxT w g A B K N f ad n cap L M h ad' m cap') {row : Option Nat} (hg : w.grownBy w' row) (hne : some g ≠ row) : BoxT w' g A B K N f ad n cap L M h ad' m cap' := b.agree (hg.block g b.lt hne)
end
theorem BoxT.new (w : World) (A B K N : Int) (f : Nat) (ad : Option Addr) (n cap : Nat) (L M : Int) (h : Nat) (ad' : Option Addr) (m cap' : Nat) (t : TypeId) : BoxT (w.alloc (.cells #[.int .i64 A, .int .i64 B, .int .i64 K, .int .i64 N, .float .f64 f, .slice ad n cap, .int .i64 L, .int .i64 M, .float .f64 h, .slice ad' m cap'] t)) w.heap.size A B K N f ad n cap L M h ad' m cap' := BoxT.row (heap_alloc_new w _)

structure ArgT (w : World) (g : Nat) (A B K N : Int) (f : Nat) (ad : Option Addr) (n cap : Nat) (L M : Int) (h : Nat) (ad' : Option Addr) (m cap' : Nat) (zs ys : List Int) : Prop where
  box : BoxT w g A B K N f ad n cap L M h ad' m cap'
  rk : Reads w ad n zs
  rv : Reads w ad' m ys
section
variable {w w' : World} {g : Nat} {A B K N : Int} {f : Nat} {ad : Option Addr} {n cap : Nat} {L M : Int} {h : Nat} {ad' : Option Addr} {m cap' : Nat} {zs ys zs' ys' : List Int}
theorem ArgT.below (a : ArgT w g A B K N f ad n cap L M h ad' m cap' zs ys) {B0 : Nat} (e : Below B0 w w') (hB : w.heap.size ≤ B0) : ArgT w' g A B K N f ad n cap L M h ad' m cap' zs ys := ⟨a.box.below e hB, a.rk.below e hB, a.rv.below e hB⟩
theorem ArgT.lt (a : ArgT w g A B K N f ad n cap L M h ad' m cap' zs ys) : g < w.heap.size := a.box.lt
theorem ArgT.alloc (a : ArgT w g A B K N f ad n cap L M h ad' m cap' zs ys) (o : Obj) : ArgT (w.alloc o) g A B K N f ad n cap L M h ad' m cap' zs ys := a.below (Below.alloc1 w o) (Nat.le_refl _)
theorem ArgT.drewN (a : ArgT w g A B K N f ad n cap L M h ad' m cap' zs ys) (k : Nat) : ArgT (w.drewN k) g A B K N f ad n cap L M h ad' m cap' zs ys := a.below ((Still.drewN w k).below w.heap.size) (Nat.le_refl _)
theorem ArgT.drew (a : ArgT w g A B K N f ad n cap L M h ad' m cap' zs ys) : ArgT w.drew g A B K N f ad n cap L M h ad' m cap' zs ys := a.below ((Still.drew w).below w.heap.size) (Nat.le_refl _)
theorem ArgT.other (a : ArgT w g A B K N f ad n cap L M h ad' m cap' zs ys) {row : Option Nat} (hg : w.grownBy w' row) (hne : some g ≠ row) (hk : Reads w' ad n zs') (hv : Reads w' ad' m ys') : ArgT w' g A B K N f ad n cap L M h ad' m cap' zs' ys' := ⟨a.box.other hg hne, hk, hv⟩
end
theorem ArgT.new {w : World} (A B K N : Int) (f : Nat) (ad : Option Addr) (n cap : Nat) (L M : Int) (h : Nat) (ad' : Option Addr) (m cap' : Nat) {zs ys : List Int} (hk : Reads w ad n zs) (hv : Reads w ad' m ys) (t : TypeId) (g : Nat) (hg : g = w.heap.size) : ArgT (w.alloc (.cells #[.int .i64 A, .int .i64 B, .int .i64 K, .int .i64 N, .float .f64 f, .slice ad n cap, .int .i64 L, .int .i64 M, .float .f64 h, .slice ad' m cap'] t)) g A B K N f ad n cap L M h ad' m cap' zs ys := by
  subst hg
  exact ⟨BoxT.new w A B K N f ad n cap L M h ad' m cap' t, hk.alloc _, hv.alloc _⟩
end Go.Proofs.Ytebhipicfgnajaa
