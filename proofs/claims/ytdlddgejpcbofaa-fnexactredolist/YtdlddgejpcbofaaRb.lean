/- A record in a block of its own, and what it leads to. No statement of its own; no conditions. -/
import Derived.Test.YtdlddgejpcbofaaBase
import Derived.Test.YtdlddgejpcbofaaAl
namespace Go.Proofs.Ytdlddgejpcbofaa
open Go.RowKit

structure BoxR (w : World) (g : Nat) (K L X P S : Int) (ad : Option Addr) (n c : Nat) : Prop where
  c0 : w.cell? ⟨g, 0, none⟩ = some (.int .i64 K)
  c1 : w.cell? ⟨g, 1, none⟩ = some (.int .i64 L)
  c2 : w.cell? ⟨g, 2, none⟩ = some (.int .i64 X)
  c3 : w.cell? ⟨g, 3, none⟩ = some (.int .i64 P)
  c4 : w.cell? ⟨g, 4, none⟩ = some (.int .i64 S)
  c5 : w.cell? ⟨g, 5, none⟩ = some (.slice ad n c)
theorem BoxR.new (w : World) (K L X P S : Int) (ad : Option Addr) (n c : Nat) (t : TypeId) : BoxR (w.alloc (.cells #[.int .i64 K, .int .i64 L, .int .i64 X, .int .i64 P, .int .i64 S, .slice ad n c] t)) w.heap.size K L X P S ad n c := by
  have h := heap_alloc_new w (.cells #[.int .i64 K, .int .i64 L, .int .i64 X, .int .i64 P, .int .i64 S, .slice ad n c] t)
  refine ⟨?_, ?_, ?_, ?_, ?_, ?_⟩ <;> (rw [cell_of_row _ _ _ _ _ _ h]; rfl)
theorem BoxR.row {w : World} {g : Nat} {K L X P S : Int} {ad : Option Addr} {n c : Nat} {t : TypeId} (h : w.heap[g]? = some (.cells #[.int .i64 K, .int .i64 L, .int .i64 X, .int .i64 P, .int .i64 S, .slice ad n c] t (0, 0))) : BoxR w g K L X P S ad n c := by
  refine ⟨?_, ?_, ?_, ?_, ?_, ?_⟩ <;> (rw [cell_of_row _ _ _ _ _ _ h]; rfl)
theorem BoxR.agree {w w' : World} {g : Nat} {K L X P S : Int} {ad : Option Addr} {n c : Nat} (b : BoxR w g K L X P S ad n c) (h : w'.heap[g]? = w.heap[g]?) : BoxR w' g K L X P S ad n c :=
  ⟨(World.cell?_of_block (w := w) (a := ⟨g, 0, none⟩) h).trans b.c0, (World.cell?_of_block (w := w) (a := ⟨g, 1, none⟩) h).trans b.c1, (World.cell?_of_block (w := w) (a := ⟨g, 2, none⟩) h).trans b.c2, (World.cell?_of_block (w := w) (a := ⟨g, 3, none⟩) h).trans b.c3, (World.cell?_of_block (w := w) (a := ⟨g, 4, none⟩) h).trans b.c4, (World.cell?_of_block (w := w) (a := ⟨g, 5, none⟩) h).trans b.c5⟩
theorem BoxR.lt {w : World} {g : Nat} {K L X P S : Int} {ad : Option Addr} {n c : Nat} (b : BoxR w g K L X P S ad n c) : g < w.heap.size := World.block_lt_of_cell? w _ b.c0
theorem BoxR.below {w w' : World} {g : Nat} {K L X P S : Int} {ad : Option Addr} {n c : Nat} (b : BoxR w g K L X P S ad n c) {B : Nat} (h : Below B w w') (hB : w.heap.size ≤ B) : BoxR w' g K L X P S ad n c := b.agree (h.block g (Nat.lt_of_lt_of_le b.lt hB))
theorem BoxR.drewN {w : World} {g : Nat} {K L X P S : Int} {ad : Option Addr} {n c : Nat} (b : BoxR w g K L X P S ad n c) (k : Nat) : BoxR (w.drewN k) g K L X P S ad n c := b.agree rfl
theorem BoxR.drew {w : World} {g : Nat} {K L X P S : Int} {ad : Option Addr} {n c : Nat} (b : BoxR w g K L X P S ad n c) : BoxR w.drew g K L X P S ad n c := b.agree rfl
theorem BoxR.other {w w' : World} {g : Nat} {K L X P S : Int} {ad : Option Addr} {n c : Nat} (b : BoxR w g K L X P S ad n c) {row : Option Nat} (hg : w.grownBy w' row) (hne : some g ≠ row) : BoxR w' g K L X P S ad n c := b.agree (hg.block g b.lt hne)
/-- A record that came in: its box, and what its bytes read as. -/
structure ArgR (w : World) (g : Nat) (K L X P S : Int) (ad : Option Addr) (n c : Nat) (zs : List Int) : Prop where
  box : BoxR w g K L X P S ad n c
  reads : Reads w ad n zs
theorem ArgR.new {w : World} (K L X P S : Int) {ad : Option Addr} {n : Nat} (c : Nat) {zs : List Int} (h : Reads w ad n zs) (t : TypeId) (g : Nat) (hg : g = w.heap.size) : ArgR (w.alloc (.cells #[.int .i64 K, .int .i64 L, .int .i64 X, .int .i64 P, .int .i64 S, .slice ad n c] t)) g K L X P S ad n c zs := by
  subst hg
  exact ⟨BoxR.new w K L X P S ad n c t, h.below (Below.alloc1 w _) (Nat.le_refl _)⟩
theorem ArgR.below {w w' : World} {g : Nat} {K L X P S : Int} {ad : Option Addr} {n c : Nat} {zs : List Int} (a : ArgR w g K L X P S ad n c zs) {B : Nat} (h : Below B w w') (hB : w.heap.size ≤ B) : ArgR w' g K L X P S ad n c zs := ⟨a.box.below h hB, a.reads.below h hB⟩
theorem ArgR.alloc {w : World} {g : Nat} {K L X P S : Int} {ad : Option Addr} {n c : Nat} {zs : List Int} (a : ArgR w g K L X P S ad n c zs) (o : Obj) : ArgR (w.alloc o) g K L X P S ad n c zs := a.below (Below.alloc1 w o) (Nat.le_refl _)
theorem ArgR.drewN {w : World} {g : Nat} {K L X P S : Int} {ad : Option Addr} {n c : Nat} {zs : List Int} (a : ArgR w g K L X P S ad n c zs) (k : Nat) : ArgR (w.drewN k) g K L X P S ad n c zs := a.below ((Still.drewN w k).below w.heap.size) (Nat.le_refl _)
theorem ArgR.still {w w' : World} {g : Nat} {K L X P S : Int} {ad : Option Addr} {n c : Nat} {zs : List Int} (a : ArgR w g K L X P S ad n c zs) (s : Still w w') : ArgR w' g K L X P S ad n c zs := a.below (s.below w.heap.size) (Nat.le_refl _)
theorem ArgR.other {w w' : World} {g : Nat} {K L X P S : Int} {ad : Option Addr} {n c : Nat} {zs : List Int} (a : ArgR w g K L X P S ad n c zs) {row : Option Nat} (hg : w.grownBy w' row) (hne : some g ≠ row) (hn : ∀ a, ad = some a → some a.block ≠ row) : ArgR w' g K L X P S ad n c zs := ⟨a.box.other hg hne, a.reads.other hg hn⟩
end Go.Proofs.Ytdlddgejpcbofaa
