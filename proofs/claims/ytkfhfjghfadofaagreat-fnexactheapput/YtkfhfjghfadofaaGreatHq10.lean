/- A heap's rows are small; a heap in a block. No statement of its own; no conditions. -/
import Derived.Test.YtkfhfjghfadofaaGreatHk10
import Derived.Test.YtkfhfjghfadofaaGreatHm10
import Derived.Test.YtkfhfjghfadofaaGreatHe10
namespace Go.Proofs.YtkfhfjghfadofaaGreat
open Go.RowKit
set_option maxRecDepth 100000
structure BoxH (w : World) (g : Nat) (v : Value) : Prop where
 c0 : w.cell? ⟨g, 0, none⟩ = some v
structure ArgH (w : World) (g : Nat) (ad : Option Addr) (n c : Nat) (ps : List Pg) : Prop where
 box : BoxH w g (.slice ad n c)
 reads : ReadsG w ad ps
theorem BoxH.lt {w : World} {g : Nat} {v : Value} (h : BoxH w g v) : g < w.heap.size := World.block_lt_of_cell? w _ h.c0
theorem BoxH.below {w w' : World} {g : Nat} {v : Value} (h : BoxH w g v) {B : Nat} (hb : Below B w w') (hB : w.heap.size ≤ B) : BoxH w' g v := by
 have hlt := h.lt
 exact ⟨by rw [hb.cell (p := ⟨g, 0, none⟩) (by simp; omega)]; exact h.c0⟩
theorem BoxH.within {w w' : World} {g : Nat} {v : Value} (h : BoxH w g v) {lo hi : Nat} (hb : Within lo hi w w') (ho : g < lo ∨ hi ≤ g) : BoxH w' g v := by
 refine ⟨?_⟩
 rw [show w'.cell? ⟨g, 0, none⟩ = w.cell? ⟨g, 0, none⟩ by simp only [World.cell?]; rw [hb.block g h.lt ho]]
 exact h.c0
theorem ArgH.below {w w' : World} {g : Nat} {ad : Option Addr} {n c : Nat} {ps : List Pg} (h : ArgH w g ad n c ps) {B : Nat} (hb : Below B w w') (hB : w.heap.size ≤ B) : ArgH w' g ad n c ps := ⟨h.box.below hb hB, h.reads.below hb hB⟩
theorem ArgH.new {w : World} {ad : Option Addr} (n c : Nat) {ps : List Pg} (h : ReadsG w ad ps) (t : TypeId) (g : Nat) (hg : g = w.heap.size) : ArgH (w.alloc (.cells #[.slice ad n c] t)) g ad n c ps := by
 subst hg
 exact ⟨⟨box1 w (.slice ad n c) t⟩, h.below (Below.alloc1 w _) (Nat.le_refl _)⟩
end Go.Proofs.YtkfhfjghfadofaaGreat
