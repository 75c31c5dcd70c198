/- A copy of an item that a law makes, in memory of its own; few entries of a span. No statement of its own; no conditions. -/
import Derived.Test.YtphmlndkjgldkaaMc11
import Derived.Test.YtphmlndkjgldkaaMga
import Derived.Test.YtphmlndkjgldkaaAr
namespace Go.Proofs.Ytphmlndkjgldkaa
open Go.RowKit
set_option maxRecDepth 100000
theorem Within.grown11 {w w' : World} {row : Option Nat} {lo hi : Nat} (hg : w.grownBy w' row) (hr : ∀ k, row = some k → lo ≤ k ∧ k < hi) : Within lo hi w w' :=
 ⟨hg.os, hg.tape, hg.output, hg.size, fun k hk ho => hg.block k hk (fun e => by have := hr k e.symm; omega)⟩
structure BoxIt (w : World) (lo g : Nat) (K N : Int) (f : Nat) (x : Nat) (n : Nat) (Z : List Int) : Prop where
 box : Box w g K N f (some ⟨x, 0, none⟩) n n
 o : w.ownsRow lo 5 1 (.slice (some ⟨x, 0, none⟩) n n) n (bys Z)
 t : x < g
 lt : g < w.heap.size
 bd : ∀ i, 0 ≤ Z.getD i 0 ∧ Z.getD i 0 ≤ 255
section
variable {w w' : World} {lo g : Nat} {K N : Int} {f x n : Nat} {Z : List Int}
theorem BoxIt.floor (h : BoxIt w lo g K N f x n Z) : lo ≤ x := (h.o.lt x rfl).1
theorem BoxIt.below (h : BoxIt w lo g K N f x n Z) {B : Nat} (hb : Below B w w') (hB : w.heap.size ≤ B) : BoxIt w' lo g K N f x n Z :=
 ⟨h.box.below hb (Nat.lt_of_lt_of_le h.lt hB), owns_below hb hB h.o, h.t, Nat.lt_of_lt_of_le h.lt hb.size, h.bd⟩
theorem BoxIt.agree (h : BoxIt w lo g K N f x n Z) (ha : Agree lo (g + 1) w w') : BoxIt w' lo g K N f x n Z := by
 have h1 := h.floor
 have h2 := h.t
 have hc := fun i => World.cell?_of_block (w := w) (w' := w') (a := ⟨g, i, none⟩) (ha g (by omega) (by omega))
 refine ⟨⟨(hc 0).trans h.box.c0, (hc 1).trans h.box.c1, (hc 2).trans h.box.c2, (hc 3).trans h.box.c3⟩, owns_agree h.o ha (fun b hb => by obtain rfl := Option.some.inj hb; exact ⟨h1, by simp; omega⟩), h2, ?_, h.bd⟩
 exact World.block_lt_of_cell? w' ⟨g, 0, none⟩ ((hc 0).trans h.box.c0)
theorem BoxIt.rd (h : BoxIt w lo g K N f x n Z) : Reads w (some ⟨x, 0, none⟩) n Z := by
 obtain ⟨_, _, e, r, _⟩ := Reads.own h.o h.bd
 obtain ⟨rfl, _, _⟩ := Value.slice.inj e
 exact r
theorem BoxIt.new (h : w.ownsRow lo 5 1 (.slice (some ⟨x, 0, none⟩) n n) n (bys Z)) (hz : ∀ i, 0 ≤ Z.getD i 0 ∧ Z.getD i 0 ≤ 255) (K N : Int) (f : Nat) (t : TypeId) : BoxIt (w.alloc (.cells #[.int .i64 K, .int .i64 N, .float .f64 f, .slice (some ⟨x, 0, none⟩) n n] t)) lo w.heap.size K N f x n Z :=
 ⟨Box.new w K N f _ n n t, h.alloc _, (h.lt x rfl).2, by rw [alloc_size]; omega, hz⟩
theorem BoxIt.within (h : BoxIt w lo g K N f x n Z) (hg : w.grownBy w' (Value.slice (some ⟨x, 0, none⟩) n n).ownBlock) : Within lo g w w' := Within.grown11 hg (fun k hk => by obtain rfl := Option.some.inj hk; exact ⟨h.floor, h.t⟩)
end
end Go.Proofs.Ytphmlndkjgldkaa
