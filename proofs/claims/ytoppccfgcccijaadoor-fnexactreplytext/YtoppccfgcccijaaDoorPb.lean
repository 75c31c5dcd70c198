/- A page in a block of its own, and what it leads to; a page whose memory is the call's own. No statement of its own; no conditions. -/
import Derived.Test.YtoppccfgcccijaaDoorPa
namespace Go.Proofs.YtoppccfgcccijaaDoor
open Go.RowKit

structure BoxP (w : World) (g : Nat) (L : Int) (a : Option Addr) (n c : Nat) : Prop where
  c0 : w.cell? ⟨g, 0, none⟩ = some (.int .i64 L)
  c1 : w.cell? ⟨g, 1, none⟩ = some (.slice a n c)
section
variable {w w' : World} {g lo : Nat} {L : Int} {a : Option Addr} {n c : Nat} {ss ss' : List (List Int)}
theorem BoxP.row {t : TypeId} (h : w.heap[g]? = some (.cells #[.int .i64 L, .slice a n c] t (0, 0))) : BoxP w g L a n c := by
  refine ⟨?_, ?_⟩ <;> (rw [cell_of_row _ _ _ _ _ _ h]; rfl)
theorem BoxP.new (w : World) (L : Int) (a : Option Addr) (n c : Nat) (t : TypeId) : BoxP (w.alloc (.cells #[.int .i64 L, .slice a n c] t)) w.heap.size L a n c := BoxP.row (heap_alloc_new w (.cells #[.int .i64 L, .slice a n c] t))
theorem BoxP.agree (b : BoxP w g L a n c) (h : w'.heap[g]? = w.heap[g]?) : BoxP w' g L a n c :=
  ⟨(World.cell?_of_block (w := w) (a := ⟨g, 0, none⟩) h).trans b.c0, (World.cell?_of_block (w := w) (a := ⟨g, 1, none⟩) h).trans b.c1⟩
theorem BoxP.lt (b : BoxP w g L a n c) : g < w.heap.size := World.block_lt_of_cell? w _ b.c0
theorem BoxP.below (b : BoxP w g L a n c) {B : Nat} (h : Below B w w') (hB : w.heap.size ≤ B) : BoxP w' g L a n c := b.agree (h.block g (Nat.lt_of_lt_of_le b.lt hB))

/-- An argument that came in: its box, and what it reads. -/
structure ArgP (w : World) (g : Nat) (L : Int) (a : Option Addr) (n c : Nat) (ss : List (List Int)) : Prop where
  box : BoxP w g L a n c
  reads : ReadsS w a ss
theorem ArgP.lt (x : ArgP w g L a n c ss) : g < w.heap.size := x.box.lt
theorem ArgP.new (L : Int) (n c : Nat) (h : ReadsS w a ss) (t : TypeId) (g : Nat) (hg : g = w.heap.size) : ArgP (w.alloc (.cells #[.int .i64 L, .slice a n c] t)) g L a n c ss := by
  subst hg
  exact ⟨BoxP.new w L a n c t, h.below (Below.alloc1 w _) (Nat.le_refl _)⟩
theorem ArgP.below (x : ArgP w g L a n c ss) {B : Nat} (h : Below B w w') (hB : w.heap.size ≤ B) : ArgP w' g L a n c ss := ⟨x.box.below h hB, x.reads.below h hB⟩
theorem ArgP.alloc (x : ArgP w g L a n c ss) (o : Obj) : ArgP (w.alloc o) g L a n c ss := x.below (Below.alloc1 w o) (Nat.le_refl _)
theorem ArgP.drewN (x : ArgP w g L a n c ss) (k : Nat) : ArgP (w.drewN k) g L a n c ss := x.below ((Still.drewN w k).below w.heap.size) (Nat.le_refl _)
theorem ArgP.within {lo' hi' : Nat} (x : ArgP w g L a n c ss) (h : Within lo' hi' w w') (hg : g < lo' ∨ hi' ≤ g) (hr : ReadsS w' a ss) : ArgP w' g L a n c ss := ⟨x.box.agree (h.block g x.lt hg), hr⟩
end

/-- Slots of the call's own: the list's block and the rows' lie between lo and hi. -/
structure OwnP (w : World) (lo hi : Nat) (v : Value) (ss : List (List Int)) : Prop where
  own : ∃ xs : List Value, w.ownsRow lo 23 1 v ss.length xs ∧ Bands w lo hi xs ss
  top : ∀ g, v.ownBlock = some g → g < hi
section
variable {w w' : World} {lo hi g : Nat} {v : Value} {L : Int} {a : Option Addr} {n c : Nat} {ss ss' : List (List Int)}
theorem OwnP.rd (h : OwnP w lo hi (.slice a n c) ss) : ReadsS w a ss := by
  obtain ⟨xs, o, b⟩ := h.own
  obtain ⟨a', c', e, r⟩ := ReadsS.own o b
  obtain ⟨rfl, _, _⟩ := Value.slice.inj e
  exact r
theorem OwnP.slice (h : OwnP w lo hi v ss) : ∃ a c, v = .slice a ss.length c ∧ ReadsS w a ss := by
  obtain ⟨xs, o, b⟩ := h.own
  exact ReadsS.own o b
theorem OwnP.agree (h : OwnP w lo hi v ss) (ha : Agree lo hi w w') : OwnP w' lo hi v ss := by
  obtain ⟨xs, o, b⟩ := h.own
  exact ⟨⟨xs, owns_agree o ha (fun g hg => ⟨(o.lt g hg).1, h.top g hg⟩), b.agree ha⟩, h.top⟩
theorem OwnP.below (h : OwnP w lo hi v ss) {B : Nat} (hb : Below B w w') (hB : hi ≤ B) : OwnP w' lo hi v ss := h.agree (Agree.below hb hB)
theorem OwnP.mono {lo' hi' : Nat} (h : OwnP w lo hi v ss) (hl : lo' ≤ lo) (hh : hi ≤ hi') : OwnP w lo' hi' v ss := by
  obtain ⟨xs, o, b⟩ := h.own
  exact ⟨⟨xs, owns_lower o hl, b.mono hl hh⟩, fun g hg => Nat.lt_of_lt_of_le (h.top g hg) hh⟩
theorem OwnP.nil (w : World) (lo hi : Nat) : OwnP w lo hi (.slice none 0 0) [] :=
  ⟨⟨[], World.ownsRow_nil w lo 23 1, Bands.nil w lo hi⟩, fun g hg => by cases hg⟩

/-- A page of the call's own, its box behind it. -/
structure OwnB (w : World) (lo g : Nat) (L : Int) (a : Option Addr) (n c : Nat) (ss : List (List Int)) : Prop where
  box : BoxP w g L a n c
  own : OwnP w lo g (.slice a n c) ss
theorem OwnB.lt (x : OwnB w lo g L a n c ss) : g < w.heap.size := x.box.lt
theorem OwnB.reads (x : OwnB w lo g L a n c ss) : ReadsS w a ss := x.own.rd
theorem OwnB.new (L : Int) (h : OwnP w lo w.heap.size (.slice a n c) ss) (t : TypeId) (g : Nat) (hg : g = w.heap.size) : OwnB (w.alloc (.cells #[.int .i64 L, .slice a n c] t)) lo g L a n c ss := by
  subst hg
  exact ⟨BoxP.new w L a n c t, h.below (Below.alloc1 w _) (Nat.le_refl _)⟩
theorem OwnB.below (x : OwnB w lo g L a n c ss) {B : Nat} (h : Below B w w') (hB : w.heap.size ≤ B) : OwnB w' lo g L a n c ss :=
  ⟨x.box.below h hB, x.own.below h (by have := x.lt; omega)⟩
theorem OwnB.alloc (x : OwnB w lo g L a n c ss) (o : Obj) : OwnB (w.alloc o) lo g L a n c ss := x.below (Below.alloc1 w o) (Nat.le_refl _)
theorem OwnB.drewN (x : OwnB w lo g L a n c ss) (k : Nat) : OwnB (w.drewN k) lo g L a n c ss := x.below ((Still.drewN w k).below w.heap.size) (Nat.le_refl _)
/-- .. while another one is written: wholly ahead of it, or behind its box. -/
theorem OwnB.within {lo' hi' : Nat} (x : OwnB w lo g L a n c ss) (h : Within lo' hi' w w') (ho : (hi' ≤ lo ∧ hi' ≤ g) ∨ g < lo') : OwnB w' lo g L a n c ss :=
  ⟨x.box.agree (h.block g x.lt (by omega)), x.own.agree (h.agree (by have := x.lt; omega) (by omega))⟩
/-- .. while it is written itself. -/
theorem OwnB.self (x : OwnB w lo g L a n c ss) (h : Within lo g w w') (o : OwnP w' lo g (.slice a n c) ss') : OwnB w' lo g L a n c ss' :=
  ⟨x.box.agree (h.block g x.lt (.inr (Nat.le_refl _))), o⟩
end
end Go.Proofs.YtoppccfgcccijaaDoor
