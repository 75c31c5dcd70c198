/- A disk in a block of its own, and what it leads to. -/
import Derived.Test.YtnnnehjlegjejaaDoorDz
namespace Go.Proofs.YtnnnehjlegjejaaDoor
open Go.RowKit

structure BoxD (w : World) (g : Nat) (aS : Option Addr) (nS cS : Nat) (aW : Option Addr) (nW cW : Nat) (F : Int) (D : Bool) : Prop where
  c0 : w.cell? ⟨g, 0, none⟩ = some (.slice aS nS cS)
  c1 : w.cell? ⟨g, 1, none⟩ = some (.slice aW nW cW)
  c2 : w.cell? ⟨g, 2, none⟩ = some (.int .i64 F)
  c3 : w.cell? ⟨g, 3, none⟩ = some (.bool D)
theorem BoxD.new (w : World) (aS : Option Addr) (nS cS : Nat) (aW : Option Addr) (nW cW : Nat) (F : Int) (D : Bool) (t : TypeId) : BoxD (w.alloc (.cells #[.slice aS nS cS, .slice aW nW cW, .int .i64 F, .bool D] t)) w.heap.size aS nS cS aW nW cW F D := by
  have h := heap_alloc_new w (.cells #[.slice aS nS cS, .slice aW nW cW, .int .i64 F, .bool D] t)
  refine ⟨?_, ?_, ?_, ?_⟩ <;> (rw [cell_of_row _ _ _ _ _ _ h]; rfl)
theorem BoxD.agree {w w' : World} {g : Nat} {aS : Option Addr} {nS cS : Nat} {aW : Option Addr} {nW cW : Nat} {F : Int} {D : Bool} (b : BoxD w g aS nS cS aW nW cW F D) (h : w'.heap[g]? = w.heap[g]?) : BoxD w' g aS nS cS aW nW cW F D :=
  ⟨(World.cell?_of_block (w := w) (a := ⟨g, 0, none⟩) h).trans b.c0, (World.cell?_of_block (w := w) (a := ⟨g, 1, none⟩) h).trans b.c1, (World.cell?_of_block (w := w) (a := ⟨g, 2, none⟩) h).trans b.c2, (World.cell?_of_block (w := w) (a := ⟨g, 3, none⟩) h).trans b.c3⟩
theorem BoxD.lt {w : World} {g : Nat} {aS : Option Addr} {nS cS : Nat} {aW : Option Addr} {nW cW : Nat} {F : Int} {D : Bool} (b : BoxD w g aS nS cS aW nW cW F D) : g < w.heap.size := World.block_lt_of_cell? w _ b.c0

/-- An argument that came in: its box, and what it reads. -/
structure ArgD (w : World) (g : Nat) (aS : Option Addr) (nS cS : Nat) (aW : Option Addr) (nW cW : Nat) (F : Int) (D : Bool) (ss : List (List Int)) (ws : List (Int × List Int)) : Prop where
  box : BoxD w g aS nS cS aW nW cW F D
  reads : ReadsD w aS aW ss ws
theorem ArgD.lt {w : World} {g : Nat} {aS : Option Addr} {nS cS : Nat} {aW : Option Addr} {nW cW : Nat} {F : Int} {D : Bool} {ss : List (List Int)} {ws : List (Int × List Int)} (a : ArgD w g aS nS cS aW nW cW F D ss ws) : g < w.heap.size := a.box.lt
theorem ArgD.new {w : World} {aS : Option Addr} {nS : Nat} (cS : Nat) {aW : Option Addr} {nW : Nat} (cW : Nat) (F : Int) (D : Bool) {ss : List (List Int)} {ws : List (Int × List Int)} (h : ReadsD w aS aW ss ws) (t : TypeId) (g : Nat) (hg : g = w.heap.size) : ArgD (w.alloc (.cells #[.slice aS nS cS, .slice aW nW cW, .int .i64 F, .bool D] t)) g aS nS cS aW nW cW F D ss ws := by
  subst hg
  exact ⟨BoxD.new w aS nS cS aW nW cW F D t, h.below (Below.alloc1 w _) (Nat.le_refl _)⟩
theorem ArgD.below {w w' : World} {g : Nat} {aS : Option Addr} {nS cS : Nat} {aW : Option Addr} {nW cW : Nat} {F : Int} {D : Bool} {ss : List (List Int)} {ws : List (Int × List Int)} (a : ArgD w g aS nS cS aW nW cW F D ss ws) {B : Nat} (h : Below B w w') (hB : w.heap.size ≤ B) : ArgD w' g aS nS cS aW nW cW F D ss ws :=
  ⟨a.box.agree (h.block g (Nat.lt_of_lt_of_le a.lt hB)), a.reads.below h hB⟩
theorem ArgD.alloc {w : World} {g : Nat} {aS : Option Addr} {nS cS : Nat} {aW : Option Addr} {nW cW : Nat} {F : Int} {D : Bool} {ss : List (List Int)} {ws : List (Int × List Int)} (a : ArgD w g aS nS cS aW nW cW F D ss ws) (o : Obj) : ArgD (w.alloc o) g aS nS cS aW nW cW F D ss ws := a.below (Below.alloc1 w o) (Nat.le_refl _)
theorem ArgD.drewN {w : World} {g : Nat} {aS : Option Addr} {nS cS : Nat} {aW : Option Addr} {nW cW : Nat} {F : Int} {D : Bool} {ss : List (List Int)} {ws : List (Int × List Int)} (a : ArgD w g aS nS cS aW nW cW F D ss ws) (k : Nat) : ArgD (w.drewN k) g aS nS cS aW nW cW F D ss ws := a.below ((Still.drewN w k).below w.heap.size) (Nat.le_refl _)
/-- .. while blocks elsewhere are written. -/
theorem ArgD.within {w w' : World} {g lo hi : Nat} {aS : Option Addr} {nS cS : Nat} {aW : Option Addr} {nW cW : Nat} {F : Int} {D : Bool} {ss : List (List Int)} {ws : List (Int × List Int)} (a : ArgD w g aS nS cS aW nW cW F D ss ws) (h : Within lo hi w w') (hg : g < lo ∨ hi ≤ g) (hr : ReadsD w' aS aW ss ws) : ArgD w' g aS nS cS aW nW cW F D ss ws :=
  ⟨a.box.agree (h.block g a.lt hg), hr⟩

/-- A disk of the call's own, its box behind it: the blocks lo .. g are the disk's, g is the box's. -/
structure OwnB (w : World) (lo g : Nat) (aS : Option Addr) (nS cS : Nat) (aW : Option Addr) (nW cW : Nat) (F : Int) (D : Bool) (ss : List (List Int)) (ws : List (Int × List Int)) : Prop where
  box : BoxD w g aS nS cS aW nW cW F D
  own : OwnD w lo g (.slice aS nS cS) (.slice aW nW cW) ss ws
theorem OwnB.lt {w : World} {lo g : Nat} {aS : Option Addr} {nS cS : Nat} {aW : Option Addr} {nW cW : Nat} {F : Int} {D : Bool} {ss : List (List Int)} {ws : List (Int × List Int)} (a : OwnB w lo g aS nS cS aW nW cW F D ss ws) : g < w.heap.size := a.box.lt
theorem OwnB.reads {w : World} {lo g : Nat} {aS : Option Addr} {nS cS : Nat} {aW : Option Addr} {nW cW : Nat} {F : Int} {D : Bool} {ss : List (List Int)} {ws : List (Int × List Int)} (a : OwnB w lo g aS nS cS aW nW cW F D ss ws) : ReadsD w aS aW ss ws := a.own.rd
theorem OwnB.new {w : World} {lo : Nat} {aS : Option Addr} {nS cS : Nat} {aW : Option Addr} {nW cW : Nat} (F : Int) (D : Bool) {ss : List (List Int)} {ws : List (Int × List Int)} (h : OwnD w lo w.heap.size (.slice aS nS cS) (.slice aW nW cW) ss ws) (t : TypeId) (g : Nat) (hg : g = w.heap.size) : OwnB (w.alloc (.cells #[.slice aS nS cS, .slice aW nW cW, .int .i64 F, .bool D] t)) lo g aS nS cS aW nW cW F D ss ws := by
  subst hg
  exact ⟨BoxD.new w aS nS cS aW nW cW F D t, h.below (Below.alloc1 w _) (Nat.le_refl _)⟩
theorem OwnB.below {w w' : World} {lo g : Nat} {aS : Option Addr} {nS cS : Nat} {aW : Option Addr} {nW cW : Nat} {F : Int} {D : Bool} {ss : List (List Int)} {ws : List (Int × List Int)} (a : OwnB w lo g aS nS cS aW nW cW F D ss ws) {B : Nat} (h : Below B w w') (hB : w.heap.size ≤ B) : OwnB w' lo g aS nS cS aW nW cW F D ss ws :=
  ⟨a.box.agree (h.block g (Nat.lt_of_lt_of_le a.lt hB)), a.own.below h (by have := a.lt; omega)⟩
theorem OwnB.alloc {w : World} {lo g : Nat} {aS : Option Addr} {nS cS : Nat} {aW : Option Addr} {nW cW : Nat} {F : Int} {D : Bool} {ss : List (List Int)} {ws : List (Int × List Int)} (a : OwnB w lo g aS nS cS aW nW cW F D ss ws) (o : Obj) : OwnB (w.alloc o) lo g aS nS cS aW nW cW F D ss ws := a.below (Below.alloc1 w o) (Nat.le_refl _)
theorem OwnB.drewN {w : World} {lo g : Nat} {aS : Option Addr} {nS cS : Nat} {aW : Option Addr} {nW cW : Nat} {F : Int} {D : Bool} {ss : List (List Int)} {ws : List (Int × List Int)} (a : OwnB w lo g aS nS cS aW nW cW F D ss ws) (k : Nat) : OwnB (w.drewN k) lo g aS nS cS aW nW cW F D ss ws := a.below ((Still.drewN w k).below w.heap.size) (Nat.le_refl _)
/-- .. while another disk is written: wholly ahead of it, or behind its box. -/
theorem OwnB.within {w w' : World} {lo g lo' hi' : Nat} {aS : Option Addr} {nS cS : Nat} {aW : Option Addr} {nW cW : Nat} {F : Int} {D : Bool} {ss : List (List Int)} {ws : List (Int × List Int)} (a : OwnB w lo g aS nS cS aW nW cW F D ss ws) (h : Within lo' hi' w w') (ho : (hi' ≤ lo ∧ hi' ≤ g) ∨ g < lo') : OwnB w' lo g aS nS cS aW nW cW F D ss ws :=
  ⟨a.box.agree (h.block g a.lt (by omega)), a.own.agree (h.agree (by have := a.lt; omega) (by omega))⟩
/-- .. while it is written itself. -/
theorem OwnB.self {w w' : World} {lo g : Nat} {aS : Option Addr} {nS cS : Nat} {aW : Option Addr} {nW cW : Nat} {F : Int} {D : Bool} {ss ss' : List (List Int)} {ws ws' : List (Int × List Int)} (a : OwnB w lo g aS nS cS aW nW cW F D ss ws) (h : Within lo g w w') (o : OwnD w' lo g (.slice aS nS cS) (.slice aW nW cW) ss' ws') : OwnB w' lo g aS nS cS aW nW cW F D ss' ws' :=
  ⟨a.box.agree (h.block g a.lt (.inr (Nat.le_refl _))), o⟩

theorem szOf_S {ss : List (List Int)} {ws : List (Int × List Int)} {b : Nat} (h : szOf ss ws ≤ b) : ss.length ≤ b ∧ ws.length ≤ b ∧ tot ss ≤ b ∧ totW ws ≤ b ∧ (∀ i, (ss.getD i []).length ≤ b) ∧ (∀ i, (ws.getD i w0).2.length ≤ b) := by
  unfold szOf at h
  refine ⟨by omega, by omega, by omega, by omega, fun i => ?_, fun i => ?_⟩
  · have := tot_at ss i; omega
  · have := tot_at (ws.map (·.2)) i
    rw [map2_getD] at this
    unfold totW at h
    omega
end Go.Proofs.YtnnnehjlegjejaaDoor
