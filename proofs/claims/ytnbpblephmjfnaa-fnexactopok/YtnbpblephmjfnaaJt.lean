/- A slice of byte slices, read; the contract of the program's joined. Conditions: lists of at most 2^21 bytes together. -/
import Derived.Test.YtnbpblephmjfnaaMga
import Derived.Test.YtnbpblephmjfnaaDk
import Derived.Laws.AppendOwnNone
namespace Go.Proofs.Ytnbpblephmjfnaa
open Go.RowKit
set_option maxRecDepth 100000
structure ReadsS (w : World) (ad : Option Addr) (ss : List (List Int)) : Prop where
 cells : ss.length = 0 ∨ ∃ b off, ad = some ⟨b, off, none⟩ ∧ ∀ i, i < ss.length → ∃ v, w.cell? ⟨b, off + i, none⟩ = some v ∧ Row w v (ss.getD i [])
theorem ReadsS.below {w w' : World} {ad : Option Addr} {ss : List (List Int)} (h : ReadsS w ad ss) {B : Nat} (hb : Below B w w') (hB : w.heap.size ≤ B) : ReadsS w' ad ss := by
 refine ⟨?_⟩
 rcases h.cells with h0 | ⟨b, off, rfl, hc⟩
 · exact .inl h0
 · refine .inr ⟨b, off, rfl, fun i hi => ?_⟩
   obtain ⟨v, h1, h2⟩ := hc i hi
   have := World.block_lt_of_cell? w _ h1
   exact ⟨v, by rw [hb.cell (p := ⟨b, off + i, none⟩) (by simp at this ⊢; omega)]; exact h1, h2.below hb hB⟩
end Go.Proofs.Ytnbpblephmjfnaa
