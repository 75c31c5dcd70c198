/- Slices of whole numbers: what they read as; the contracts of the laws' toIntS, eqIntS, markIntS, heldIntS. Conditions: at most 2^21 of them. -/
import Derived.Test.YtnbpblephmjfnaaMga
namespace Go.Proofs.Ytnbpblephmjfnaa
open Go.RowKit
set_option maxRecDepth 100000
def ins (zs : List Int) : List Value := zs.map (Value.int .i64)
structure ReadsI (w : World) (ad : Option Addr) (n : Nat) (zs : List Int) : Prop where
 len : zs.length = n
 cells : n = 0 ∨ ∃ b off, ad = some ⟨b, off, none⟩ ∧ ∀ i, i < n → w.cell? ⟨b, off + i, none⟩ = some (.int .i64 (zs.getD i 0))
 bd : ∀ i, -9223372036854775808 ≤ zs.getD i 0 ∧ zs.getD i 0 ≤ 9223372036854775807
theorem ReadsI.below {w w' : World} {ad : Option Addr} {n : Nat} {zs : List Int} (h : ReadsI w ad n zs) {B : Nat} (hb : Below B w w') (hB : w.heap.size ≤ B) : ReadsI w' ad n zs := by
 refine ⟨h.len, ?_, h.bd⟩
 rcases h.cells with h0 | ⟨b, off, rfl, hc⟩
 · exact .inl h0
 · refine .inr ⟨b, off, rfl, fun i hi => ?_⟩
   have hc' := hc i hi
   have := World.block_lt_of_cell? w _ hc'
   rw [hb.cell (p := ⟨b, off + i, none⟩) (by simp at this ⊢; omega)]
   exact hc'
theorem ReadsI.own {w : World} {base : Nat} {v : Value} {n : Nat} {zs : List Int} (h : w.ownsRow base 3 1 v n (ins zs)) (hbd : ∀ i, -9223372036854775808 ≤ zs.getD i 0 ∧ zs.getD i 0 ≤ 9223372036854775807) :
 ∃ ad cap, v = .slice ad n cap ∧ ReadsI w ad n zs ∧ (ad = none ∨ ∃ g, ad = some ⟨g, 0, none⟩ ∧ base ≤ g ∧ g < w.heap.size) := by
 have hl : zs.length = n := by have := h.1; simpa [ins] using this
 rcases h.2 with ⟨rfl, rfl⟩ | ⟨g, cap, cur, rfl, hb, hg, hnc, hcm, hcs, htake⟩
 · exact ⟨none, 0, rfl, ⟨hl, .inl rfl, hbd⟩, .inl rfl⟩
 · refine ⟨_, cap, rfl, ⟨hl, .inr ⟨g, 0, rfl, fun i hi => ?_⟩, hbd⟩, .inr ⟨g, rfl, hb, (Array.getElem?_eq_some_iff.1 hg).1⟩⟩
   rw [Nat.zero_add, h.cellAt i (by omega)]
   simp [ins, hl, hi]
theorem ReadsI.other {w w' : World} {ad : Option Addr} {n : Nat} {zs : List Int} (h : ReadsI w ad n zs) {row : Option Nat} (hg : w.grownBy w' row) (hne : ∀ a, ad = some a → some a.block ≠ row) : ReadsI w' ad n zs := by
 refine ⟨h.len, ?_, h.bd⟩
 rcases h.cells with h0 | ⟨b, off, rfl, hc⟩
 · exact .inl h0
 · exact .inr ⟨b, off, rfl, fun i hi => hg.cell (hc i hi) (hne ⟨b, off, none⟩ rfl)⟩
end Go.Proofs.Ytnbpblephmjfnaa
