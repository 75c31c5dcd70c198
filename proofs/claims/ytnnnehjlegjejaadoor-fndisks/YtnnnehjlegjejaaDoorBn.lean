/- Slices of bools: what they read as. Conditions: at most 2^21 of them. -/
import Derived.Test.YtnnnehjlegjejaaDoorHelp
namespace Go.Proofs.YtnnnehjlegjejaaDoor
open Go.RowKit

theorem Tryd.info4 : (Tryd.prog.info? 4).map (fun i => (i.zero, i.size, i.bytes)) = some (some (.bool false), 1, 1) := by kernel_rfl
def bls (bs : List Bool) : List Value := bs.map Value.bool
structure ReadsB (w : World) (ad : Option Addr) (n : Nat) (bs : List Bool) : Prop where
  len : bs.length = n
  cells : n = 0 ∨ ∃ b off, ad = some ⟨b, off, none⟩ ∧ ∀ i, i < n → w.cell? ⟨b, off + i, none⟩ = some (.bool (bs.getD i false))
theorem ReadsB.below {w w' : World} {ad : Option Addr} {n : Nat} {bs : List Bool} (h : ReadsB w ad n bs) {B : Nat} (hb : Below B w w') (hB : w.heap.size ≤ B) : ReadsB w' ad n bs := by
  refine ⟨h.len, ?_⟩
  rcases h.cells with h0 | ⟨b, off, rfl, hc⟩
  · exact .inl h0
  · refine .inr ⟨b, off, rfl, fun i hi => ?_⟩
    have hc' := hc i hi
    have := World.block_lt_of_cell? w _ hc'
    rw [hb.cell (p := ⟨b, off + i, none⟩) (by simp at this ⊢; omega)]
    exact hc'
theorem ReadsB.alloc {w : World} {ad : Option Addr} {n : Nat} {bs : List Bool} (h : ReadsB w ad n bs) (o : Obj) : ReadsB (w.alloc o) ad n bs := h.below ((Below.refl w.heap.size w).alloc (Nat.le_refl _) o) (Nat.le_refl _)
theorem ReadsB.own {w : World} {base g n cap : Nat} {bs : List Bool} (h : w.ownsRow base 4 1 (.slice (some ⟨g, 0, none⟩) n cap) n (bls bs)) : ReadsB w (some ⟨g, 0, none⟩) n bs := by
  have hl : bs.length = n := by have := h.1; simpa [bls] using this
  refine ⟨hl, .inr ⟨g, 0, rfl, fun i hi => ?_⟩⟩
  rw [Nat.zero_add, h.cellAt i (by omega)]
  simp [bls, hl, hi]

end Go.Proofs.YtnnnehjlegjejaaDoor
