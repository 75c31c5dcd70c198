/- The contract of the specification's HeapClear. Conditions: what the types say. -/
import Derived.Test.YtkfhfjghfadofaaGreatIm10
import Derived.Test.YtkfhfjghfadofaaGreatPk
namespace Go.Proofs.YtkfhfjghfadofaaGreat
open Go.RowKit
set_option maxRecDepth 100000
theorem OwnG.block {w : World} {lo hi n c : Nat} {a : Option Addr} {ps : List Pg} (h : OwnG w lo hi (.slice a n c) ps) (hn : ps.length = n) (h0 : 0 < n) : ∃ g, a = some ⟨g, 0, none⟩ ∧ lo ≤ g ∧ g < hi := by
 obtain ⟨ys, bs, ow, _, _⟩ := h.own
 rw [hn] at ow
 rcases ow.2 with ⟨e, e0⟩ | ⟨g, cap, cur, e, hb, _⟩
 · omega
 · cases e
   exact ⟨g, rfl, hb, h.top g rfl⟩
theorem OwnG.cells2 {w : World} {lo hi n c g q : Nat} {ps : List Pg} (h : OwnG w lo hi (.slice (some ⟨g, 0, none⟩) n c) ps) (hn : ps.length = n) (hq : q < n) : (∃ v, w.cell? ⟨g, q * 2, none⟩ = some v) ∧ (∃ v, w.cell? ⟨g, q * 2 + 1, none⟩ = some v) ∧ w.frozen? ⟨g, q * 2, none⟩ = false ∧ w.frozen? ⟨g, q * 2 + 1, none⟩ = false := by
 obtain ⟨ys, bs, ow, _, _⟩ := h.own
 rw [hn] at ow
 have hcl := ow.1
 exact ⟨⟨_, (ow.cellAt (q * 2) (by omega)).trans (List.getElem?_eq_getElem (by omega))⟩, ⟨_, (ow.cellAt (q * 2 + 1) (by omega)).trans (List.getElem?_eq_getElem (by omega))⟩, ow.frozenAt _, ow.frozenAt _⟩
theorem OwnG.page {w : World} {lo hi n c g q : Nat} {ps : List Pg} (h : OwnG w lo hi (.slice (some ⟨g, 0, none⟩) n c) ps) (hn : ps.length = n) (hq : q < n) : ∃ pa pc, w.cell? ⟨g, q * 2, none⟩ = some (.int .i64 (ps.getD q pg0).1) ∧ w.cell? ⟨g, q * 2 + 1, none⟩ = some (.slice pa (ps.getD q pg0).2.length pc) ∧ ReadsP w pa (ps.getD q pg0).2 := by
 obtain ⟨b, off, pa, pc, e, h1, h2, h3, _⟩ := h.rd.at (k := q) (by omega)
 cases e
 rw [Nat.zero_add] at h1 h2
 exact ⟨pa, pc, h1, h2, h3⟩
end Go.Proofs.YtkfhfjghfadofaaGreat
