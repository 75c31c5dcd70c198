/- A laid tuple in memory. No statement of its own; no conditions. -/
import Derived.Test.YtebhipicfgnajaaGreatMgc
namespace Go.Proofs.YtebhipicfgnajaaGreat
open Go.RowKit
set_option maxRecDepth 100000

theorem size_laid : (Tryz.prog.info? 177).map (·.size) = some 4 := by kernel_rfl
theorem grown_setRow {g : Nat} {cs : Array Value} {t : TypeId} (w : World) (q : Nat) (R : Array Value) (_ : w.heap[g]? = some (.cells cs t (0, 0))) : w.grownBy (w.setRow q R) (some q) :=
  ⟨rfl, rfl, rfl, by simp, fun i _ hne => setRow_other _ _ _ _ (fun e => hne (by rw [e]))⟩
theorem cells4_below {w w' : World} {g : Nat} {a b c d : Value} (h : w.cell? ⟨g, 0, none⟩ = some a ∧ w.cell? ⟨g, 1, none⟩ = some b ∧ w.cell? ⟨g, 2, none⟩ = some c ∧ w.cell? ⟨g, 3, none⟩ = some d) (e : Below w.heap.size w w') :
    w'.cell? ⟨g, 0, none⟩ = some a ∧ w'.cell? ⟨g, 1, none⟩ = some b ∧ w'.cell? ⟨g, 2, none⟩ = some c ∧ w'.cell? ⟨g, 3, none⟩ = some d := by
  have hl : g < w.heap.size := World.block_lt_of_cell? w _ h.1
  exact ⟨(e.cell (p := ⟨g, 0, none⟩) hl).trans h.1, (e.cell (p := ⟨g, 1, none⟩) hl).trans h.2.1, (e.cell (p := ⟨g, 2, none⟩) hl).trans h.2.2.1, (e.cell (p := ⟨g, 3, none⟩) hl).trans h.2.2.2⟩
end Go.Proofs.YtebhipicfgnajaaGreat
