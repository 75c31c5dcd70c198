/- A page in the midst of a heap's cells. No program, no conditions. -/
import Derived.Test.YtkfhfjghfadofaaGreatMgc
namespace Go.Proofs.YtkfhfjghfadofaaGreat
open Go.RowKit
set_option maxRecDepth 100000
structure Pg2 (w : World) (g i : Nat) (A : Int) (v : Value) : Prop where
 c0 : w.cell? ⟨g, i, none⟩ = some (.int .i64 A)
 c1 : w.cell? ⟨g, i + 1, none⟩ = some v
theorem padH_at (ps : List Pg) (q : Nat) : (padH ps q).getD q pg0 = ps.getD q pg0 := by
 unfold padH
 rw [getD_app]
 split
 · rfl
 · rename_i h
   rw [getD_rep, List.getD_eq_getElem?_getD, List.getElem?_eq_none (by omega)]; rfl
theorem padH_in {ps : List Pg} {q : Nat} (h : q < ps.length) : padH ps q = ps := by
 unfold padH
 rw [show q + 1 - ps.length = 0 by omega, List.replicate_zero, List.append_nil]
theorem padH_end (ps : List Pg) : padH ps ps.length = ps ++ [pg0] := by
 unfold padH
 rw [show ps.length + 1 - ps.length = 1 by omega]; rfl
end Go.Proofs.YtkfhfjghfadofaaGreat
