/- Helpers for methods that answer a disk and a number. -/
import Derived.Test.YtnnnehjlegjejaaDoorDl
import Derived.Test.YtnnnehjlegjejaaDoorDi
namespace Go.Proofs.YtnnnehjlegjejaaDoor
open Go.RowKit

theorem results_cell_tmp {P : Program} {fn : Func} {p q : Tmp} {ty : TypeId} (h : fn.results = #[.cell p ty, .tmp q]) (tmps : Array Value) (w : World) (g : Nat) (t : TypeId) (cs : Array Value) (fr : Nat × Nat) (d : TypeDesc)
    (hp : tmps.getD p undef = .pointer (some ⟨g, 0, none⟩)) (hg : w.heap[g]? = some (.cells cs t fr))
    (hu : P.underlying ty = some d) (hd : (match d with | .struct _ | .array _ _ => true | _ => false) = true) (hi : (P.info? ty).map (·.size) = some cs.size) :
    (results fn tmps).run P w = .ok (.tuple #[.agg cs, tmps.getD q undef]) w := by
  have hp' : tmps[p]?.getD undef = .pointer (some ⟨g, 0, none⟩) := by simpa using hp
  simp [results, h, hp', asAddr, run_loadVar_row w g t ty cs fr d hg hu hd hi]

theorem okD_len {ss : List (List Int)} {ws : List (Int × List Int)} {F : Int} {D : Bool} (h : okD ⟨ss, ws, F, D⟩ = true) : ss.length ≤ 512 ∧ ws.length ≤ 600 ∧ (∀ i, i < ss.length → (ss.getD i []).length = 64) ∧ (∀ i, i < ws.length → (ws.getD i w0).2.length = 64) := by
  have o := okD_of h
  exact ⟨o.s1, o.w1, o.s, fun i hi => (o.w i hi).2.2⟩
theorem len_any {ss : List (List Int)} {n : Nat} (h : ∀ i, i < n → (ss.getD i []).length = 64) (hl : ss.length = n) : ∀ i, (ss.getD i []).length ≤ 2097152 := by
  intro i
  by_cases hi : i < n
  · rw [h i hi]; omega
  · rw [List.getD_eq_getElem?_getD, List.getElem?_eq_none (by omega)]; simp
theorem lenW_any {ws : List (Int × List Int)} {n : Nat} (h : ∀ i, i < n → (ws.getD i w0).2.length = 64) (hl : ws.length = n) : ∀ i, (ws.getD i w0).2.length ≤ 2097152 := by
  intro i
  by_cases hi : i < n
  · rw [h i hi]; omega
  · rw [List.getD_eq_getElem?_getD, List.getElem?_eq_none (by omega)]; simp [w0]

end Go.Proofs.YtnnnehjlegjejaaDoor
