/- The program links nodes. Conditions: at most 300 nodes. -/
import Derived.Test.YtphmlndkjgldkaaKs11
import Derived.Maps.AppendAt
namespace Go.Proofs.Ytphmlndkjgldkaa
open Go.RowKit
set_option maxRecDepth 100000
theorem Try.infoPn : (Try.prog.info? 78).map (fun i => (i.zero, i.size, i.bytes)) = some (some (.pointer none), 1, 8) := by kernel_rfl
theorem Kept.of_grown {w w' : World} {row : Option Nat} (h : w.grownBy w' row) : Kept (fun b => some b = row) w w' := ⟨h.os, h.tape, h.output, h.size, fun k hk hx => h.block k hk hx⟩
structure NRow (w : World) (r N : Nat) (sd : List Bool) : Prop where
 ex : ∃ ps : List (Option Addr), ps.length = N ∧ w.heap[r]? = some (.cells (ps.map Value.pointer).toArray 78) ∧ ps.map (·.isSome) = sd
theorem NRow.len {w : World} {r N : Nat} {sd : List Bool} (h : NRow w r N sd) : sd.length = N := by
 obtain ⟨ps, h1, _, rfl⟩ := h.ex
 simpa using h1
theorem NRow.at {w : World} {r N : Nat} {sd : List Bool} (h : NRow w r N sd) {i : Nat} (hi : i < N) : ∃ o : Option Addr, w.cell? ⟨r, i, none⟩ = some (.pointer o) ∧ sd.getD i true = o.isSome := by
 obtain ⟨ps, h1, h2, rfl⟩ := h.ex
 have hi' : i < ps.length := by omega
 refine ⟨ps[i], ?_, ?_⟩
 · rw [cell_of_row _ _ _ _ _ _ h2]; simp [hi']
 · simp [List.getD, hi']
theorem foldM_bad (g : List Bool → Int → Option (List Bool)) (ks : List Int) (s s1 : List Bool) (k : Nat) (hk : k < ks.length) (h : (ks.take k).foldlM (fun s k => g s k) s = some s1) (hb : g s1 (ks.getD k 0) = none) : ks.foldlM (fun s k => g s k) s = none := by
 have e : ks = ks.take k ++ (ks.getD k 0 :: ks.drop (k + 1)) := by
  rw [List.getD_eq_getElem?_getD, List.getElem?_eq_getElem hk, Option.getD_some, ← List.drop_eq_getElem_cons hk, List.take_append_drop]
 rw [e, List.foldlM_append, h]
 simp only [Option.bind_eq_bind, Option.bind_some, List.foldlM_cons, hb, Option.bind_none]
theorem foldM_step (g : List Bool → Int → Option (List Bool)) (ks : List Int) (s s1 s2 : List Bool) (k : Nat) (hk : k < ks.length) (h : (ks.take k).foldlM (fun s k => g s k) s = some s1) (hb : g s1 (ks.getD k 0) = some s2) : (ks.take (k + 1)).foldlM (fun s k => g s k) s = some s2 := by
 have e : ks.take (k + 1) = ks.take k ++ [ks.getD k 0] := by
  rw [List.take_succ_eq_append_getElem hk, List.getD_eq_getElem?_getD, List.getElem?_eq_getElem hk, Option.getD_some]
 rw [e, List.foldlM_append, h]
 simp only [Option.bind_eq_bind, Option.bind_some, List.foldlM_cons, hb, List.foldlM_nil]
 rfl
end Go.Proofs.Ytphmlndkjgldkaa
