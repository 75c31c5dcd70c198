/- The contract of the specification's TrackReads. Conditions: texts of at most 2^21 bytes, at most 2^21 reads. -/
import Derived.Test.YtecdnheopmojfaaGreatEj13
import Derived.Test.YtecdnheopmojfaaGreatMga
namespace Go.Proofs.YtecdnheopmojfaaGreat
open Go.RowKit
set_option maxRecDepth 100000
theorem any_none {rs : List (Im × Im)} {x : Im} (h : ∀ i, i < rs.length → inM (rs.getD i sp0) x = false) : rs.any (fun p => inM p x) = false := by
 rw [List.any_eq_false]
 intro p hp
 obtain ⟨i, hi, rfl⟩ := List.getElem_of_mem hp
 have := h i hi
 rw [show rs.getD i sp0 = rs[i] by simp [List.getD, hi]] at this
 rw [this]; simp
theorem any_one {rs : List (Im × Im)} {x : Im} {i : Nat} (hi : i < rs.length) (h : inM (rs.getD i sp0) x = true) : rs.any (fun p => inM p x) = true := by
 rw [List.any_eq_true]
 refine ⟨rs[i], List.getElem_mem hi, ?_⟩
 rw [show rs.getD i sp0 = rs[i] by simp [List.getD, hi]] at h
 exact h
end Go.Proofs.YtecdnheopmojfaaGreat