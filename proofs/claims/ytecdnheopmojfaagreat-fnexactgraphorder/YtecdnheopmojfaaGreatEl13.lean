/- Tracks that are right, plain, and the contract of the specification's TracksOk. Conditions: texts of at most 2^21 bytes. -/
import Derived.Test.YtecdnheopmojfaaGreatEk13
namespace Go.Proofs.YtecdnheopmojfaaGreat
open Go.RowKit
set_option maxRecDepth 100000
def trackB (t : Tk) : Bool := decide (1 ≤ t.xid ∧ t.xid ≤ 400) && (decide (1 ≤ t.begun) && (decide (t.ended = 0 ∨ t.begun < t.ended) && (decide (t.rs.length ≤ 6) && (decide (t.all = false ∨ t.rs.length = 0) && (decide (t.ws.length ≤ 200) && (t.rs.all spB && t.ws.all okM))))))
def okTs (ts : List Tk) : Prop := ts.length ≤ 64 ∧ ∀ i, i < ts.length → trackB (ts.getD i tk0) = true ∧ ∀ k, k < i → (ts.getD k tk0).xid ≠ (ts.getD i tk0).xid
open Classical in
noncomputable def tracksB (ts : List Tk) : Bool := decide (okTs ts)
theorem all_sp {rs : List (Im × Im)} (h : ∀ i, i < rs.length → spB (rs.getD i sp0) = true) : rs.all spB = true := by
 rw [List.all_eq_true]
 intro p hp
 obtain ⟨i, hi, rfl⟩ := List.getElem_of_mem hp
 have := h i hi
 rwa [show rs.getD i sp0 = rs[i] by simp [List.getD, hi]] at this
theorem all_sp_no {rs : List (Im × Im)} {i : Nat} (hi : i < rs.length) (h : spB (rs.getD i sp0) = false) : rs.all spB = false := by
 rw [List.all_eq_false]
 refine ⟨rs[i], List.getElem_mem hi, ?_⟩
 rw [show rs.getD i sp0 = rs[i] by simp [List.getD, hi]] at h
 rw [h]; simp
theorem all_im {ws : List Im} (h : ∀ i, i < ws.length → okM (ws.getD i im0) = true) : ws.all okM = true := by
 rw [List.all_eq_true]
 intro p hp
 obtain ⟨i, hi, rfl⟩ := List.getElem_of_mem hp
 have := h i hi
 rwa [show ws.getD i im0 = ws[i] by simp [List.getD, hi]] at this
theorem all_im_no {ws : List Im} {i : Nat} (hi : i < ws.length) (h : okM (ws.getD i im0) = false) : ws.all okM = false := by
 rw [List.all_eq_false]
 refine ⟨ws[i], List.getElem_mem hi, ?_⟩
 rw [show ws.getD i im0 = ws[i] by simp [List.getD, hi]] at h
 rw [h]; simp
def smT (ts : List Tk) : Prop := ∀ i, (∀ j, ((fl2 (ts.getD i tk0).rs).getD j im0).Z.length ≤ 2097152) ∧ (∀ j, ((ts.getD i tk0).ws.getD j im0).Z.length ≤ 2097152)
end Go.Proofs.YtecdnheopmojfaaGreat