/- Logs as bytes, plain. No conditions. -/
import Derived.Test.YtdlddgejpcbofaaRl
namespace Go.Proofs.Ytdlddgejpcbofaa
open Go.RowKit
set_option maxRecDepth 100000

def bytesL (rs : List Rc) : List Int := (rs.map bytesR).flatten
def logB (rs : List Rc) : List Int × Bool := if rs.all okR = true ∧ (bytesL rs).length ≤ 65536 then (bytesL rs, true) else ([], false)
theorem bytesL_step (rs : List Rc) (k : Nat) (h : k < rs.length) : bytesL (rs.take (k + 1)) = bytesL (rs.take k) ++ bytesR (rs.getD k r0) := by
  unfold bytesL
  rw [takeR_snoc rs k h, List.map_append, List.flatten_append]
  simp
theorem bytesL_take (rs : List Rc) (k : Nat) : (bytesL (rs.take k)).length ≤ (bytesL rs).length := by
  have : bytesL rs = bytesL (rs.take k) ++ bytesL (rs.drop k) := by unfold bytesL; rw [← List.flatten_append, ← List.map_append, List.take_append_drop]
  rw [this, List.length_append]; omega
theorem all_step (rs : List Rc) (k : Nat) (h : k < rs.length) : (rs.take (k + 1)).all okR = ((rs.take k).all okR && okR (rs.getD k r0)) := by
  rw [takeR_snoc rs k h, List.all_append]; simp
theorem logB_big {rs : List Rc} (k : Nat) (h : 65536 < (bytesL (rs.take k)).length) : logB rs = ([], false) := by
  have := bytesL_take rs k
  unfold logB; rw [if_neg (by omega)]
theorem logB_no {rs : List Rc} {k : Nat} (h : k < rs.length) (h' : okR (rs.getD k r0) = false) : logB rs = ([], false) := by
  unfold logB
  rw [if_neg]
  intro e
  have := List.all_eq_true.1 e.1 (rs.getD k r0) (by simp [List.getD, h])
  rw [h'] at this; cases this
theorem logB_yes {rs : List Rc} (h : rs.all okR = true) (h' : (bytesL rs).length ≤ 65536) : logB rs = (bytesL rs, true) := by unfold logB; rw [if_pos ⟨h, h'⟩]
theorem bytesL_bd {rs : List Rc} (h : ∀ r ∈ rs, bdL r.D) : bdL (bytesL rs) := by
  induction rs with
  | nil => intro i; simp [bytesL]
  | cons r rs ih =>
    have : bytesL (r :: rs) = bytesR r ++ bytesL rs := by simp [bytesL]
    rw [this]
    exact bd_append (bytesR_bd (h r (by simp))) (ih (fun q hq => h q (by simp [hq])))
theorem bytesR_zero {r : Rc} (hb : bdL r.D) : (bytesR r).length = 0 ↔ okR r = false := by
  constructor
  · intro h
    cases hk : okR r
    · rfl
    · have := bytesR_len hk hb; omega
  · intro h; rw [bytesR_no h]; rfl
end Go.Proofs.Ytdlddgejpcbofaa
