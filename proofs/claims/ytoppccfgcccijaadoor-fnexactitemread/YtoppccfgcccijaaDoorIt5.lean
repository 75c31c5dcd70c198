/- Texts compared: the contract of the specification's l3texts. Conditions: texts of at most 2^21 bytes. -/
import Derived.Test.YtoppccfgcccijaaDoorIt4
namespace Go.Proofs.YtoppccfgcccijaaDoor
open Go.RowKit

/-- How two texts stand. -/
def txt : List Int → List Int → Int
  | [], [] => 0
  | [], _ :: _ => -1
  | _ :: _, [] => 1
  | x :: xs, y :: ys => if x < y then -1 else if y < x then 1 else txt xs ys

theorem drop_cons (zs : List Int) (k : Nat) (h : k < zs.length) : zs.drop k = zs.getD k 0 :: zs.drop (k + 1) := by
  rw [List.drop_eq_getElem_cons h]
  simp [List.getD, h]
theorem txt_step (zs ys : List Int) (k : Nat) (h : k < zs.length) (h' : k < ys.length) :
    txt (zs.drop k) (ys.drop k) = if zs.getD k 0 < ys.getD k 0 then -1 else if ys.getD k 0 < zs.getD k 0 then 1 else txt (zs.drop (k + 1)) (ys.drop (k + 1)) := by
  rw [drop_cons zs k h, drop_cons ys k h']
  rfl
theorem txt_end (zs ys : List Int) (k : Nat) (hk : k ≤ zs.length) (hk' : k ≤ ys.length) (h : k = zs.length ∨ k = ys.length) :
    txt (zs.drop k) (ys.drop k) = if zs.length < ys.length then -1 else if ys.length < zs.length then 1 else 0 := by
  by_cases h1 : k = zs.length
  · subst h1
    rw [List.drop_length]
    by_cases h2 : zs.length < ys.length
    · rw [if_pos h2, drop_cons ys _ h2]; rfl
    · rw [if_neg h2, if_neg (by omega), List.drop_eq_nil_of_le (by omega)]; rfl
  · have h2 : k = ys.length := by omega
    subst h2
    rw [List.drop_length, if_neg (by omega), if_pos (by omega), drop_cons zs _ (by omega)]; rfl

/-- How two items stand. -/
def cmpI (K N : Int) (f n : Nat) (zs : List Int) (K' N' : Int) (f' n' : Nat) (zs' : List Int) : Int :=
  if okI K N f n = false ∨ okI K' N' f' n' = false then -2
  else if K ≠ K' then (if K < K' then -1 else 1)
  else if N ≠ N' then (if N < N' then -1 else 1)
  else if cmp3 (frank f) (frank f') ≠ 0 then cmp3 (frank f) (frank f')
  else txt zs zs'

end Go.Proofs.YtoppccfgcccijaaDoor
