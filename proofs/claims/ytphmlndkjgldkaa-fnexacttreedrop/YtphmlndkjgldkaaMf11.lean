/- The Ids of the entries with a key: plain, and the program's TreeFind. Conditions: texts of at most 2^21 bytes. -/
import Derived.Test.YtphmlndkjgldkaaMe11
import Derived.Maps.AppendAt
namespace Go.Proofs.Ytphmlndkjgldkaa
open Go.RowKit
set_option maxRecDepth 100000
theorem txt_anti11 : ∀ (zs ys : List Int), txt ys zs = - txt zs ys
 | [], [] => rfl
 | [], _ :: _ => rfl
 | _ :: _, [] => rfl
 | x :: xs, y :: ys => by
  have ih := txt_anti11 xs ys
  rw [txt, txt]
  by_cases h1 : x < y
  · rw [if_neg (by omega), if_pos h1, if_pos h1]; rfl
  · by_cases h2 : y < x
    · rw [if_pos h2, if_neg h1, if_pos h2]
    · rw [if_neg h2, if_neg h1, if_neg h1, if_neg h2, ih]
theorem cmpI_of11 (K N K' N' : Int) (f f' n n' : Nat) (zs zs' : List Int) (h : okI K N f n = true) (h' : okI K' N' f' n' = true) : cmpI K N f n zs K' N' f' n' zs' = (if K ≠ K' then (if K < K' then -1 else 1) else if N ≠ N' then (if N < N' then -1 else 1) else if cmp3 (frank f) (frank f') ≠ 0 then cmp3 (frank f) (frank f') else txt zs zs') := by
 unfold cmpI
 rw [if_neg (by rw [h, h']; simp)]
end Go.Proofs.Ytphmlndkjgldkaa
