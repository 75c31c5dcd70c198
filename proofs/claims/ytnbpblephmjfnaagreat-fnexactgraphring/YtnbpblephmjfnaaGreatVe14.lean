/- The order of pairs and the sort of a row of pairs. Conditions: none. -/
import Derived.Test.YtnbpblephmjfnaaGreatHf14
import Derived.Test.YtnbpblephmjfnaaGreatVc14
namespace Go.Proofs.YtnbpblephmjfnaaGreat
open Go.RowKit
set_option maxRecDepth 100000
def ltP (x y : Pr) : Prop := x.1 < y.1 ∨ (x.1 = y.1 ∧ x.2 < y.2)
theorem rowE_asc (ts : List Tk) (i m : Nat) : (rowE ts i m).Pairwise ltP := by
 unfold rowE
 rw [List.pairwise_map]
 exact List.Pairwise.imp (fun {a b} h => .inr ⟨rfl, h⟩) (List.Pairwise.filter _ List.pairwise_lt_range)
theorem prE_asc (ts : List Tk) (n : Nat) : ∀ m, (prE ts n m).Pairwise ltP
 | 0 => by simp [prE]
 | m + 1 => by
  rw [prE_succ, List.pairwise_append]
  refine ⟨prE_asc ts n m, rowE_asc ts m n, fun x hx y hy => ?_⟩
  have hx1 : x.1 < m := by
   unfold prE rowE at hx
   simp only [List.mem_flatMap, List.mem_map, List.mem_range] at hx
   obtain ⟨i, hi, j, _, rfl⟩ := hx
   exact hi
  have hy1 : y.1 = m := by
   unfold rowE at hy
   simp only [List.mem_map] at hy
   obtain ⟨j, _, rfl⟩ := hy
   rfl
  exact .inl (by omega)
end Go.Proofs.YtnbpblephmjfnaaGreat
