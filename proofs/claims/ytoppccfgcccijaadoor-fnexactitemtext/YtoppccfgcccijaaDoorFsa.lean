/- One float, all NaNs being one. No statement of its own; no conditions. -/
import Derived.Test.YtoppccfgcccijaaDoorMga
namespace Go.Proofs.YtoppccfgcccijaaDoor

/-- One float, all NaNs being one. -/
def Same (x y : Nat) : Prop := (isN x = true ∧ isN y = true) ∨ (isN x = false ∧ y = x)
theorem Same.refl (x : Nat) : Same x x := by
  by_cases h : isN x = true
  · exact .inl ⟨h, h⟩
  · exact .inr ⟨by simpa using h, rfl⟩
theorem Same.symm {x y : Nat} (h : Same x y) : Same y x := by
  rcases h with ⟨a, b⟩ | ⟨a, rfl⟩
  · exact .inl ⟨b, a⟩
  · exact .inr ⟨a, rfl⟩
theorem Same.trans {x y z : Nat} (h : Same x y) (k : Same y z) : Same x z := by
  rcases h with ⟨a, b⟩ | ⟨a, rfl⟩
  · rcases k with ⟨c, d⟩ | ⟨c, rfl⟩
    · exact .inl ⟨a, d⟩
    · rw [b] at c; cases c
  · exact k
end Go.Proofs.YtoppccfgcccijaaDoor
