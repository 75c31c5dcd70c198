/- Serial orders, plain: what the specification looks at is what the order of turns says. No program; the deeds are right. -/
import Derived.Test.YtecdnheopmojfaaGreatHx14
namespace Go.Proofs.YtecdnheopmojfaaGreat
open Go.RowKit
set_option maxRecDepth 100000
theorem hasM_wr {t : Tk} {x : Im} (h : ∀ y ∈ t.ws, okM y = true) (hx : okM x = true) : hasM t.ws x = wrB t x := by
 unfold hasM wrB anyS dupM
 rw [List.any_map, Bool.eq_iff_iff, List.any_eq_true, List.any_eq_true]
 have key : ∀ y ∈ t.ws, (decide (cmpM y x = 0) = true ↔ inM (y, y) x = true) := by
  intro y hy
  have oy := h y hy
  rw [inM_iff oy oy hx, decide_eq_true_iff, decide_eq_true_iff]
  have := cmpM_anti oy hx
  show cmpM y x = 0 ↔ cmpM y x ≤ 0 ∧ cmpM x y ≤ 0
  constructor
  · intro e; exact ⟨by omega, by omega⟩
  · rintro ⟨e1, e2⟩; omega
 exact ⟨fun ⟨y, hy, q⟩ => ⟨y, hy, (key y hy).1 q⟩, fun ⟨y, hy, q⟩ => ⟨y, hy, (key y hy).2 q⟩⟩
section
variable {O : List Int} {n : Nat} (ho : isOrd O n)
include ho
end
end Go.Proofs.YtecdnheopmojfaaGreat
