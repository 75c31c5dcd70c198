/- Small facts for the walks of the laws of EdgeBegin and the like. No conditions. -/
import Derived.Test.YtnhlfkffllbpiaaEp13
namespace Go.Proofs.Ytnhlfkffllbpiaa
open Go.RowKit
set_option maxRecDepth 100000

theorem lnT_of {ts : List Tk} (h : sumT ts ≤ 1048576) : lnT ts := by
  intro i
  have h1 := szT_at ts i
  unfold szT at h1
  omega
theorem begin_small {ts : List Tk} (x y : Int) (hn : ts.length ≤ 1048576) (hs : sumT ts ≤ 1048576) : (beginS ts x y).length ≤ 1048577 ∧ sumT (beginS ts x y) ≤ 1048576 := by
  unfold beginS
  split
  · rw [List.length_append, sumT_app]
    have : sumT [newT x y] = 0 := by simp [sumT, szT, newT, fl2, sumI]
    rw [this]
    simp only [List.length_singleton]
    omega
  · simp [sumT]
end Go.Proofs.Ytnhlfkffllbpiaa
