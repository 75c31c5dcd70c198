/- The contracts of TreeNew, the specification's and the program's. No conditions. -/
import Derived.Test.YtnjofaiekofamaaKh11
namespace Go.Proofs.Ytnjofaiekofamaa
open Go.RowKit
set_option maxRecDepth 100000

/-- The tree of one leaf. -/
def leaf0 : List Nd := [⟨true, [], []⟩]
theorem own_leaf {w : World} {lo hi g : Nat} (hr : w.heap[g]? = some (.cells #[.bool true, .slice none 0 0, .slice none 0 0] 67 (0, 0))) (h1 : lo ≤ g) (h2 : g < hi) : OwnD w lo hi (.slice (some ⟨g, 0, none⟩) 1 1) leaf0 := by
  have ow : w.ownsRow lo 67 3 (.slice (some ⟨g, 0, none⟩) 1 1) 1 (cellsD leaf0 [nilP]) := ⟨rfl, .inr ⟨g, 1, #[.bool true, .slice none 0 0, .slice none 0 0], rfl, h1, hr, Nat.le_refl _, by unfold maxLen; omega, rfl, rfl⟩⟩
  refine ⟨⟨[nilP], [(hi, hi)], ow, ⟨rfl, rfl, fun i hi' => ?_, fun i hi' => ?_, fun i j hi' hj' hne => ?_⟩, fun i hi' q hq => ?_⟩, fun q hq => ?_⟩
  · have : i = 0 := by simp [leaf0] at hi'; omega
    subst this
    exact ⟨hi, Nat.le_refl _, Nat.le_refl _, OwnE.nil _ _ _, OwnK.nil _ _ _⟩
  · have : i = 0 := by simp [leaf0] at hi'; omega
    subst this
    simp; omega
  · simp [leaf0] at hi' hj'; omega
  · have : i = 0 := by simp [leaf0] at hi'; omega
    subst this
    have : q = g := by simpa [Value.ownBlock] using hq.symm
    simp; omega
  · have : q = g := by simpa [Value.ownBlock] using hq.symm
    omega

set_option maxHeartbeats 1600000 in
theorem spec_TreeNew (w : World) :
    Calls Try.prog 26 #[] w fun e w' => ∃ g, e = .returned (.agg #[.slice (some ⟨g, 0, none⟩) 1 1, .int .i64 0]) ∧ OwnD w' w.heap.size w'.heap.size (.slice (some ⟨g, 0, none⟩) 1 1) leaf0 ∧ Below w.heap.size w w' := by
  obtain ⟨R1, R2, z⟩ := two_rows11 w (.cells #[.slice none 0 0, .int .i64 0] 26) (.cells #[.bool true, .slice none 0 0, .slice none 0 0] 67)
  have bU := two w (.cells #[.slice none 0 0, .int .i64 0] 26) (.cells #[.bool true, .slice none 0 0, .slice none 0 0] 67)
  have H1 := hid R1
  have H2 := hid R2
  have HZ := hid z
  have HB := hid bU
  clear R1 R2 z bU
  go_enter Try.func26, Try.ntmps26
  go_wp2_with (refine wpList_store_row rfl 26 (.tmp 0) _ rfl w.heap.size #[(.slice (some ⟨w.heap.size + 1, 0, none⟩) 1 1), .int .i64 0] rfl rfl 26 _ H1.out ?s1 ?s2 ?s3 ?_)
  case s1 => simpa using size_tr
  try case s2 => rfl
  case s3 => simp [Value.oneCell']
  have hz := HZ.out
  have g1 := row_grown11 ((w.alloc (.cells #[.slice none 0 0, .int .i64 0] 26)).alloc (.cells #[.bool true, .slice none 0 0, .slice none 0 0] 67)) w.heap.size #[(.slice (some ⟨w.heap.size + 1, 0, none⟩) 1 1), .int .i64 0]
  refine bodyPost_ret (results_cell_row Try.results26 _ _ w.heap.size 26 _ (0, 0) _ rfl (setRow_heap _ _ _ _ _ _ H1.out) Try.underlying26 rfl size_tr) rfl ⟨w.heap.size + 1, rfl, own_leaf ((g1.block _ (by omega) (by simp)).trans H2.out) (by omega) (by have := g1.size; omega), below_setRow HB.out (Nat.le_refl _) _⟩

set_option maxHeartbeats 1600000 in
theorem impl_TreeNew (w : World) :
    Calls Try.prog 12 #[] w fun e w' => ∃ g, e = .returned (.agg #[.slice (some ⟨g, 0, none⟩) 1 1, .int .i64 0]) ∧ OwnD w' w.heap.size w'.heap.size (.slice (some ⟨g, 0, none⟩) 1 1) leaf0 ∧ Below w.heap.size w w' := by
  obtain ⟨R1, R2, z⟩ := two_rows11 w (.cells #[.slice none 0 0, .int .i64 0] 26) (.cells #[.bool true, .slice none 0 0, .slice none 0 0] 67)
  have bU := two w (.cells #[.slice none 0 0, .int .i64 0] 26) (.cells #[.bool true, .slice none 0 0, .slice none 0 0] 67)
  have H1 := hid R1
  have H2 := hid R2
  have HZ := hid z
  have HB := hid bU
  clear R1 R2 z bU
  go_enter Try.func12, Try.ntmps12
  go_wp2_with (refine wpList_store_row rfl 26 (.tmp 0) _ rfl w.heap.size #[(.slice (some ⟨w.heap.size + 1, 0, none⟩) 1 1), .int .i64 0] rfl rfl 26 _ H1.out ?s1 ?s2 ?s3 ?_)
  case s1 => simpa using size_tr
  try case s2 => rfl
  case s3 => simp [Value.oneCell']
  have hz := HZ.out
  have g1 := row_grown11 ((w.alloc (.cells #[.slice none 0 0, .int .i64 0] 26)).alloc (.cells #[.bool true, .slice none 0 0, .slice none 0 0] 67)) w.heap.size #[(.slice (some ⟨w.heap.size + 1, 0, none⟩) 1 1), .int .i64 0]
  refine bodyPost_ret (results_cell_row Try.results12 _ _ w.heap.size 26 _ (0, 0) _ rfl (setRow_heap _ _ _ _ _ _ H1.out) Try.underlying26 rfl size_tr) rfl ⟨w.heap.size + 1, rfl, own_leaf ((g1.block _ (by omega) (by simp)).trans H2.out) (by omega) (by have := g1.size; omega), below_setRow HB.out (Nat.le_refl _) _⟩

end Go.Proofs.Ytnjofaiekofamaa
