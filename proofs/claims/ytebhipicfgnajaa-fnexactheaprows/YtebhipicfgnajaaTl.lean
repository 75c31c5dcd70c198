/- The contracts of the program's headOf, limited, inLimits. No conditions. -/
import Derived.Test.YtebhipicfgnajaaTo
import Derived.Test.YtebhipicfgnajaaMgb
import Derived.Laws.StructEq
import Derived.Deep.RegionHeld3
namespace Go.Proofs.Ytebhipicfgnajaa
open Go.RowKit
set_option maxRecDepth 100000

set_option maxHeartbeats 1600000 in
theorem impl_limited (A B : Int) (w : World) :
    Calls Try.prog 89 #[.agg #[.int .i64 A, .int .i64 B]] w fun e w' => ∃ C D : Int, e = .returned (.agg #[.int .i64 C, .int .i64 D]) ∧ Hid (C = A ↔ 1 ≤ A ∧ A ≤ 400) ∧ Hid (D = B ↔ 0 ≤ B ∧ B ≤ 400) ∧ Below w.heap.size w w' := by
  go_enter Try.func89, Try.ntmps89
  go_wp2_with fail
  all_goals
    exact bodyPost_ret (results_cell_row Try.results89 _ _ (w.heap.size + 1) 103 _ (0, 0) _ rfl (two_rows w _ _).2.1 Try.underlying103 rfl size_head) rfl ⟨_, _, rfl, hid (by omega), hid (by omega), two w _ _⟩

set_option maxHeartbeats 1600000 in
theorem impl_inLimits (A B : Int) (w : World) :
    Calls Try.prog 77 #[.agg #[.int .i64 A, .int .i64 B]] w fun e w' => e = .returned (.bool (decide (1 ≤ A ∧ A ≤ 400 ∧ 0 ≤ B ∧ B ≤ 400))) ∧ Below w.heap.size w w' := by
  have HB := hid (Below.alloc1 w (.cells #[.int .i64 A, .int .i64 B] 103))
  have R := heap_alloc_new w (.cells #[.int .i64 A, .int .i64 B] 103)
  have d0 : (w.alloc (.cells #[.int .i64 A, .int .i64 B] 103)).cell? ⟨w.heap.size, 0, none⟩ = some (.int .i64 A) := by rw [cell_of_row _ _ _ _ _ _ R]; rfl
  have d1 : (w.alloc (.cells #[.int .i64 A, .int .i64 B] 103)).cell? ⟨w.heap.size, 1, none⟩ = some (.int .i64 B) := by rw [cell_of_row _ _ _ _ _ _ R]; rfl
  clear R
  by_cases h1 : 1 ≤ A ∧ A ≤ 400
  · by_cases h2 : 0 ≤ B ∧ B ≤ 400
    · rw [decide_eq_true (by omega)]
      go_enter Try.func77, Try.ntmps77
      go_wp2_with fail
      go_region_with (go_at_call 89; refine (impl_limited A B _).mono ?_; rintro e w6 ⟨C, D, rfl, H1, H2, b6⟩; obtain rfl := H1.out.2 h1; obtain rfl := H2.out.2 h2; have d60 := (b6.cell (p := ⟨w.heap.size, 0, none⟩) (by simp)).trans d0; have d61 := (b6.cell (p := ⟨w.heap.size, 1, none⟩) (by simp)).trans d1; have B6 := hid (HB.out.trans (((Still.drew _).below _).trans (b6.mono HB.out.size))); clear b6)
      all_goals
        go_wp2_with fail
        go_ret
        exact ⟨rfl, B6.out⟩
    · rw [decide_eq_false (by omega)]
      go_enter Try.func77, Try.ntmps77
      go_wp2_with fail
      go_region_with (go_at_call 89; refine (impl_limited A B _).mono ?_; rintro e w6 ⟨C, D, rfl, H1, H2, b6⟩; obtain rfl := H1.out.2 h1; have q0 : ¬ B = D := fun e => h2 (H2.out.1 e.symm); have q1 : (B == D) = false := beq_eq_false_iff_ne.2 q0; have d60 := (b6.cell (p := ⟨w.heap.size, 0, none⟩) (by simp)).trans d0; have d61 := (b6.cell (p := ⟨w.heap.size, 1, none⟩) (by simp)).trans d1; have B6 := hid (HB.out.trans (((Still.drew _).below _).trans (b6.mono HB.out.size))); clear b6)
      all_goals
        go_wp2_with fail
        go_ret
        exact ⟨rfl, B6.out⟩
  · rw [decide_eq_false (by omega)]
    go_enter Try.func77, Try.ntmps77
    go_wp2_with fail
    go_region_with (go_at_call 89; refine (impl_limited A B _).mono ?_; rintro e w6 ⟨C, D, rfl, H1, H2, b6⟩; have q0 : ¬ A = C := fun e => h1 (H1.out.1 e.symm); have q1 : (A == C) = false := beq_eq_false_iff_ne.2 q0; have d60 := (b6.cell (p := ⟨w.heap.size, 0, none⟩) (by simp)).trans d0; have d61 := (b6.cell (p := ⟨w.heap.size, 1, none⟩) (by simp)).trans d1; have B6 := hid (HB.out.trans (((Still.drew _).below _).trans (b6.mono HB.out.size))); clear b6)
    all_goals
      go_wp2_with fail
      go_ret
      exact ⟨rfl, B6.out⟩

end Go.Proofs.Ytebhipicfgnajaa
