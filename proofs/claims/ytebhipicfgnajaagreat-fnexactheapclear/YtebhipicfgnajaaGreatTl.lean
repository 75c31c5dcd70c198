/- The contracts of the program's headOf, limited, inLimits. No conditions. -/
import Derived.Test.YtebhipicfgnajaaGreatMgc
import Derived.Laws.StructEq
import Derived.Deep.RegionHeld3
namespace Go.Proofs.YtebhipicfgnajaaGreat
open Go.RowKit
set_option maxRecDepth 100000

set_option maxHeartbeats 1600000 in
theorem impl_headOf (A B K N : Int) (f : Nat) (ad : Option Addr) (n cap : Nat) (L M : Int) (h : Nat) (ad' : Option Addr) (m cap' : Nat) (w : World) :
    Calls Tryz.prog 135 #[.agg #[.int .i64 A, .int .i64 B, .int .i64 K, .int .i64 N, .float .f64 f, .slice ad n cap, .int .i64 L, .int .i64 M, .float .f64 h, .slice ad' m cap']] w fun e w' => e = .returned (.agg #[.int .i64 A, .int .i64 B]) ∧ Below w.heap.size w w' := by
  have HB := hid (two w (.cells #[.int .i64 A, .int .i64 B, .int .i64 K, .int .i64 N, .float .f64 f, .slice ad n cap, .int .i64 L, .int .i64 M, .float .f64 h, .slice ad' m cap'] 40) (.cells #[.int .i64 A, .int .i64 B] 153))
  have HR := hid (two_rows w (.cells #[.int .i64 A, .int .i64 B, .int .i64 K, .int .i64 N, .float .f64 f, .slice ad n cap, .int .i64 L, .int .i64 M, .float .f64 h, .slice ad' m cap'] 40) (.cells #[.int .i64 A, .int .i64 B] 153))
  go_enter Tryz.func135, Tryz.ntmps135
  go_wp2_with fail
  exact bodyPost_ret (results_cell_row Tryz.results135 _ _ (w.heap.size + 1) 153 _ (0, 0) _ rfl HR.out.2.1 Tryz.underlying153 rfl size_head) rfl ⟨rfl, HB.out⟩

set_option maxHeartbeats 1600000 in
theorem impl_limited (A B : Int) (w : World) :
    Calls Tryz.prog 170 #[.agg #[.int .i64 A, .int .i64 B]] w fun e w' => ∃ C D : Int, e = .returned (.agg #[.int .i64 C, .int .i64 D]) ∧ Hid (C = A ↔ 1 ≤ A ∧ A ≤ 400) ∧ Hid (D = B ↔ 0 ≤ B ∧ B ≤ 400) ∧ Below w.heap.size w w' := by
  go_enter Tryz.func170, Tryz.ntmps170
  go_wp2_with fail
  all_goals
    exact bodyPost_ret (results_cell_row Tryz.results170 _ _ (w.heap.size + 1) 153 _ (0, 0) _ rfl (two_rows w _ _).2.1 Tryz.underlying153 rfl size_head) rfl ⟨_, _, rfl, hid (by omega), hid (by omega), two w _ _⟩

set_option maxHeartbeats 1600000 in
theorem impl_inLimits (A B : Int) (w : World) :
    Calls Tryz.prog 136 #[.agg #[.int .i64 A, .int .i64 B]] w fun e w' => e = .returned (.bool (decide (1 ≤ A ∧ A ≤ 400 ∧ 0 ≤ B ∧ B ≤ 400))) ∧ Below w.heap.size w w' := by
  have HB := hid (Below.alloc1 w (.cells #[.int .i64 A, .int .i64 B] 153))
  have R := heap_alloc_new w (.cells #[.int .i64 A, .int .i64 B] 153)
  have d0 : (w.alloc (.cells #[.int .i64 A, .int .i64 B] 153)).cell? ⟨w.heap.size, 0, none⟩ = some (.int .i64 A) := by rw [cell_of_row _ _ _ _ _ _ R]; rfl
  have d1 : (w.alloc (.cells #[.int .i64 A, .int .i64 B] 153)).cell? ⟨w.heap.size, 1, none⟩ = some (.int .i64 B) := by rw [cell_of_row _ _ _ _ _ _ R]; rfl
  clear R
  by_cases h1 : 1 ≤ A ∧ A ≤ 400
  · by_cases h2 : 0 ≤ B ∧ B ≤ 400
    · rw [decide_eq_true (by omega)]
      go_enter Tryz.func136, Tryz.ntmps136
      go_wp2_with fail
      go_region_with (go_at_call 170; refine (impl_limited A B _).mono ?_; rintro e w6 ⟨C, D, rfl, H1, H2, b6⟩; obtain rfl := H1.out.2 h1; obtain rfl := H2.out.2 h2; have d60 := (b6.cell (p := ⟨w.heap.size, 0, none⟩) (by simp)).trans d0; have d61 := (b6.cell (p := ⟨w.heap.size, 1, none⟩) (by simp)).trans d1; have B6 := hid (HB.out.trans (((Still.drew _).below _).trans (b6.mono HB.out.size))); clear b6)
      all_goals
        go_wp2_with fail
        go_ret
        exact ⟨rfl, B6.out⟩
    · rw [decide_eq_false (by omega)]
      go_enter Tryz.func136, Tryz.ntmps136
      go_wp2_with fail
      go_region_with (go_at_call 170; refine (impl_limited A B _).mono ?_; rintro e w6 ⟨C, D, rfl, H1, H2, b6⟩; obtain rfl := H1.out.2 h1; have q0 : ¬ B = D := fun e => h2 (H2.out.1 e.symm); have q1 : (B == D) = false := beq_eq_false_iff_ne.2 q0; have d60 := (b6.cell (p := ⟨w.heap.size, 0, none⟩) (by simp)).trans d0; have d61 := (b6.cell (p := ⟨w.heap.size, 1, none⟩) (by simp)).trans d1; have B6 := hid (HB.out.trans (((Still.drew _).below _).trans (b6.mono HB.out.size))); clear b6)
      all_goals
        go_wp2_with fail
        go_ret
        exact ⟨rfl, B6.out⟩
  · rw [decide_eq_false (by omega)]
    go_enter Tryz.func136, Tryz.ntmps136
    go_wp2_with fail
    go_region_with (go_at_call 170; refine (impl_limited A B _).mono ?_; rintro e w6 ⟨C, D, rfl, H1, H2, b6⟩; have q0 : ¬ A = C := fun e => h1 (H1.out.1 e.symm); have q1 : (A == C) = false := beq_eq_false_iff_ne.2 q0; have d60 := (b6.cell (p := ⟨w.heap.size, 0, none⟩) (by simp)).trans d0; have d61 := (b6.cell (p := ⟨w.heap.size, 1, none⟩) (by simp)).trans d1; have B6 := hid (HB.out.trans (((Still.drew _).below _).trans (b6.mono HB.out.size))); clear b6)
    all_goals
      go_wp2_with fail
      go_ret
      exact ⟨rfl, B6.out⟩

set_option maxHeartbeats 3200000 in
theorem impl_TupleOk (A B K N : Int) (f : Nat) (ad : Option Addr) (n cap : Nat) (L M : Int) (h : Nat) (ad' : Option Addr) (m cap' : Nat) (hf : f < 18446744073709551616) (hh : h < 18446744073709551616) (hn : n ≤ 2097152) (hm : m ≤ 2097152) (w : World) :
    Calls Tryz.prog 83 #[.agg #[.int .i64 A, .int .i64 B, .int .i64 K, .int .i64 N, .float .f64 f, .slice ad n cap, .int .i64 L, .int .i64 M, .float .f64 h, .slice ad' m cap']] w fun e w' => e = .returned (.bool (okT A B K N f n L M h m)) ∧ Below w.heap.size w w' := by
  have hB := hid (BoxT.new w A B K N f ad n cap L M h ad' m cap' 40)
  have HB := hid (Below.alloc1 w (.cells #[.int .i64 A, .int .i64 B, .int .i64 K, .int .i64 N, .float .f64 f, .slice ad n cap, .int .i64 L, .int .i64 M, .float .f64 h, .slice ad' m cap'] 40))
  have i1 := impl_headOf A B K N f ad n cap L M h ad' m cap'
  have i2 := impl_inLimits A B
  have i3 := impl_KeyOk K N f ad n cap hf hn
  have i4 := impl_ItemOk L M h ad' m cap' hh hm
  unfold okT
  generalize decide (1 ≤ A ∧ A ≤ 400 ∧ 0 ≤ B ∧ B ≤ 400) = x2 at *
  generalize okK K N f n = x3 at *
  generalize okI L M h m = x4 at *
  generalize hx5 : decide (L ≠ 0) = x5
  go_enter Tryz.func83, Tryz.ntmps83
  go_wp2_with fail
  refine (i1 _).mono ?_
  rintro e w1 ⟨rfl, b1⟩
  replace hB := hid (hB.out.below b1 (Nat.le_refl _))
  replace HB := hid (HB.out.trans (b1.mono HB.out.size))
  clear b1 i1
  go_wp2_with fail
  refine (i2 _).mono ?_
  rintro e w2 ⟨rfl, b1⟩
  obtain ⟨c0, c1, c2, c3, c4, c5, c6, c7, c8, c9⟩ := hB.out.below b1 (Nat.le_refl _)
  replace hB := hid (hB.out.below b1 (Nat.le_refl _))
  replace HB := hid (HB.out.trans (b1.mono HB.out.size))
  clear b1 i2
  cases x2
  · go_wp2_with fail
    go_ret
    exact ⟨rfl, HB.out⟩
  go_wp2_with fail
  refine (i3 _).mono ?_
  rintro e w3 ⟨rfl, b1⟩
  clear c0 c1 c2 c3 c4 c5 c6 c7 c8 c9 i3
  obtain ⟨c0, c1, c2, c3, c4, c5, c6, c7, c8, c9⟩ := hB.out.below b1 (Nat.le_refl _)
  replace hB := hid (hB.out.below b1 (Nat.le_refl _))
  replace HB := hid (HB.out.trans (b1.mono HB.out.size))
  clear b1
  cases x3
  · go_wp2_with fail
    go_ret
    exact ⟨rfl, HB.out⟩
  go_wp2_with fail
  refine (i4 _).mono ?_
  rintro e w4 ⟨rfl, b1⟩
  clear c0 c1 c2 c3 c4 c5 c6 c7 c8 c9 i4
  obtain ⟨c0, c1, c2, c3, c4, c5, c6, c7, c8, c9⟩ := hB.out.below b1 (Nat.le_refl _)
  replace HB := hid (HB.out.trans (b1.mono HB.out.size))
  clear b1
  cases x4
  · go_wp2_with fail
    go_ret
    exact ⟨rfl, HB.out⟩
  have q : (L != 0) = x5 := by rw [← hx5]; by_cases h0 : L = 0 <;> simp [h0]
  clear hx5
  go_wp2_with fail
  go_ret
  exact ⟨rfl, HB.out⟩
end Go.Proofs.YtebhipicfgnajaaGreat
