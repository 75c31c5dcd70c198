/- The contracts of l5in, headOf, limited, inLimits and of both TupleOk. Conditions: texts of at most 2^21 bytes. -/
import Derived.Test.YtebhipicfgnajaaTp
import Derived.Test.YtebhipicfgnajaaTb
import Derived.Test.YtebhipicfgnajaaMgb
namespace Go.Proofs.Ytebhipicfgnajaa
open Go.RowKit
set_option maxRecDepth 100000

theorem size_tup : (Try.prog.info? 43).map (·.size) = some 10 := by kernel_rfl
theorem size_head : (Try.prog.info? 103).map (·.size) = some 2 := by kernel_rfl

theorem spec_in (n lo hi : Int) (w : World) : Calls Try.prog 38 #[.int .i64 n, .int .i64 lo, .int .i64 hi] w fun e w' => e = .returned (.bool (decide (lo ≤ n ∧ n ≤ hi))) ∧ w' = w := by
  by_cases h1 : lo ≤ n
  · by_cases h2 : n ≤ hi
    · rw [decide_eq_true ⟨h1, h2⟩]
      go_enter Try.func38, Try.ntmps38
      go_wp2
      go_ret
      exact ⟨rfl, rfl⟩
    · rw [decide_eq_false (by omega)]
      go_enter Try.func38, Try.ntmps38
      go_wp2
      go_ret
      exact ⟨rfl, rfl⟩
  · rw [decide_eq_false (by omega)]
    go_enter Try.func38, Try.ntmps38
    go_wp2
    go_ret
    exact ⟨rfl, rfl⟩

set_option maxHeartbeats 1600000 in
theorem spec_TupleOk (A B K N : Int) (f : Nat) (ad : Option Addr) (n cap : Nat) (L M : Int) (h : Nat) (ad' : Option Addr) (m cap' : Nat) (hf : f < 18446744073709551616) (hh : h < 18446744073709551616) (hn : n ≤ 2097152) (hm : m ≤ 2097152) (w : World) :
    Calls Try.prog 69 #[.agg #[.int .i64 A, .int .i64 B, .int .i64 K, .int .i64 N, .float .f64 f, .slice ad n cap, .int .i64 L, .int .i64 M, .float .f64 h, .slice ad' m cap']] w fun e w' => e = .returned (.bool (okT A B K N f n L M h m)) ∧ Below w.heap.size w w' := by
  have hB := hid (BoxT.new w A B K N f ad n cap L M h ad' m cap' 43)
  have HB := hid (Below.alloc1 w (.cells #[.int .i64 A, .int .i64 B, .int .i64 K, .int .i64 N, .float .f64 f, .slice ad n cap, .int .i64 L, .int .i64 M, .float .f64 h, .slice ad' m cap'] 43))
  have i1 := spec_in A 1 400
  have i2 := spec_in B 0 400
  have i3 := spec_KeyOk K N f ad n cap hf hn
  have i4 := spec_ItemOk L M h ad' m cap' hh hm
  have e : okT A B K N f n L M h m = (decide (1 ≤ A ∧ A ≤ 400) && (decide (0 ≤ B ∧ B ≤ 400) && (okK K N f n && (okI L M h m && decide (L ≠ 0))))) := by
    unfold okT
    by_cases h1 : 1 ≤ A ∧ A ≤ 400 <;> by_cases h2 : 0 ≤ B ∧ B ≤ 400 <;> simp [h1, h2]
  rw [e]
  clear e
  generalize decide (1 ≤ A ∧ A ≤ 400) = x1 at *
  generalize decide (0 ≤ B ∧ B ≤ 400) = x2 at *
  generalize okK K N f n = x3 at *
  generalize okI L M h m = x4 at *
  generalize hx5 : decide (L ≠ 0) = x5
  go_enter Try.func69, Try.ntmps69
  go_wp2_with fail
  refine (i1 _).mono ?_
  rintro e w1 ⟨rfl, h1⟩
  subst w1
  obtain ⟨c0, c1, c2, c3, c4, c5, c6, c7, c8, c9⟩ := hB.out
  clear i1
  cases x1
  · go_wp2_with fail
    go_ret
    exact ⟨rfl, HB.out⟩
  go_wp2_with fail
  refine (i2 _).mono ?_
  rintro e w1 ⟨rfl, h1⟩
  subst w1
  clear i2
  cases x2
  · go_wp2_with fail
    go_ret
    exact ⟨rfl, HB.out⟩
  go_wp2_with fail
  refine (i3 _).mono ?_
  rintro e w1 ⟨rfl, b1⟩
  clear c0 c1 c2 c3 c4 c5 c6 c7 c8 c9 i3
  obtain ⟨c0, c1, c2, c3, c4, c5, c6, c7, c8, c9⟩ := hB.out.below b1 (Nat.le_refl _)
  replace hB := hid (hB.out.below b1 (Nat.le_refl _))
  replace HB := hid (HB.out.trans (b1.mono HB.out.size))
  clear b1
  cases x3
  · go_wp2_with fail
    go_ret
    exact ⟨rfl, HB.out⟩
  go_wp2_with fail
  refine (i4 _).mono ?_
  rintro e w2 ⟨rfl, b1⟩
  clear c0 c1 c2 c3 c4 c5 c6 c7 c8 c9 i4
  obtain ⟨c0, c1, c2, c3, c4, c5, c6, c7, c8, c9⟩ := hB.out.below b1 (Nat.le_refl _)
  replace HB := hid (HB.out.trans (b1.mono HB.out.size))
  clear b1
  cases x4
  · go_wp2_with fail
    go_ret
    exact ⟨rfl, HB.out⟩
  have q : (L != 0) = x5 := by rw [← hx5]; by_cases h0 : L = 0 <;> simp [h0]
  clear hx5
  go_wp2_with fail
  go_ret
  exact ⟨rfl, HB.out⟩
end Go.Proofs.Ytebhipicfgnajaa
