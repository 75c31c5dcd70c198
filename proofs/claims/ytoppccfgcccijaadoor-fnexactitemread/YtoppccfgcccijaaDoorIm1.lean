/- The program's ItemOk. -/
import Derived.Test.YtoppccfgcccijaaDoorIt9
namespace Go.Proofs.YtoppccfgcccijaaDoor
open Go.RowKit
set_option maxRecDepth 100000 in
set_option maxHeartbeats 1600000 in
theorem impl_ItemOk (K N : Int) (f : Nat) (ad : Option Addr) (n cap : Nat) (hf : f < 18446744073709551616) (hn : n ≤ 2097152) (w : World) :
    Calls Tryd.prog 31 #[.agg #[.int .i64 K, .int .i64 N, .float .f64 f, .slice ad n cap]] w fun e w' => e = .returned (.bool (okI K N f n)) ∧ Below w.heap.size w w' := by
  have hA : Below w.heap.size w (w.alloc (.cells #[.int .i64 K, .int .i64 N, .float .f64 f, .slice ad n cap] 28)) := (Below.refl _ _).alloc (Nat.le_refl _) _
  have HA := hid hA
  clear hA
  by_cases h1 : K < 0
  · rw [show okI K N f n = false from decide_eq_false (by omega)]
    go_enter Tryd.func31, Tryd.ntmps31
    go_wp2
    go_ret
    exact ⟨rfl, HA.out⟩
  by_cases h2 : 3 < K
  · rw [show okI K N f n = false from decide_eq_false (by omega)]
    go_enter Tryd.func31, Tryd.ntmps31
    go_wp2
    go_ret
    exact ⟨rfl, HA.out⟩
  by_cases h3 : 40 < n
  · rw [show okI K N f n = false from decide_eq_false (by omega)]
    have h3' : (40 : Int) < (n : Int) := by omega
    go_enter Tryd.func31, Tryd.ntmps31
    go_wp2
    go_ret
    exact ⟨rfl, HA.out⟩
  have h3' : ¬ (40 : Int) < (n : Int) := by omega
  by_cases h4 : K ≠ 1 ∧ N ≠ 0
  · rw [show okI K N f n = false from decide_eq_false (by omega)]
    have q1 : (K == 1) = false := by simp [h4.1]
    have q2 : (N == 0) = false := by simp [h4.2]
    go_enter Tryd.func31, Tryd.ntmps31
    go_wp2
    go_ret
    exact ⟨rfl, HA.out⟩
  by_cases h5 : K = 1
  · subst h5
    by_cases h6 : f = 0
    · subst h6
      have hz : fbits 0 = 0 := by decide
      by_cases h7 : n = 0
      · subst h7
        rw [show okI 1 N 0 0 = true from decide_eq_true (by omega)]
        go_enter Tryd.func31, Tryd.ntmps31
        go_wp2_with fail
        refine (impl_FloatBits 0 hf _).mono ?_
        rintro e w1 ⟨rfl, rfl⟩
        rw [hz]
        go_wp2_with fail
        go_ret
        exact ⟨rfl, HA.out⟩
      · rw [show okI 1 N 0 n = false from decide_eq_false (by omega)]
        have q7 : ((n : Int) == 0) = false := beq_eq_false_iff_ne.2 (by omega)
        go_enter Tryd.func31, Tryd.ntmps31
        go_wp2_with fail
        refine (impl_FloatBits 0 hf _).mono ?_
        rintro e w1 ⟨rfl, rfl⟩
        rw [hz]
        go_wp2_with fail
        go_ret
        exact ⟨rfl, HA.out⟩
    · rw [show okI 1 N f n = false from decide_eq_false (by omega)]
      have q6 : ((fbits f : Int) == 0) = false := by have := fbits_ne f h6; simpa using this
      go_enter Tryd.func31, Tryd.ntmps31
      go_wp2_with fail
      refine (impl_FloatBits f hf _).mono ?_
      rintro e w1 ⟨rfl, rfl⟩
      go_wp2_with fail
      go_ret
      exact ⟨rfl, HA.out⟩
  have h8 : N = 0 := by omega
  subst h8
  have q1 : (K == 1) = false := by simp [h5]
  by_cases h9 : K = 2
  · subst h9
    by_cases h7 : n = 0
    · subst h7
      rw [show okI 2 0 f 0 = true from decide_eq_true (by omega)]
      go_enter Tryd.func31, Tryd.ntmps31
      go_wp2
      go_ret
      exact ⟨rfl, HA.out⟩
    · rw [show okI 2 0 f n = false from decide_eq_false (by omega)]
      have q7 : ((n : Int) == 0) = false := beq_eq_false_iff_ne.2 (by omega)
      go_enter Tryd.func31, Tryd.ntmps31
      go_wp2
      go_ret
      exact ⟨rfl, HA.out⟩
  have q9 : (K == 2) = false := by simp [h9]
  by_cases h6 : f = 0
  · subst h6
    have hz : fbits 0 = 0 := by decide
    by_cases h7 : K = 3
    · subst h7
      rw [show okI 3 0 0 n = true from decide_eq_true (by omega)]
      go_enter Tryd.func31, Tryd.ntmps31
      go_wp2_with fail
      refine (impl_FloatBits 0 hf _).mono ?_
      rintro e w1 ⟨rfl, rfl⟩
      rw [hz]
      go_wp2_with fail
      go_ret
      exact ⟨rfl, HA.out⟩
    · have h10 : K = 0 := by omega
      subst h10
      by_cases h7 : n = 0
      · subst h7
        rw [show okI 0 0 0 0 = true from decide_eq_true (by omega)]
        go_enter Tryd.func31, Tryd.ntmps31
        go_wp2_with fail
        refine (impl_FloatBits 0 hf _).mono ?_
        rintro e w1 ⟨rfl, rfl⟩
        rw [hz]
        go_wp2_with fail
        go_ret
        exact ⟨rfl, HA.out⟩
      · rw [show okI 0 0 0 n = false from decide_eq_false (by omega)]
        have q7 : ((n : Int) == 0) = false := beq_eq_false_iff_ne.2 (by omega)
        go_enter Tryd.func31, Tryd.ntmps31
        go_wp2_with fail
        refine (impl_FloatBits 0 hf _).mono ?_
        rintro e w1 ⟨rfl, rfl⟩
        rw [hz]
        go_wp2_with fail
        go_ret
        exact ⟨rfl, HA.out⟩
  · rw [show okI K 0 f n = false from decide_eq_false (by omega)]
    have q6 : ((fbits f : Int) == 0) = false := by have := fbits_ne f h6; simpa using this
    go_enter Tryd.func31, Tryd.ntmps31
    go_wp2_with fail
    refine (impl_FloatBits f hf _).mono ?_
    rintro e w1 ⟨rfl, rfl⟩
    go_wp2_with fail
    go_ret
    exact ⟨rfl, HA.out⟩

end Go.Proofs.YtoppccfgcccijaaDoor
