/- Texts of this proof in one: Cr Cf Im1. -/
import Derived.Test.YtlapfmfaammheaaMga
/- contentRead of the program. -/

namespace Go.Proofs.Ytlapfmfaammheaa
open Go.RowKit

theorem unlift (x : Nat) (hx : x < 18446744073709551616) : IntKind.i64.wrap (IntKind.u64.wrap ((x : Int) - 9223372036854775808)) = (x : Int) - 9223372036854775808 := by
  simp [IntKind.wrap, IntKind.bits, IntKind.signed]
  omega

set_option maxRecDepth 100000 in
set_option maxHeartbeats 1600000 in
theorem read_text (fn : Nat) (ad : Option Addr) (n cap : Nat) (w : World) :
    Calls Try.prog 81 #[.int .i64 3, .slice ad n cap, .func (.func fn) #[] #[]] w fun e w' => e = .returned (.tuple #[.iface 100 (.slice ad n cap), .bool (decide (n ≤ 40))]) ∧ w' = w := by
  by_cases h : n ≤ 40
  · rw [decide_eq_true h]
    have h' : (n : Int) ≤ 40 := by omega
    go_enter Try.func81, Try.ntmps81
    go_wp2
    go_ret2
    exact ⟨rfl, rfl⟩
  · rw [decide_eq_false h]
    have h' : ¬ (n : Int) ≤ 40 := by omega
    go_enter Try.func81, Try.ntmps81
    go_wp2
    go_ret2
    exact ⟨by first | rfl | (show Ending.returned (.tuple #[_, .bool (decide ((n : Int) ≤ 40))]) = _; rw [decide_eq_false (show ¬ (n : Int) ≤ 40 by omega)]), rfl⟩

set_option maxRecDepth 100000 in
set_option maxHeartbeats 1600000 in
theorem read_int (fn : Nat) {ad : Option Addr} {n : Nat} (cap : Nat) {zs : List Int} {w : World} (h : Reads w ad n zs) (hn : n = 8) :
    Calls Try.prog 81 #[.int .i64 1, .slice ad n cap, .func (.func fn) #[] #[]] w fun e w' => e = .returned (.tuple #[.iface 98 (.int .i64 ((low zs : Int) - 9223372036854775808)), .bool true]) ∧ w' = w := by
  have hx : low zs < 18446744073709551616 := low_lt zs 0 (by omega)
  have hu := unlift (low zs) hx
  have hg := impl_getHigh cap h hn
  generalize low zs = x at *
  clear h hn
  go_enter Try.func81, Try.ntmps81
  go_wp2_with fail
  refine hg.mono ?_
  rintro e w1 ⟨rfl, rfl⟩
  go_wp2_with fail
  go_ret2
  exact ⟨rfl, rfl⟩

end Go.Proofs.Ytlapfmfaammheaa
/- contentRead of the program, at floats and at what is none. -/

namespace Go.Proofs.Ytlapfmfaammheaa
open Go.RowKit

set_option maxRecDepth 100000 in
set_option maxHeartbeats 1600000 in
theorem read_float_K {ad : Option Addr} {n : Nat} (cap : Nat) {zs : List Int} {w : World} (h : Reads w ad n zs) (hn : n = 8) :
    Calls Try.prog 81 #[.int .i64 2, .slice ad n cap, .func (.func 50) #[] #[]] w fun e w' => ∃ (y : Nat) (ok : Bool), e = .returned (.tuple #[.iface 99 (.float .f64 y), .bool ok]) ∧ y < 18446744073709551616 ∧ Hid (unfK (low zs) = if ok = true then some y else none) ∧ w' = w := by
  have hx : low zs < 18446744073709551616 := low_lt zs 0 (by omega)
  have hg := impl_getHigh cap h hn
  have hf := hid (dec_rank (low zs))
  generalize low zs = x at *
  clear h hn
  go_enter Try.func81, Try.ntmps81
  go_wp2_with fail
  refine hg.mono ?_
  rintro e w1 ⟨rfl, h1⟩
  subst w1
  clear hg
  go_wp2_with fail
  refine (hf.out _ hx).mono ?_
  rintro e w2 ⟨y, ok, rfl, hy, HD, h2⟩
  subst w2
  cases ok
  · go_wp2_with fail
    go_ret2
    exact ⟨_, _, rfl, hy, HD, rfl⟩
  · go_wp2_with fail
    go_ret2
    exact ⟨_, _, rfl, hy, HD, rfl⟩

set_option maxRecDepth 100000 in
set_option maxHeartbeats 1600000 in
theorem read_short_K (K : Int) (h3 : K ≠ 3) (ad : Option Addr) (n cap : Nat) (hn : n ≠ 8) (w : World) :
    Calls Try.prog 81 #[.int .i64 K, .slice ad n cap, .func (.func 50) #[] #[]] w fun e w' => ∃ v, e = .returned (.tuple #[v, .bool false]) ∧ w' = w := by
  have hg := impl_getHigh_no ad n cap hn
  have hf := hid (dec_rank 0)
  have q3 : (K == 3) = false := by simp [h3]
  clear hn h3
  by_cases h1 : K = 1
  · subst h1
    go_enter Try.func81, Try.ntmps81
    go_wp2_with fail
    refine (hg _).mono ?_
    rintro e w1 ⟨rfl, h1⟩
    subst w1
    clear hg
    go_wp2_with fail
    go_ret2
    exact ⟨_, rfl, rfl⟩
  have q1 : (K == 1) = false := by simp [h1]
  by_cases h2 : K = 2
  · subst h2
    go_enter Try.func81, Try.ntmps81
    go_wp2_with fail
    refine (hg _).mono ?_
    rintro e w1 ⟨rfl, h1⟩
    subst w1
    clear hg
    go_wp2_with fail
    refine (hf.out _ (by omega)).mono ?_
    rintro e w2 ⟨y, ok, rfl, hy, HD, h2⟩
    subst w2
    go_wp2_with fail
    go_ret2
    exact ⟨_, rfl, rfl⟩
  have q2 : (K == 2) = false := by simp [h2]
  clear h1 h2
  go_enter Try.func81, Try.ntmps81
  go_wp2_with fail
  refine (hg _).mono ?_
  rintro e w1 ⟨rfl, h1⟩
  subst w1
  clear hg
  go_wp2_with fail
  go_ret2
  exact ⟨_, rfl, rfl⟩

set_option maxRecDepth 100000 in
set_option maxHeartbeats 1600000 in
theorem read_other_K (K : Int) (h1 : K ≠ 1) (h2 : K ≠ 2) (h3 : K ≠ 3) {ad : Option Addr} {n : Nat} (cap : Nat) {zs : List Int} {w : World} (h : Reads w ad n zs) (hn : n = 8) :
    Calls Try.prog 81 #[.int .i64 K, .slice ad n cap, .func (.func 50) #[] #[]] w fun e w' => ∃ v, e = .returned (.tuple #[v, .bool false]) ∧ w' = w := by
  have hg := impl_getHigh cap h hn
  generalize low zs = x at *
  have q3 : (K == 3) = false := by simp [h3]
  have q1 : (K == 1) = false := by simp [h1]
  have q2 : (K == 2) = false := by simp [h2]
  clear h1 h2 h3 h hn
  go_enter Try.func81, Try.ntmps81
  go_wp2_with fail
  refine hg.mono ?_
  rintro e w1 ⟨rfl, h1⟩
  subst w1
  clear hg
  go_wp2_with fail
  go_ret2
  exact ⟨_, rfl, rfl⟩

set_option maxRecDepth 100000 in
set_option maxHeartbeats 1600000 in
theorem read_float_V {ad : Option Addr} {n : Nat} (cap : Nat) {zs : List Int} {w : World} (h : Reads w ad n zs) (hn : n = 8) :
    Calls Try.prog 81 #[.int .i64 2, .slice ad n cap, .func (.func 57) #[] #[]] w fun e w' => ∃ (y : Nat) (ok : Bool), e = .returned (.tuple #[.iface 99 (.float .f64 y), .bool ok]) ∧ y < 18446744073709551616 ∧ Hid (unfV (low zs) = if ok = true then some y else none) ∧ w' = w := by
  have hx : low zs < 18446744073709551616 := low_lt zs 0 (by omega)
  have hg := impl_getHigh cap h hn
  have hf := hid (dec_bits (low zs))
  generalize low zs = x at *
  clear h hn
  go_enter Try.func81, Try.ntmps81
  go_wp2_with fail
  refine hg.mono ?_
  rintro e w1 ⟨rfl, h1⟩
  subst w1
  clear hg
  go_wp2_with fail
  refine (hf.out _ hx).mono ?_
  rintro e w2 ⟨y, ok, rfl, hy, HD, h2⟩
  subst w2
  cases ok
  · go_wp2_with fail
    go_ret2
    exact ⟨_, _, rfl, hy, HD, rfl⟩
  · go_wp2_with fail
    go_ret2
    exact ⟨_, _, rfl, hy, HD, rfl⟩

set_option maxRecDepth 100000 in
set_option maxHeartbeats 1600000 in
theorem read_short_V (K : Int) (h3 : K ≠ 3) (ad : Option Addr) (n cap : Nat) (hn : n ≠ 8) (w : World) :
    Calls Try.prog 81 #[.int .i64 K, .slice ad n cap, .func (.func 57) #[] #[]] w fun e w' => ∃ v, e = .returned (.tuple #[v, .bool false]) ∧ w' = w := by
  have hg := impl_getHigh_no ad n cap hn
  have hf := hid (dec_bits 0)
  have q3 : (K == 3) = false := by simp [h3]
  clear hn h3
  by_cases h1 : K = 1
  · subst h1
    go_enter Try.func81, Try.ntmps81
    go_wp2_with fail
    refine (hg _).mono ?_
    rintro e w1 ⟨rfl, h1⟩
    subst w1
    clear hg
    go_wp2_with fail
    go_ret2
    exact ⟨_, rfl, rfl⟩
  have q1 : (K == 1) = false := by simp [h1]
  by_cases h2 : K = 2
  · subst h2
    go_enter Try.func81, Try.ntmps81
    go_wp2_with fail
    refine (hg _).mono ?_
    rintro e w1 ⟨rfl, h1⟩
    subst w1
    clear hg
    go_wp2_with fail
    refine (hf.out _ (by omega)).mono ?_
    rintro e w2 ⟨y, ok, rfl, hy, HD, h2⟩
    subst w2
    go_wp2_with fail
    go_ret2
    exact ⟨_, rfl, rfl⟩
  have q2 : (K == 2) = false := by simp [h2]
  clear h1 h2
  go_enter Try.func81, Try.ntmps81
  go_wp2_with fail
  refine (hg _).mono ?_
  rintro e w1 ⟨rfl, h1⟩
  subst w1
  clear hg
  go_wp2_with fail
  go_ret2
  exact ⟨_, rfl, rfl⟩

set_option maxRecDepth 100000 in
set_option maxHeartbeats 1600000 in
theorem read_other_V (K : Int) (h1 : K ≠ 1) (h2 : K ≠ 2) (h3 : K ≠ 3) {ad : Option Addr} {n : Nat} (cap : Nat) {zs : List Int} {w : World} (h : Reads w ad n zs) (hn : n = 8) :
    Calls Try.prog 81 #[.int .i64 K, .slice ad n cap, .func (.func 57) #[] #[]] w fun e w' => ∃ v, e = .returned (.tuple #[v, .bool false]) ∧ w' = w := by
  have hg := impl_getHigh cap h hn
  generalize low zs = x at *
  have q3 : (K == 3) = false := by simp [h3]
  have q1 : (K == 1) = false := by simp [h1]
  have q2 : (K == 2) = false := by simp [h2]
  clear h1 h2 h3 h hn
  go_enter Try.func81, Try.ntmps81
  go_wp2_with fail
  refine hg.mono ?_
  rintro e w1 ⟨rfl, h1⟩
  subst w1
  clear hg
  go_wp2_with fail
  go_ret2
  exact ⟨_, rfl, rfl⟩

end Go.Proofs.Ytlapfmfaammheaa
/- The program's ItemOk. -/

namespace Go.Proofs.Ytlapfmfaammheaa
open Go.RowKit
set_option maxRecDepth 100000 in
set_option maxHeartbeats 1600000 in
theorem impl_ItemOk (K N : Int) (f : Nat) (ad : Option Addr) (n cap : Nat) (hf : f < 18446744073709551616) (hn : n ≤ 2097152) (w : World) :
    Calls Try.prog 45 #[.agg #[.int .i64 K, .int .i64 N, .float .f64 f, .slice ad n cap]] w fun e w' => e = .returned (.bool (okI K N f n)) ∧ Below w.heap.size w w' := by
  have hA : Below w.heap.size w (w.alloc (.cells #[.int .i64 K, .int .i64 N, .float .f64 f, .slice ad n cap] 26)) := (Below.refl _ _).alloc (Nat.le_refl _) _
  have HA := hid hA
  clear hA
  by_cases h1 : K < 0
  · rw [show okI K N f n = false from decide_eq_false (by omega)]
    go_enter Try.func45, Try.ntmps45
    go_wp2
    go_ret
    exact ⟨rfl, HA.out⟩
  by_cases h2 : 3 < K
  · rw [show okI K N f n = false from decide_eq_false (by omega)]
    go_enter Try.func45, Try.ntmps45
    go_wp2
    go_ret
    exact ⟨rfl, HA.out⟩
  by_cases h3 : 40 < n
  · rw [show okI K N f n = false from decide_eq_false (by omega)]
    have h3' : (40 : Int) < (n : Int) := by omega
    go_enter Try.func45, Try.ntmps45
    go_wp2
    go_ret
    exact ⟨rfl, HA.out⟩
  have h3' : ¬ (40 : Int) < (n : Int) := by omega
  by_cases h4 : K ≠ 1 ∧ N ≠ 0
  · rw [show okI K N f n = false from decide_eq_false (by omega)]
    have q1 : (K == 1) = false := by simp [h4.1]
    have q2 : (N == 0) = false := by simp [h4.2]
    go_enter Try.func45, Try.ntmps45
    go_wp2
    go_ret
    exact ⟨rfl, HA.out⟩
  by_cases h5 : K = 1
  · subst h5
    by_cases h6 : f = 0
    · subst h6
      have hz : fbits 0 = 0 := by decide
      by_cases h7 : n = 0
      · subst h7
        rw [show okI 1 N 0 0 = true from decide_eq_true (by omega)]
        go_enter Try.func45, Try.ntmps45
        go_wp2_with fail
        refine (impl_FloatBits 0 hf _).mono ?_
        rintro e w1 ⟨rfl, rfl⟩
        rw [hz]
        go_wp2_with fail
        go_ret
        exact ⟨rfl, HA.out⟩
      · rw [show okI 1 N 0 n = false from decide_eq_false (by omega)]
        have q7 : ((n : Int) == 0) = false := beq_eq_false_iff_ne.2 (by omega)
        go_enter Try.func45, Try.ntmps45
        go_wp2_with fail
        refine (impl_FloatBits 0 hf _).mono ?_
        rintro e w1 ⟨rfl, rfl⟩
        rw [hz]
        go_wp2_with fail
        go_ret
        exact ⟨rfl, HA.out⟩
    · rw [show okI 1 N f n = false from decide_eq_false (by omega)]
      have q6 : ((fbits f : Int) == 0) = false := by have := fbits_ne f h6; simpa using this
      go_enter Try.func45, Try.ntmps45
      go_wp2_with fail
      refine (impl_FloatBits f hf _).mono ?_
      rintro e w1 ⟨rfl, rfl⟩
      go_wp2_with fail
      go_ret
      exact ⟨rfl, HA.out⟩
  have h8 : N = 0 := by omega
  subst h8
  have q1 : (K == 1) = false := by simp [h5]
  by_cases h9 : K = 2
  · subst h9
    by_cases h7 : n = 0
    · subst h7
      rw [show okI 2 0 f 0 = true from decide_eq_true (by omega)]
      go_enter Try.func45, Try.ntmps45
      go_wp2
      go_ret
      exact ⟨rfl, HA.out⟩
    · rw [show okI 2 0 f n = false from decide_eq_false (by omega)]
      have q7 : ((n : Int) == 0) = false := beq_eq_false_iff_ne.2 (by omega)
      go_enter Try.func45, Try.ntmps45
      go_wp2
      go_ret
      exact ⟨rfl, HA.out⟩
  have q9 : (K == 2) = false := by simp [h9]
  by_cases h6 : f = 0
  · subst h6
    have hz : fbits 0 = 0 := by decide
    by_cases h7 : K = 3
    · subst h7
      rw [show okI 3 0 0 n = true from decide_eq_true (by omega)]
      go_enter Try.func45, Try.ntmps45
      go_wp2_with fail
      refine (impl_FloatBits 0 hf _).mono ?_
      rintro e w1 ⟨rfl, rfl⟩
      rw [hz]
      go_wp2_with fail
      go_ret
      exact ⟨rfl, HA.out⟩
    · have h10 : K = 0 := by omega
      subst h10
      by_cases h7 : n = 0
      · subst h7
        rw [show okI 0 0 0 0 = true from decide_eq_true (by omega)]
        go_enter Try.func45, Try.ntmps45
        go_wp2_with fail
        refine (impl_FloatBits 0 hf _).mono ?_
        rintro e w1 ⟨rfl, rfl⟩
        rw [hz]
        go_wp2_with fail
        go_ret
        exact ⟨rfl, HA.out⟩
      · rw [show okI 0 0 0 n = false from decide_eq_false (by omega)]
        have q7 : ((n : Int) == 0) = false := beq_eq_false_iff_ne.2 (by omega)
        go_enter Try.func45, Try.ntmps45
        go_wp2_with fail
        refine (impl_FloatBits 0 hf _).mono ?_
        rintro e w1 ⟨rfl, rfl⟩
        rw [hz]
        go_wp2_with fail
        go_ret
        exact ⟨rfl, HA.out⟩
  · rw [show okI K 0 f n = false from decide_eq_false (by omega)]
    have q6 : ((fbits f : Int) == 0) = false := by have := fbits_ne f h6; simpa using this
    go_enter Try.func45, Try.ntmps45
    go_wp2_with fail
    refine (impl_FloatBits f hf _).mono ?_
    rintro e w1 ⟨rfl, rfl⟩
    go_wp2_with fail
    go_ret
    exact ⟨rfl, HA.out⟩

end Go.Proofs.Ytlapfmfaammheaa
