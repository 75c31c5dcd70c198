/- contentRead of the program, at floats and at what is none. -/
import Derived.Test.YtlapfmfaammheaaCr
namespace Go.Proofs.Ytlapfmfaammheaa
open Go.RowKit

set_option maxRecDepth 100000 in
set_option maxHeartbeats 1600000 in
theorem read_float_K {ad : Option Addr} {n : Nat} (cap : Nat) {zs : List Int} {w : World} (h : Reads w ad n zs) (hn : n = 8) :
    Calls Try.prog 81 #[.int .i64 2, .slice ad n cap, .func (.func 50) #[] #[]] w fun e w' => ∃ (y : Nat) (ok : Bool), e = .returned (.tuple #[.iface 99 (.float .f64 y), .bool ok]) ∧ y < 18446744073709551616 ∧ Hid (unfK (low zs) = if ok = true then some y else none) ∧ w' = w := by
  have hx : low zs < 18446744073709551616 := low_lt zs 0 (by omega)
  have hg := impl_getHigh cap h hn
  have hf := hid (dec_rank (low zs))
  generalize low zs = x at *
  clear h hn
  go_enter Try.func81, Try.ntmps81
  go_wp2_with fail
  refine hg.mono ?_
  rintro e w1 ⟨rfl, h1⟩
  subst w1
  clear hg
  go_wp2_with fail
  refine (hf.out _ hx).mono ?_
  rintro e w2 ⟨y, ok, rfl, hy, HD, h2⟩
  subst w2
  cases ok
  · go_wp2_with fail
    go_ret2
    exact ⟨_, _, rfl, hy, HD, rfl⟩
  · go_wp2_with fail
    go_ret2
    exact ⟨_, _, rfl, hy, HD, rfl⟩

set_option maxRecDepth 100000 in
set_option maxHeartbeats 1600000 in
theorem read_short_K (K : Int) (h3 : K ≠ 3) (ad : Option Addr) (n cap : Nat) (hn : n ≠ 8) (w : World) :
    Calls Try.prog 81 #[.int .i64 K, .slice ad n cap, .func (.func 50) #[] #[]] w fun e w' => ∃ v, e = .returned (.tuple #[v, .bool false]) ∧ w' = w := by
  have hg := impl_getHigh_no ad n cap hn
  have hf := hid (dec_rank 0)
  have q3 : (K == 3) = false := by simp [h3]
  clear hn h3
  by_cases h1 : K = 1
  · subst h1
    go_enter Try.func81, Try.ntmps81
    go_wp2_with fail
    refine (hg _).mono ?_
    rintro e w1 ⟨rfl, h1⟩
    subst w1
    clear hg
    go_wp2_with fail
    go_ret2
    exact ⟨_, rfl, rfl⟩
  have q1 : (K == 1) = false := by simp [h1]
  by_cases h2 : K = 2
  · subst h2
    go_enter Try.func81, Try.ntmps81
    go_wp2_with fail
    refine (hg _).mono ?_
    rintro e w1 ⟨rfl, h1⟩
    subst w1
    clear hg
    go_wp2_with fail
    refine (hf.out _ (by omega)).mono ?_
    rintro e w2 ⟨y, ok, rfl, hy, HD, h2⟩
    subst w2
    go_wp2_with fail
    go_ret2
    exact ⟨_, rfl, rfl⟩
  have q2 : (K == 2) = false := by simp [h2]
  clear h1 h2
  go_enter Try.func81, Try.ntmps81
  go_wp2_with fail
  refine (hg _).mono ?_
  rintro e w1 ⟨rfl, h1⟩
  subst w1
  clear hg
  go_wp2_with fail
  go_ret2
  exact ⟨_, rfl, rfl⟩

set_option maxRecDepth 100000 in
set_option maxHeartbeats 1600000 in
theorem read_other_K (K : Int) (h1 : K ≠ 1) (h2 : K ≠ 2) (h3 : K ≠ 3) {ad : Option Addr} {n : Nat} (cap : Nat) {zs : List Int} {w : World} (h : Reads w ad n zs) (hn : n = 8) :
    Calls Try.prog 81 #[.int .i64 K, .slice ad n cap, .func (.func 50) #[] #[]] w fun e w' => ∃ v, e = .returned (.tuple #[v, .bool false]) ∧ w' = w := by
  have hg := impl_getHigh cap h hn
  generalize low zs = x at *
  have q3 : (K == 3) = false := by simp [h3]
  have q1 : (K == 1) = false := by simp [h1]
  have q2 : (K == 2) = false := by simp [h2]
  clear h1 h2 h3 h hn
  go_enter Try.func81, Try.ntmps81
  go_wp2_with fail
  refine hg.mono ?_
  rintro e w1 ⟨rfl, h1⟩
  subst w1
  clear hg
  go_wp2_with fail
  go_ret2
  exact ⟨_, rfl, rfl⟩

set_option maxRecDepth 100000 in
set_option maxHeartbeats 1600000 in
theorem read_float_V {ad : Option Addr} {n : Nat} (cap : Nat) {zs : List Int} {w : World} (h : Reads w ad n zs) (hn : n = 8) :
    Calls Try.prog 81 #[.int .i64 2, .slice ad n cap, .func (.func 57) #[] #[]] w fun e w' => ∃ (y : Nat) (ok : Bool), e = .returned (.tuple #[.iface 99 (.float .f64 y), .bool ok]) ∧ y < 18446744073709551616 ∧ Hid (unfV (low zs) = if ok = true then some y else none) ∧ w' = w := by
  have hx : low zs < 18446744073709551616 := low_lt zs 0 (by omega)
  have hg := impl_getHigh cap h hn
  have hf := hid (dec_bits (low zs))
  generalize low zs = x at *
  clear h hn
  go_enter Try.func81, Try.ntmps81
  go_wp2_with fail
  refine hg.mono ?_
  rintro e w1 ⟨rfl, h1⟩
  subst w1
  clear hg
  go_wp2_with fail
  refine (hf.out _ hx).mono ?_
  rintro e w2 ⟨y, ok, rfl, hy, HD, h2⟩
  subst w2
  cases ok
  · go_wp2_with fail
    go_ret2
    exact ⟨_, _, rfl, hy, HD, rfl⟩
  · go_wp2_with fail
    go_ret2
    exact ⟨_, _, rfl, hy, HD, rfl⟩

set_option maxRecDepth 100000 in
set_option maxHeartbeats 1600000 in
theorem read_short_V (K : Int) (h3 : K ≠ 3) (ad : Option Addr) (n cap : Nat) (hn : n ≠ 8) (w : World) :
    Calls Try.prog 81 #[.int .i64 K, .slice ad n cap, .func (.func 57) #[] #[]] w fun e w' => ∃ v, e = .returned (.tuple #[v, .bool false]) ∧ w' = w := by
  have hg := impl_getHigh_no ad n cap hn
  have hf := hid (dec_bits 0)
  have q3 : (K == 3) = false := by simp [h3]
  clear hn h3
  by_cases h1 : K = 1
  · subst h1
    go_enter Try.func81, Try.ntmps81
    go_wp2_with fail
    refine (hg _).mono ?_
    rintro e w1 ⟨rfl, h1⟩
    subst w1
    clear hg
    go_wp2_with fail
    go_ret2
    exact ⟨_, rfl, rfl⟩
  have q1 : (K == 1) = false := by simp [h1]
  by_cases h2 : K = 2
  · subst h2
    go_enter Try.func81, Try.ntmps81
    go_wp2_with fail
    refine (hg _).mono ?_
    rintro e w1 ⟨rfl, h1⟩
    subst w1
    clear hg
    go_wp2_with fail
    refine (hf.out _ (by omega)).mono ?_
    rintro e w2 ⟨y, ok, rfl, hy, HD, h2⟩
    subst w2
    go_wp2_with fail
    go_ret2
    exact ⟨_, rfl, rfl⟩
  have q2 : (K == 2) = false := by simp [h2]
  clear h1 h2
  go_enter Try.func81, Try.ntmps81
  go_wp2_with fail
  refine (hg _).mono ?_
  rintro e w1 ⟨rfl, h1⟩
  subst w1
  clear hg
  go_wp2_with fail
  go_ret2
  exact ⟨_, rfl, rfl⟩

set_option maxRecDepth 100000 in
set_option maxHeartbeats 1600000 in
theorem read_other_V (K : Int) (h1 : K ≠ 1) (h2 : K ≠ 2) (h3 : K ≠ 3) {ad : Option Addr} {n : Nat} (cap : Nat) {zs : List Int} {w : World} (h : Reads w ad n zs) (hn : n = 8) :
    Calls Try.prog 81 #[.int .i64 K, .slice ad n cap, .func (.func 57) #[] #[]] w fun e w' => ∃ v, e = .returned (.tuple #[v, .bool false]) ∧ w' = w := by
  have hg := impl_getHigh cap h hn
  generalize low zs = x at *
  have q3 : (K == 3) = false := by simp [h3]
  have q1 : (K == 1) = false := by simp [h1]
  have q2 : (K == 2) = false := by simp [h2]
  clear h1 h2 h3 h hn
  go_enter Try.func81, Try.ntmps81
  go_wp2_with fail
  refine hg.mono ?_
  rintro e w1 ⟨rfl, h1⟩
  subst w1
  clear hg
  go_wp2_with fail
  go_ret2
  exact ⟨_, rfl, rfl⟩

end Go.Proofs.Ytlapfmfaammheaa
