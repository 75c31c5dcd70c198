/- FnExactGetNum's walk: for every slice, place and size the law answers true and writes nothing that was there. -/
import Derived.Test.YtgkhioomckkinahGet
namespace Go.Proofs.Ytgkhioomckkinah
open Go.RowKit

set_option maxHeartbeats 1600000 in
theorem exactGetNum {ad : Option Addr} {n : Nat} (cap : Nat) {zs : List Int} {w : World} (h : Reads w ad n zs) (hm : n ≤ maxLen) (at' size : Int) (hs : size ≤ 9223372036854775807) (ha : at' ≤ 9223372036854775807) (ha' : -9223372036854775808 ≤ at') :
    Calls Try.prog 4 #[.slice ad n cap, .int .i64 at', .int .i64 size] w fun e w' => e = .returned (.bool true) ∧ Below w.heap.size w w' := by
  unfold maxLen at hm
  by_cases hbig : 1048576 < n
  · go_enter Try.func4, Try.ntmps4
    go_wp2_with fail
    go_ret
    exact ⟨rfl, Below.refl _ _⟩
  have hn : n ≤ 1048576 := by omega
  go_enter Try.func4, Try.ntmps4
  go_wp2_with fail
  refine (toByteS_any cap h (by omega)).mono ?_
  rintro e w1 ⟨rfl, o1, b1⟩
  obtain ⟨_, _, e1, r1, _⟩ := Reads.own o1 h.bd
  obtain ⟨rfl, _, rfl⟩ := Value.slice.inj e1
  clear e1 o1
  go_wp2_with fail
  refine (spec_GetNum n r1 (by omega) at' size hs ha ha').mono ?_
  rintro e w2 ⟨rfl, rfl⟩
  have h1 := h.below b1 (Nat.le_refl _)
  generalize hX : numOf zs at' size = X
  generalize hY : numOk zs at' size = Y
  have HX := hid hX
  have HY := hid hY
  clear hX hY
  go_wp2_with fail
  refine (toByteS_any cap h1 (by omega)).mono ?_
  rintro e w3 ⟨rfl, o3, b3⟩
  obtain ⟨_, _, e1, r3, _⟩ := Reads.own o3 h.bd
  obtain ⟨rfl, _, rfl⟩ := Value.slice.inj e1
  clear e1 o3
  go_wp2_with fail
  refine (impl_GetNum n r3 (by omega) at' size hs ha ha').mono ?_
  rintro e w4 ⟨rfl, rfl⟩
  rw [HX.out, HY.out]
  have h3 := h1.below b3 (Nat.le_refl _)
  go_wp2_with fail
  refine (toByteS_any cap h3 (by omega)).mono ?_
  rintro e w5 ⟨rfl, o5, b5⟩
  obtain ⟨_, _, e1, r5, _⟩ := Reads.own o5 h.bd
  obtain ⟨rfl, _, rfl⟩ := Value.slice.inj e1
  clear e1 o5
  have r3' := r3.below b5 (Nat.le_refl _)
  go_wp2_with fail
  refine (eqByteS_any n n r3' r5 (by omega)).mono ?_
  rintro e w6 ⟨rfl, s6⟩
  go_wp2_with fail
  go_ret
  exact ⟨rfl, ((b1.trans (b3.mono b1.size)).trans (b5.mono (Nat.le_trans b1.size b3.size))).trans (s6.below _)⟩
end Go.Proofs.Ytgkhioomckkinah
