/- FnExactCrc's walk: for every slice the law answers true and writes nothing that was there. -/
import Derived.Test.YtgkhioomckkinahTab
namespace Go.Proofs.Ytgkhioomckkinah
open Go.RowKit

set_option maxHeartbeats 1600000 in
theorem exactCrc {ad : Option Addr} {n : Nat} (cap : Nat) {zs : List Int} {w : World} (h : Reads w ad n zs) (hm : n ≤ maxLen) :
    Calls Try.prog 5 #[.slice ad n cap] w fun e w' => e = .returned (.bool true) ∧ Below w.heap.size w w' := by
  unfold maxLen at hm
  by_cases hbig : 1048576 < n
  · go_enter Try.func5, Try.ntmps5
    go_wp2_with fail
    go_ret
    exact ⟨rfl, Below.refl _ _⟩
  have hn : n ≤ 1048576 := by omega
  go_enter Try.func5, Try.ntmps5
  go_wp2_with fail
  refine (toByteS_any cap h (by omega)).mono ?_
  rintro e w1 ⟨rfl, o1, b1⟩
  obtain ⟨_, _, e1, r1, _⟩ := Reads.own o1 h.bd
  obtain ⟨rfl, _, rfl⟩ := Value.slice.inj e1
  clear e1 o1
  go_wp2_with fail
  refine (spec_Crc n r1 (by omega)).mono ?_
  rintro e w2 ⟨rfl, rfl⟩
  have h1 := h.below b1 (Nat.le_refl _)
  generalize hX : crcOf zs = X
  have HX := hid hX
  clear hX
  go_wp2_with fail
  refine (toByteS_any cap h1 (by omega)).mono ?_
  rintro e w3 ⟨rfl, o3, b3⟩
  obtain ⟨_, _, e1, r3, _⟩ := Reads.own o3 h.bd
  obtain ⟨rfl, _, rfl⟩ := Value.slice.inj e1
  clear e1 o3
  go_wp2_with fail
  refine (impl_Crc n r3 (by omega)).mono ?_
  rintro e w4 ⟨rfl, b4⟩
  rw [HX.out]
  have h3 := (h1.below b3 (Nat.le_refl _)).below b4 (Nat.le_refl _)
  have r3 := r3.below b4 (Nat.le_refl _)
  go_wp2_with fail
  refine (toByteS_any cap h3 (by omega)).mono ?_
  rintro e w5 ⟨rfl, o5, b5⟩
  obtain ⟨_, _, e1, r5, _⟩ := Reads.own o5 h.bd
  obtain ⟨rfl, _, rfl⟩ := Value.slice.inj e1
  clear e1 o5
  have r3' := r3.below b5 (Nat.le_refl _)
  go_wp2_with fail
  refine (eqByteS_any n n r3' r5 (by omega)).mono ?_
  rintro e w6 ⟨rfl, s6⟩
  go_wp2_with fail
  go_ret
  have z1 := b1.size
  have z3 := b3.size
  have z4 := b4.size
  exact ⟨rfl, (((b1.trans (b3.mono z1)).trans (b4.mono (by omega))).trans (b5.mono (by omega))).trans (s6.below _)⟩
end Go.Proofs.Ytgkhioomckkinah
