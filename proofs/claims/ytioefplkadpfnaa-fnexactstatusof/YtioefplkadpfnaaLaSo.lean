/- FnExactStatusOf's walk. Conditions: none but what the argument's type says. -/
import Derived.Test.YtioefplkadpfnaaSa8
namespace Go.Proofs.Ytioefplkadpfnaa
open Go.RowKit
set_option maxRecDepth 100000

set_option maxHeartbeats 3200000 in
theorem exactStatusOf {a : Option Addr} {n : Nat} (c : Nat) {l : List Int} {w : World} (h : ReadsI w a n l) (hn0 : n ≤ maxLen) (x : Int) :
    Calls Try.prog 6 #[.slice a n c, .int .i64 x] w fun e w' => e = .returned (.bool true) ∧ Below w.heap.size w w' := by
  unfold maxLen at hn0
  by_cases hbig : 1048576 < n
  · have q : (1048576 : Int) < (n : Int) := by omega
    go_enter Try.func6, Try.ntmps6
    go_wp2_with fail
    go_ret
    exact ⟨rfl, Below.refl _ _⟩
  have hn : n ≤ 1048576 := by omega
  have q1 : ¬ (1048576 : Int) < (n : Int) := by omega
  clear hbig
  obtain ⟨U, hU⟩ : ∃ U, stOf l x = U := ⟨_, rfl⟩
  have HU := hid hU
  have hq : (U != U) = false := by simp
  clear hU
  have HL0 := hid h
  have HL := hid h
  have HB := hid (Below.refl w.heap.size w)
  clear h
  go_enter Try.func6, Try.ntmps6
  go_wp2_with fail
  refine (toIntS_any c HL.out (by omega)).mono ?_
  rintro e w1 ⟨rfl, o, b⟩
  replace HL := hid (HL.out.below b (Nat.le_refl _))
  replace HB := hid (HB.out.trans (b.mono HB.out.size))
  have S0 := hid (b.size)
  clear b
  obtain ⟨_, _, e1, p, _⟩ := ReadsI.own o HL0.out.bd
  obtain ⟨rfl, _, rfl⟩ := Value.slice.inj e1
  have PX := hid p
  have LPX := hid (o.lt w.heap.size rfl).2
  clear e1 p
  clear o
  go_wp2_with fail
  refine (spec_StatusOf n PX.out x).mono ?_
  rintro e w2 ⟨rfl, e1⟩
  subst w2
  rw [HU.out]
  go_wp2_with fail
  clear PX
  refine (toIntS_any c HL.out (by omega)).mono ?_
  rintro e w3 ⟨rfl, o, b⟩
  replace HL := hid (HL.out.below b (Nat.le_refl _))
  replace HB := hid (HB.out.trans (b.mono HB.out.size))
  have S2 := hid (b.size)
  clear b
  obtain ⟨_, _, e1, p, _⟩ := ReadsI.own o HL0.out.bd
  obtain ⟨rfl, _, rfl⟩ := Value.slice.inj e1
  have HX := hid p
  have LHX := hid (o.lt w1.heap.size rfl).2
  clear e1 p
  clear o
  go_wp2_with fail
  refine (impl_StatusOf n HX.out (by omega) x).mono ?_
  rintro e w4 ⟨rfl, e1⟩
  subst w4
  rw [HU.out]
  go_wp2_with fail
  refine (toIntS_any c HL.out (by omega)).mono ?_
  rintro e w5 ⟨rfl, o, b⟩
  replace HL := hid (HL.out.below b (Nat.le_refl _))
  replace HX := hid (HX.out.below b (Nat.le_refl _))
  replace HB := hid (HB.out.trans (b.mono HB.out.size))
  have S4 := hid (b.size)
  clear b
  obtain ⟨_, _, e1, p, _⟩ := ReadsI.own o HL0.out.bd
  obtain ⟨rfl, _, rfl⟩ := Value.slice.inj e1
  have PY := hid p
  have LPY := hid (o.lt w3.heap.size rfl).2
  clear e1 p
  clear o
  go_wp2_with fail
  refine (eqIntS_any n n HX.out PY.out (by omega)).mono ?_
  rintro e w6 ⟨rfl, st⟩
  have b := st.below w5.heap.size
  clear st
  replace HL := hid (HL.out.below b (Nat.le_refl _))
  replace HX := hid (HX.out.below b (Nat.le_refl _))
  replace PY := hid (PY.out.below b (Nat.le_refl _))
  replace HB := hid (HB.out.trans (b.mono HB.out.size))
  have S6 := hid (b.size)
  clear b
  go_wp2_with fail
  go_ret
  exact ⟨rfl, HB.out⟩
end Go.Proofs.Ytioefplkadpfnaa
