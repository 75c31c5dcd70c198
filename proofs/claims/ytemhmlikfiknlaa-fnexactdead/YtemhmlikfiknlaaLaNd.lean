/- FnExactDead's walk. Conditions: none but what the arguments' types say. -/
import Derived.Test.YtemhmlikfiknlaaXf9
import Derived.Deep.RegionHeld3
namespace Go.Proofs.Ytemhmlikfiknlaa
open Go.RowKit
set_option maxRecDepth 100000

set_option maxHeartbeats 3200000 in
theorem exactDead {al : Option Addr} {nl : Nat} (cl : Nat) {l : List Int} {w : World} (hL : ReadsI w al nl l) (hnl0 : nl ≤ maxLen) (x y z : Int) :
    Calls Try.prog 8 #[.slice al nl cl, .int .i64 x, .int .i64 y, .int .i64 z] w fun e w' => e = .returned (.bool true) ∧ Below w.heap.size w w' := by
  unfold maxLen at hnl0
  by_cases hbigD : 1048576 < nl
  · have hbigD' : (1048576 : Int) < (nl : Int) := by omega
    go_enter Try.func8, Try.ntmps8
    go_wp2_with fail
    go_ret
    exact ⟨rfl, Below.refl _ _⟩
  have hnD : nl ≤ 1048576 := by omega
  have hnD' : ¬ (1048576 : Int) < (nl : Int) := by omega
  clear hbigD
  have HL0 := hid hL
  have HL := hid hL
  have HB := hid (Below.refl w.heap.size w)
  clear hL
  obtain ⟨U, hU⟩ : ∃ U, deadB l x y z = U := ⟨_, rfl⟩
  have HU := hid hU
  have hq : (U != U) = false := by cases U <;> rfl
  clear hU
  go_enter Try.func8, Try.ntmps8
  go_wp2_with fail
  refine (toIntS_any cl HL.out (by omega)).mono ?_
  rintro e w1 ⟨rfl, o, b⟩
  replace HL := hid (HL.out.below b (Nat.le_refl _))
  replace HB := hid (HB.out.trans (b.mono HB.out.size))
  clear b
  have PX := hid (reads_own9 o HL0.out.bd)
  clear o
  go_wp2_with fail
  refine (spec_Dead nl PX.out x y z).mono ?_
  rintro e w2 ⟨rfl, e1⟩
  subst w2
  rw [HU.out]
  go_wp2_with fail
  clear PX
  refine (toIntS_any cl HL.out (by omega)).mono ?_
  rintro e w3 ⟨rfl, o, b⟩
  replace HL := hid (HL.out.below b (Nat.le_refl _))
  replace HB := hid (HB.out.trans (b.mono HB.out.size))
  clear b
  have HX := hid (reads_own9 o HL0.out.bd)
  clear o
  go_wp2_with fail
  refine (impl_Dead nl HX.out (by omega) x y z).mono ?_
  rintro e w4 ⟨rfl, e1⟩
  subst w4
  rw [HU.out]
  go_wp2_with fail
  refine (toIntS_any cl HL.out (by omega)).mono ?_
  rintro e w5 ⟨rfl, o, b⟩
  replace HL := hid (HL.out.below b (Nat.le_refl _))
  replace HX := hid (HX.out.below b (Nat.le_refl _))
  replace HB := hid (HB.out.trans (b.mono HB.out.size))
  clear b
  have PY := hid (reads_own9 o HL0.out.bd)
  clear o
  go_wp2_with fail
  refine (eqIntS_any nl nl HX.out PY.out (by omega)).mono ?_
  rintro e w6 ⟨rfl, st⟩
  have b := st.below w5.heap.size
  clear st
  replace HL := hid (HL.out.below b (Nat.le_refl _))
  replace HX := hid (HX.out.below b (Nat.le_refl _))
  replace PY := hid (PY.out.below b (Nat.le_refl _))
  replace HB := hid (HB.out.trans (b.mono HB.out.size))
  clear b
  go_wp2_with fail
  go_ret
  exact ⟨rfl, HB.out⟩
end Go.Proofs.Ytemhmlikfiknlaa
