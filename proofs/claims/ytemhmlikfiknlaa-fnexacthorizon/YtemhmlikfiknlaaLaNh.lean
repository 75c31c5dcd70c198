/- FnExactHorizon's walk. Conditions: none but what the arguments' types say. -/
import Derived.Test.YtemhmlikfiknlaaXf9
import Derived.Test.YtemhmlikfiknlaaXe9
import Derived.Deep.RegionHeld3
namespace Go.Proofs.Ytemhmlikfiknlaa
open Go.RowKit
set_option maxRecDepth 100000

set_option maxHeartbeats 3200000 in
theorem exactHorizon {a : Option Addr} {n : Nat} (c : Nat) {ws : List (Int × List Int)} {w : World} (h : ReadsN w a ws) (hl : ws.length = n) (hn0 : n ≤ maxLen) (x : Int) :
    Calls Try.prog 7 #[.slice a n c, .int .i64 x] w fun e w' => e = .returned (.bool true) ∧ Below w.heap.size w w' := by
  unfold maxLen at hn0
  have HL := hid h
  have HB := hid (Below.refl w.heap.size w)
  clear h
  go_enter Try.func7, Try.ntmps7
  go_wp2_with fail
  refine (szSnapS c HL.out hl (by omega) 1048576 (by omega) (by omega)).mono ?_
  rintro e w1 ⟨rfl, b⟩
  replace HL := hid (HL.out.below b (Nat.le_refl _))
  replace HB := hid (HB.out.trans (b.mono HB.out.size))
  clear b
  by_cases hbig : (1048576 : Int) < (n + totN ws : Nat)
  · rw [show lft9 1048576 (n + totN ws) = -1 by unfold lft9; rw [if_pos hbig]]
    go_wp2_with fail
    go_ret
    exact ⟨rfl, HB.out⟩
  obtain ⟨LF, hLF⟩ : ∃ LF : Int, (1048576 : Int) - (n + totN ws : Nat) = LF := ⟨_, rfl⟩
  rw [show lft9 1048576 (n + totN ws) = LF by unfold lft9; rw [if_neg hbig, hLF]]
  have hq0 : ¬ LF < 0 := by omega
  have hn : n ≤ 1048576 := by omega
  have HT := hid (show totN ws ≤ 1048576 by omega)
  have HS5 := hid (fun i => show (ws.getD i sn0).2.length ≤ 2097152 by have := totN_at ws i; have := HT.out; omega)
  obtain ⟨U, hU⟩ : ∃ U, horP ws x = U := ⟨_, rfl⟩
  have HU := hid hU
  have hq : (U != U) = false := by simp
  clear hbig hLF hU
  go_wp2_with fail
  clear hq0
  refine (toSnapS c HL.out hl (by omega) HS5.out).mono ?_
  rintro e w2 ⟨ys, rfl, hy, o, oB, b⟩
  replace HL := hid (HL.out.below b (Nat.le_refl _))
  replace HB := hid (HB.out.trans (b.mono HB.out.size))
  clear b
  have PX := hid (readsN_own hy hl o oB)
  clear hy o oB
  go_wp2_with fail
  refine (spec_Horizon n PX.out hl (by omega) HS5.out x).mono ?_
  rintro e w3 ⟨rfl, b⟩
  replace HL := hid (HL.out.below b (Nat.le_refl _))
  replace PX := hid (PX.out.below b (Nat.le_refl _))
  replace HB := hid (HB.out.trans (b.mono HB.out.size))
  clear b
  clear PX
  rw [HU.out]
  go_wp2_with fail
  refine (toSnapS c HL.out hl (by omega) HS5.out).mono ?_
  rintro e w4 ⟨ys, rfl, hy, o, oB, b⟩
  replace HL := hid (HL.out.below b (Nat.le_refl _))
  replace HB := hid (HB.out.trans (b.mono HB.out.size))
  clear b
  have HX := hid (readsN_own hy hl o oB)
  clear hy o oB
  go_wp2_with fail
  refine (impl_Horizon n HX.out hl (by omega) HS5.out x).mono ?_
  rintro e w5 ⟨rfl, b⟩
  replace HL := hid (HL.out.below b (Nat.le_refl _))
  replace HX := hid (HX.out.below b (Nat.le_refl _))
  replace HB := hid (HB.out.trans (b.mono HB.out.size))
  clear b
  rw [HU.out]
  go_wp2_with fail
  refine (toSnapS c HL.out hl (by omega) HS5.out).mono ?_
  rintro e w6 ⟨ys, rfl, hy, o, oB, b⟩
  replace HL := hid (HL.out.below b (Nat.le_refl _))
  replace HX := hid (HX.out.below b (Nat.le_refl _))
  replace HB := hid (HB.out.trans (b.mono HB.out.size))
  clear b
  have PY := hid (readsN_own hy hl o oB)
  clear hy o oB
  go_wp2_with fail
  refine (eqSnapS n n HX.out PY.out hl (by omega) HS5.out).mono ?_
  rintro e w7 ⟨rfl, b⟩
  replace HL := hid (HL.out.below b (Nat.le_refl _))
  replace HX := hid (HX.out.below b (Nat.le_refl _))
  replace PY := hid (PY.out.below b (Nat.le_refl _))
  replace HB := hid (HB.out.trans (b.mono HB.out.size))
  clear b
  go_wp2_with fail
  go_ret
  exact ⟨rfl, HB.out⟩
end Go.Proofs.Ytemhmlikfiknlaa
