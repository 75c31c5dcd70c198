/- FnExactVisible's walk. Conditions: none but what the arguments' types say. -/
import Derived.Test.YtemhmlikfiknlaaXf9
import Derived.Test.YtemhmlikfiknlaaXd9
import Derived.Deep.RegionHeld3
namespace Go.Proofs.Ytemhmlikfiknlaa
open Go.RowKit
set_option maxRecDepth 100000

set_option maxHeartbeats 12800000 in
theorem exactVisible (S : Int) {a : Option Addr} {n : Nat} (c : Nat) {R : List Int} {al : Option Addr} {nl : Nat} (cl : Nat) {l : List Int} {w : World} (h : ReadsI w a n R) (hn0 : n ≤ maxLen) (hL : ReadsI w al nl l) (hnl0 : nl ≤ maxLen) (x : Int) (hx : -9223372036854775808 ≤ x ∧ x ≤ 9223372036854775807) (y : Int) (hy : -9223372036854775808 ≤ y ∧ y ≤ 9223372036854775807) :
    Calls Try.prog 6 #[.agg #[.int .i64 S, .slice a n c], .slice al nl cl, .int .i64 x, .int .i64 y] w fun e w' => e = .returned (.bool true) ∧ Below w.heap.size w w' := by
  unfold maxLen at hn0 hnl0
  have HA0 := hid h
  have HA := hid (ArgN.new S n c h 36 w.heap.size rfl)
  have HB := hid (Below.alloc1 w (.cells #[.int .i64 S, .slice a n c] 36))
  clear h
  have HXb := hid hx
  clear hx
  have HYb := hid hy
  clear hy
  have HL0 := hid hL
  have HL := hid (hL.below HB.out (Nat.le_refl _))
  clear hL
  by_cases hbigD : 1048576 < nl
  · have hbigD' : (1048576 : Int) < (nl : Int) := by omega
    go_enter Try.func6, Try.ntmps6
    go_wp2_with fail
    go_ret
    exact ⟨rfl, HB.out⟩
  have hnD : nl ≤ 1048576 := by omega
  have hnD' : ¬ (1048576 : Int) < (nl : Int) := by omega
  clear hbigD
  go_enter Try.func6, Try.ntmps6
  go_wp2_with fail
  generalize w.alloc (.cells #[.int .i64 S, .slice a n c] 36) = W0 at *
  refine (szSnap S a n c 1048576 (by omega) (by omega) (by omega) _).mono ?_
  rintro e w1 ⟨rfl, b⟩
  replace HA := hid (HA.out.below b (Nat.le_refl _))
  replace HL := hid (HL.out.below b (Nat.le_refl _))
  replace HB := hid (HB.out.trans (b.mono HB.out.size))
  clear b
  by_cases hbig : (1048576 : Int) < (n : Int)
  · rw [show lft9 1048576 n = -1 by unfold lft9; rw [if_pos hbig]]
    go_wp2_with fail
    go_ret
    exact ⟨rfl, HB.out⟩
  obtain ⟨LF, hLF⟩ : ∃ LF : Int, (1048576 : Int) - (n : Int) = LF := ⟨_, rfl⟩
  rw [show lft9 1048576 n = LF by unfold lft9; rw [if_neg hbig, hLF]]
  have hq0 : ¬ LF < 0 := by omega
  have hn : n ≤ 1048576 := by omega
  clear hbig hLF
  obtain ⟨y00, y01⟩ := HA.out.box
  go_wp2_with fail
  clear y00 y01
  clear hq0
  refine (toSnap S c HA.out.reads (by omega)).mono ?_
  rintro e w2 ⟨gp, rfl, o, b⟩
  replace HA := hid (HA.out.below b (Nat.le_refl _))
  replace HL := hid (HL.out.below b (Nat.le_refl _))
  replace HB := hid (HB.out.trans (b.mono HB.out.size))
  clear b
  have PS := hid (reads_own9 o HA0.out.bd)
  clear o
  go_wp2_with fail
  refine (toIntS_any cl HL.out (by omega)).mono ?_
  rintro e w3 ⟨rfl, o, b⟩
  replace HA := hid (HA.out.below b (Nat.le_refl _))
  replace HL := hid (HL.out.below b (Nat.le_refl _))
  replace PS := hid (PS.out.below b (Nat.le_refl _))
  replace HB := hid (HB.out.trans (b.mono HB.out.size))
  clear b
  have PL := hid (reads_own9 o HL0.out.bd)
  clear o
  go_wp2_with fail
  refine (spec_Visible S n PS.out (by omega) nl PL.out x y).mono ?_
  rintro e w4 ⟨rfl, b⟩
  replace HA := hid (HA.out.below b (Nat.le_refl _))
  replace HL := hid (HL.out.below b (Nat.le_refl _))
  replace PS := hid (PS.out.below b (Nat.le_refl _))
  replace PL := hid (PL.out.below b (Nat.le_refl _))
  replace HB := hid (HB.out.trans (b.mono HB.out.size))
  clear b
  clear PS PL
  obtain ⟨U, hU⟩ : ∃ U, visB S R l x y = U := ⟨_, rfl⟩
  rw [hU]
  have HU := hid hU
  have hq : (U != U) = false := by cases U <;> rfl
  clear hU
  obtain ⟨y00, y01⟩ := HA.out.box
  go_wp2_with fail
  clear y00 y01
  refine (toSnap S c HA.out.reads (by omega)).mono ?_
  rintro e w5 ⟨gx, rfl, o, b⟩
  replace HA := hid (HA.out.below b (Nat.le_refl _))
  replace HL := hid (HL.out.below b (Nat.le_refl _))
  replace HB := hid (HB.out.trans (b.mono HB.out.size))
  clear b
  have QS := hid (reads_own9 o HA0.out.bd)
  clear o
  go_wp2_with fail
  have HX := hid (ArgN.new S n n QS.out 32 w5.heap.size rfl)
  have bA := Below.alloc1 w5 (.cells #[.int .i64 S, .slice (some ⟨gx, 0, none⟩) n n] 32)
  replace HA := hid (HA.out.below bA (Nat.le_refl _))
  replace HL := hid (HL.out.below bA (Nat.le_refl _))
  replace QS := hid (QS.out.below bA (Nat.le_refl _))
  replace HB := hid (HB.out.trans (bA.mono HB.out.size))
  clear bA
  generalize w5.alloc (.cells #[.int .i64 S, .slice (some ⟨gx, 0, none⟩) n n] 32) = t1 at *
  clear QS
  refine (toIntS_any cl HL.out (by omega)).mono ?_
  rintro e w6 ⟨rfl, o, b⟩
  replace HA := hid (HA.out.below b (Nat.le_refl _))
  replace HL := hid (HL.out.below b (Nat.le_refl _))
  replace HX := hid (HX.out.below b (Nat.le_refl _))
  replace HB := hid (HB.out.trans (b.mono HB.out.size))
  clear b
  have XL := hid (reads_own9 o HL0.out.bd)
  clear o
  obtain ⟨y00, y01⟩ := HX.out.box
  go_wp2_with fail
  clear y00 y01
  refine (impl_Visible S n HX.out.reads (by omega) nl XL.out (by omega) x y HXb.out HYb.out).mono ?_
  rintro e w7 ⟨rfl, b⟩
  replace HA := hid (HA.out.below b (Nat.le_refl _))
  replace HL := hid (HL.out.below b (Nat.le_refl _))
  replace HX := hid (HX.out.below b (Nat.le_refl _))
  replace XL := hid (XL.out.below b (Nat.le_refl _))
  replace HB := hid (HB.out.trans (b.mono HB.out.size))
  clear b
  rw [HU.out]
  go_wp2_with fail
  replace HA := hid (HA.out.below ((Still.drew w7).below _) (Nat.le_refl _))
  replace HL := hid (HL.out.below ((Still.drew w7).below _) (Nat.le_refl _))
  replace HX := hid (HX.out.below ((Still.drew w7).below _) (Nat.le_refl _))
  replace XL := hid (XL.out.below ((Still.drew w7).below _) (Nat.le_refl _))
  replace HB := hid (HB.out.trans (((Still.drew w7).below _).mono HB.out.size))
  refine region_K 99 (fun W => BoxN W w.heap.size S (.slice a n c) ∧ BoxN W w5.heap.size S (.slice (some ⟨gx, 0, none⟩) n n)) (by kernel_rfl) ?_ (fun hHeld => ?_)
  · exact ⟨HA.out.box, HX.out.box⟩
  generalize w7.drew = v0 at *
  refine anyK_take2 (i := 0) (v := ?v1) rfl (by kernel_rfl) (by kernel_rfl) (by kernel_rfl) (by rfl) (fun _ _ _ h => h) (by rfl) hHeld ?hy1 (some 41) (by rfl) ?rest1
  case hy1 => (intro W hSw; obtain ⟨⟨r0, r1⟩, ⟨r2, r3⟩⟩ := hSw; go_simp; (try with_reducible rfl))
  try simp only [Act.put]
  try simp only [List.setIfInBounds_toArray]
  try simp only [List.set_cons_succ, List.set_cons_zero]
  refine anyK_take2 (i := 1) (v := ?v2) rfl (by kernel_rfl) (by kernel_rfl) (by kernel_rfl) (by rfl) (fun _ _ _ h => h) (by rfl) hHeld ?hy2 (some 42) (by rfl) ?rest2
  case hy2 => (intro W hSw; obtain ⟨⟨r0, r1⟩, ⟨r2, r3⟩⟩ := hSw; go_simp; (try with_reducible rfl))
  try simp only [Act.put]
  try simp only [List.setIfInBounds_toArray]
  try simp only [List.set_cons_succ, List.set_cons_zero]
  refine anyK_step (i := 2) (by kernel_rfl) rfl (fun KP hK => ?_)
  go_simp
  refine (toSnap S c HA.out.reads (by omega)).mono ?_
  rintro e w8 ⟨gy, rfl, o, b⟩
  replace HA := hid (HA.out.below b (Nat.le_refl _))
  replace HL := hid (HL.out.below b (Nat.le_refl _))
  replace HX := hid (HX.out.below b (Nat.le_refl _))
  replace XL := hid (XL.out.below b (Nat.le_refl _))
  replace HB := hid (HB.out.trans (b.mono HB.out.size))
  clear b
  have PY := hid (reads_own9 o HA0.out.bd)
  clear o
  go_wp2_with fail
  refine hK.out _ _ ?_ (fun hH2 => ?_)
  · exact ⟨HA.out.box, HX.out.box⟩
  clear hK KP hHeld
  have hHeld := hH2
  clear hH2
  try simp only [Act.put]
  try simp only [List.setIfInBounds_toArray]
  try simp only [List.set_cons_succ, List.set_cons_zero]
  refine anyK_step (i := 3) (by kernel_rfl) rfl (fun KP hK => ?_)
  go_simp
  refine (eqSnap S n n HX.out.reads PY.out (by omega)).mono ?_
  rintro e w9 ⟨rfl, b⟩
  replace HA := hid (HA.out.below b (Nat.le_refl _))
  replace HL := hid (HL.out.below b (Nat.le_refl _))
  replace HX := hid (HX.out.below b (Nat.le_refl _))
  replace XL := hid (XL.out.below b (Nat.le_refl _))
  replace PY := hid (PY.out.below b (Nat.le_refl _))
  replace HB := hid (HB.out.trans (b.mono HB.out.size))
  clear b
  clear PY
  go_wp2_with fail
  refine hK.out _ _ ?_ (fun hH2 => ?_)
  · exact ⟨HA.out.box, HX.out.box⟩
  clear hK KP hHeld
  have hHeld := hH2
  clear hH2
  try simp only [Act.put]
  try simp only [List.setIfInBounds_toArray]
  try simp only [List.set_cons_succ, List.set_cons_zero]
  refine anyK_step (i := 4) (by kernel_rfl) rfl (fun KP hK => ?_)
  go_simp
  refine hK.out _ _ ?_ (fun hH2 => ?_)
  · exact ⟨HA.out.box, HX.out.box⟩
  clear hK KP hHeld
  have hHeld := hH2
  clear hH2
  try simp only [Act.put]
  try simp only [List.setIfInBounds_toArray]
  try simp only [List.set_cons_succ, List.set_cons_zero]
  refine anyK_done (by kernel_rfl) ?_ _
  clear hHeld
  go_wp2_with fail
  refine (toIntS_any cl HL.out (by omega)).mono ?_
  rintro e w10 ⟨rfl, o, b⟩
  replace HA := hid (HA.out.below b (Nat.le_refl _))
  replace HL := hid (HL.out.below b (Nat.le_refl _))
  replace HX := hid (HX.out.below b (Nat.le_refl _))
  replace XL := hid (XL.out.below b (Nat.le_refl _))
  replace HB := hid (HB.out.trans (b.mono HB.out.size))
  clear b
  have PZ := hid (reads_own9 o HL0.out.bd)
  clear o
  go_wp2_with fail
  refine (eqIntS_any nl nl XL.out PZ.out (by omega)).mono ?_
  rintro e w11 ⟨rfl, st⟩
  have b := st.below w10.heap.size
  clear st
  replace HA := hid (HA.out.below b (Nat.le_refl _))
  replace HL := hid (HL.out.below b (Nat.le_refl _))
  replace HX := hid (HX.out.below b (Nat.le_refl _))
  replace XL := hid (XL.out.below b (Nat.le_refl _))
  replace PZ := hid (PZ.out.below b (Nat.le_refl _))
  replace HB := hid (HB.out.trans (b.mono HB.out.size))
  clear b
  go_wp2_with fail
  go_ret
  exact ⟨rfl, HB.out⟩
end Go.Proofs.Ytemhmlikfiknlaa
