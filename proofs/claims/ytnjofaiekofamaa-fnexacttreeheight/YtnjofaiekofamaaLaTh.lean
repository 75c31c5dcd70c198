/- FnExactTreeHeight's walk. Conditions: none but what the arguments' types say. -/
import Derived.Test.YtnjofaiekofamaaKz11
import Derived.Test.YtnjofaiekofamaaKw11
import Derived.Test.YtnjofaiekofamaaMga
import Derived.Deep.RegionHeld3
namespace Go.Proofs.Ytnjofaiekofamaa
open Go.RowKit
set_option maxRecDepth 100000

set_option maxHeartbeats 12800000 in
theorem exactTreeHeight {a : Option Addr} {n : Nat} (c : Nat) (rt : Int) {ds : List Nd} {w : World} (h : ReadsD w a ds) (hl : ds.length = n) (hn0 : n ≤ maxLen) :
    Calls Try.prog 7 #[.agg #[.slice a n c, .int .i64 rt]] w fun e w' => e = .returned (.bool true) ∧ Below w.heap.size w w' := by
  unfold maxLen at hn0
  have HA0 := hid (ArgTr.new n c rt h 53 w.heap.size rfl)
  have HA := hid (ArgTr.new n c rt h 53 w.heap.size rfl)
  have HB0 := hid (Below.alloc1 w (.cells #[.slice a n c, .int .i64 rt] 53))
  clear h
  go_enter Try.func7, Try.ntmps7
  have y0 := HA.out.box.c0
  have z0 := HA.out.box.c1
  go_wp2_with fail
  clear y0 z0
  have S0 := hid (alloc_size w (.cells #[.slice a n c, .int .i64 rt] 53))
  generalize w.alloc (.cells #[.slice a n c, .int .i64 rt] 53) = W0 at *
  have HC := hid (Below.refl W0.heap.size W0)
  refine (szTree c rt HA.out.reads hl (by omega) 1048576 (by omega) (by omega)).mono ?_
  rintro e w1 ⟨rfl, b⟩
  replace HA := hid (HA.out.below b (Nat.le_refl _))
  replace HC := hid (HC.out.trans (b.mono HC.out.size))
  have S1 := hid (b.size)
  clear b
  by_cases hbig : (1048576 : Int) < (n + sumD szD ds : Nat)
  · rw [show lft11 1048576 (n + sumD szD ds) = -1 by unfold lft11; rw [if_pos hbig]]
    go_wp2_with fail
    go_ret
    exact ⟨rfl, HB0.out.trans (HC.out.mono HB0.out.size)⟩
  obtain ⟨LF, hLF⟩ : ∃ LF : Int, (1048576 : Int) - (n + sumD szD ds : Nat) = LF := ⟨_, rfl⟩
  rw [show lft11 1048576 (n + sumD szD ds) = LF by unfold lft11; rw [if_neg hbig, hLF]]
  have hq0 : ¬ LF < 0 := by omega
  have hn : n ≤ 1048576 := by omega
  have hsz : sumD szD ds ≤ 1048576 := by omega
  have HTx := hid (show ∀ i j, ((ds.getD i nd0).es.getD j en0).Z.length ≤ 2097152 from fun i j => Nat.le_trans (texts_small hsz i j) (by omega))
  clear hbig hLF
  have y0 := (HA.out.box).c0
  have z0 := (HA.out.box).c1
  go_wp2_with fail
  clear y0 z0
  clear hq0
  refine (toTree c rt HA.out.reads hl (by omega) (by omega)).mono ?_
  rintro e w2 ⟨gp, rfl, o, b⟩
  replace HA := hid (HA.out.below b (Nat.le_refl _))
  replace HC := hid (HC.out.trans (b.mono HC.out.size))
  have S2 := hid (b.size)
  clear b
  have PS := hid o
  clear o
  go_wp2_with fail
  refine (spec_TreeHeight n rt PS.out.rd hl HTx.out).mono ?_
  rintro e w3 ⟨rfl, b⟩
  replace HA := hid (HA.out.below b (Nat.le_refl _))
  replace PS := hid (PS.out.below b (by have := S0.out; have := S1.out; have := S2.out; omega))
  replace HC := hid (HC.out.trans (b.mono HC.out.size))
  have S3 := hid (b.size)
  clear b
  clear PS
  obtain ⟨U, hU⟩ : ∃ U, heightS ds rt = U := ⟨_, rfl⟩
  rw [hU]
  have HU := hid hU
  have hq : (U != U) = false := by simp
  clear hU
  have y0 := (HA.out.box).c0
  have z0 := (HA.out.box).c1
  go_wp2_with fail
  clear y0 z0
  refine (toTree c rt HA.out.reads hl (by omega) (by omega)).mono ?_
  rintro e w4 ⟨gx, rfl, o, b⟩
  replace HA := hid (HA.out.below b (Nat.le_refl _))
  replace HC := hid (HC.out.trans (b.mono HC.out.size))
  have S4 := hid (b.size)
  clear b
  have HX := hid o
  clear o
  have hcur := hid (BoxTr.new w4 (.slice (some ⟨gx, 0, none⟩) n n) rt 26)
  have y8 := hcur.out.c0
  have z8 := hcur.out.c1
  go_wp2_with fail
  clear y8 z8 hcur
  have BX := hid (BoxTr.new w4 (.slice (some ⟨gx, 0, none⟩) n n) rt 26)
  have b := Below.alloc1 w4 (.cells #[(.slice (some ⟨gx, 0, none⟩) n n), .int .i64 rt] 26)
  replace HA := hid (HA.out.below b (Nat.le_refl _))
  replace HX := hid (HX.out.below b (by have := S0.out; have := S1.out; have := S2.out; have := S3.out; have := S4.out; omega))
  replace HC := hid (HC.out.trans (b.mono HC.out.size))
  have S5 := hid (alloc_size w4 (.cells #[(.slice (some ⟨gx, 0, none⟩) n n), .int .i64 rt] 26))
  clear b
  generalize w4.alloc (.cells #[(.slice (some ⟨gx, 0, none⟩) n n), .int .i64 rt] 26) = t1 at *
  refine (impl_TreeHeight n rt HX.out.rd hl HTx.out).mono ?_
  rintro e w5 ⟨rfl, b⟩
  replace HA := hid (HA.out.below b (Nat.le_refl _))
  replace HX := hid (HX.out.below b (by have := S0.out; have := S1.out; have := S2.out; have := S3.out; have := S4.out; have := S5.out; omega))
  replace BX := hid (BX.out.below b (Nat.le_refl _))
  replace HC := hid (HC.out.trans (b.mono HC.out.size))
  have S6 := hid (b.size)
  clear b
  rw [HU.out]
  go_wp2_with fail
  replace HA := hid (HA.out.below ((Still.drew w5).below _) (Nat.le_refl _))
  replace HX := hid (HX.out.below ((Still.drew w5).below w5.heap.size) (by have := S0.out; have := S1.out; have := S2.out; have := S3.out; have := S4.out; have := S5.out; have := S6.out; omega))
  replace BX := hid (BX.out.below ((Still.drew w5).below _) (Nat.le_refl _))
  replace HC := hid (HC.out.trans (((Still.drew w5).below _).mono HC.out.size))
  have S7 := hid ((Still.drew w5).size)
  refine region_K 99 (fun W => BoxTr W w.heap.size (.slice a n c) rt ∧ BoxTr W w4.heap.size (.slice (some ⟨gx, 0, none⟩) n n) rt) (by kernel_rfl) ?_ (fun hHeld => ?_)
  · exact ⟨HA.out.box, BX.out⟩
  generalize w5.drew = v0 at *
  refine anyK_take2 (i := 0) (v := ?v1) rfl (by kernel_rfl) (by kernel_rfl) (by kernel_rfl) (by rfl) (fun _ _ _ h => h) (by rfl) hHeld ?hy1 (some 22) (by rfl) ?rest1
  case hy1 => (intro W hSw; obtain ⟨⟨r0, r1⟩, ⟨r2, r3⟩⟩ := hSw; go_simp; (try with_reducible rfl))
  try simp only [Act.put]
  try simp only [List.setIfInBounds_toArray]
  try simp only [List.set_cons_succ, List.set_cons_zero]
  refine anyK_take2 (i := 1) (v := ?v2) rfl (by kernel_rfl) (by kernel_rfl) (by kernel_rfl) (by rfl) (fun _ _ _ h => h) (by rfl) hHeld ?hy2 (some 23) (by rfl) ?rest2
  case hy2 => (intro W hSw; obtain ⟨⟨r0, r1⟩, ⟨r2, r3⟩⟩ := hSw; go_simp; (try with_reducible rfl))
  try simp only [Act.put]
  try simp only [List.setIfInBounds_toArray]
  try simp only [List.set_cons_succ, List.set_cons_zero]
  refine anyK_step (i := 2) (by kernel_rfl) rfl (fun KP hK => ?_)
  go_simp
  refine (toTree c rt HA.out.reads hl (by omega) (by omega)).mono ?_
  rintro e w6 ⟨gy, rfl, o, b⟩
  replace HA := hid (HA.out.below b (Nat.le_refl _))
  replace HX := hid (HX.out.below b (by have := S0.out; have := S1.out; have := S2.out; have := S3.out; have := S4.out; have := S5.out; have := S6.out; have := S7.out; omega))
  replace BX := hid (BX.out.below b (Nat.le_refl _))
  replace HC := hid (HC.out.trans (b.mono HC.out.size))
  have S8 := hid (b.size)
  clear b
  have PY := hid o
  clear o
  go_wp2_with fail
  refine hK.out _ _ ?_ (fun hH2 => ?_)
  · exact ⟨HA.out.box, BX.out⟩
  clear hK KP hHeld
  have hHeld := hH2
  clear hH2
  try simp only [Act.put]
  try simp only [List.setIfInBounds_toArray]
  try simp only [List.set_cons_succ, List.set_cons_zero]
  refine anyK_step (i := 3) (by kernel_rfl) rfl (fun KP hK => ?_)
  go_simp
  refine (eqTree n n rt HX.out.rd PY.out.rd hl (by omega) (by omega)).mono ?_
  rintro e w7 ⟨rfl, b⟩
  replace HA := hid (HA.out.below b (Nat.le_refl _))
  replace HX := hid (HX.out.below b (by have := S0.out; have := S1.out; have := S2.out; have := S3.out; have := S4.out; have := S5.out; have := S6.out; have := S7.out; have := S8.out; omega))
  replace BX := hid (BX.out.below b (Nat.le_refl _))
  replace PY := hid (PY.out.below b (by have := S0.out; have := S1.out; have := S2.out; have := S3.out; have := S4.out; have := S5.out; have := S6.out; have := S7.out; have := S8.out; omega))
  replace HC := hid (HC.out.trans (b.mono HC.out.size))
  have S9 := hid (b.size)
  clear b
  clear PY
  go_wp2_with fail
  refine hK.out _ _ ?_ (fun hH2 => ?_)
  · exact ⟨HA.out.box, BX.out⟩
  clear hK KP hHeld
  have hHeld := hH2
  clear hH2
  try simp only [Act.put]
  try simp only [List.setIfInBounds_toArray]
  try simp only [List.set_cons_succ, List.set_cons_zero]
  refine anyK_step (i := 4) (by kernel_rfl) rfl (fun KP hK => ?_)
  go_simp
  refine hK.out _ _ ?_ (fun hH2 => ?_)
  · exact ⟨HA.out.box, BX.out⟩
  clear hK KP hHeld
  have hHeld := hH2
  clear hH2
  try simp only [Act.put]
  try simp only [List.setIfInBounds_toArray]
  try simp only [List.set_cons_succ, List.set_cons_zero]
  refine anyK_done (by kernel_rfl) ?_ _
  clear hHeld
  go_wp2_with fail
  go_ret
  exact ⟨rfl, HB0.out.trans (HC.out.mono HB0.out.size)⟩
end Go.Proofs.Ytnjofaiekofamaa
