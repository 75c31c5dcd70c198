/- FnExactPagePlace's walk. -/
import Derived.Test.YtdfieopdbpklnaaPw
import Derived.Test.YtdfieopdbpklnaaRk3
import Derived.Deep.RegionHeld3
namespace Go.Proofs.Ytdfieopdbpklnaa
open Go.RowKit
set_option maxRecDepth 100000

set_option maxHeartbeats 12800000 in
theorem exactPagePlace (L : Int) {a : Option Addr} {n : Nat} (c : Nat) {ss : List (List Int)} (m : Int) {w : World} (h : ReadsS w a ss) (hl : ss.length = n) (hn0 : n ≤ maxLen) :
    Calls Try.prog 7 #[.agg #[.int .i64 L, .slice a n c], .int .i64 m] w fun e w' => e = .returned (.bool true) ∧ Below w.heap.size w w' := by
  unfold maxLen at hn0
  have HA0 := hid h
  have HA := hid (ArgP.new L n c h 41 w.heap.size rfl)
  have HB := hid (Below.alloc1 w (.cells #[.int .i64 L, .slice a n c] 41))
  clear h
  go_enter Try.func7, Try.ntmps7
  go_wp2_with fail
  have S0 := hid (alloc_size w (.cells #[.int .i64 L, .slice a n c] 41))
  generalize w.alloc (.cells #[.int .i64 L, .slice a n c] 41) = W0 at *
  refine (szPage L c HA.out.reads hl (by omega)).mono ?_
  rintro e w1 ⟨rfl, b⟩
  replace HA := hid (HA.out.below b (Nat.le_refl _))
  replace HB := hid (HB.out.trans (b.mono HB.out.size))
  have S1 := hid (b.size)
  clear b
  by_cases hbig : (1048576 : Int) < (n + tot ss : Nat)
  · rw [show lft 1048576 (n + tot ss) = -1 by unfold lft; rw [if_pos hbig]]
    go_wp2_with fail
    go_ret
    exact ⟨rfl, HB.out⟩
  obtain ⟨LF, hLF⟩ : ∃ LF : Int, (1048576 : Int) - (n + tot ss : Nat) = LF := ⟨_, rfl⟩
  rw [show lft 1048576 (n + tot ss) = LF by unfold lft; rw [if_neg hbig, hLF]]
  have hq0 : ¬ LF < 0 := by omega
  have hn : n ≤ 1048576 := by omega
  have HT := hid (show tot ss ≤ 1048576 by omega)
  have HS5 := hid (fun i => show (ss.getD i []).length ≤ 2097152 by have := tot_at ss i; have := HT.out; omega)
  clear hbig hLF
  obtain ⟨y00, y01⟩ := HA.out.box
  go_wp2_with fail
  clear y00 y01
  clear hq0
  refine (toPage L c HA.out.reads hl (by omega) HS5.out).mono ?_
  rintro e w2 ⟨gg, rfl, o, b⟩
  replace HA := hid (HA.out.below b (Nat.le_refl _))
  replace HB := hid (HB.out.trans (b.mono HB.out.size))
  have S2 := hid (b.size)
  clear b
  have P := hid o.rd
  clear o
  go_wp2_with fail
  refine (spec_PagePlace L n m P.out hl (by omega)).mono ?_
  rintro e w3 ⟨rfl, b⟩
  replace HA := hid (HA.out.below b (Nat.le_refl _))
  replace P := hid (P.out.below b (Nat.le_refl _))
  replace HB := hid (HB.out.trans (b.mono HB.out.size))
  have S3 := hid (b.size)
  clear b
  clear P
  obtain ⟨U, hU⟩ : ∃ U, placeP L ss m = U := ⟨_, rfl⟩
  rw [hU]
  have HU := hid hU
  have hq : (U != U) = false := by simp
  clear hU
  obtain ⟨y00, y01⟩ := HA.out.box
  go_wp2_with fail
  clear y00 y01
  refine (toPage L c HA.out.reads hl (by omega) HS5.out).mono ?_
  rintro e w4 ⟨gx, rfl, o, b⟩
  replace HA := hid (HA.out.below b (Nat.le_refl _))
  replace HB := hid (HB.out.trans (b.mono HB.out.size))
  have S4 := hid (b.size)
  clear b
  have OX := hid o
  clear o
  go_wp2_with fail
  have HX := hid (OwnB.new (n := n) (c := n) L OX.out 26 w4.heap.size rfl)
  have bA := Below.alloc1 w4 (.cells #[.int .i64 L, .slice (some ⟨gx, 0, none⟩) n n] 26)
  replace HA := hid (HA.out.below bA (Nat.le_refl _))
  replace HB := hid (HB.out.trans (bA.mono HB.out.size))
  have S5 := hid (alloc_size w4 (.cells #[.int .i64 L, .slice (some ⟨gx, 0, none⟩) n n] 26))
  clear bA
  generalize w4.alloc (.cells #[.int .i64 L, .slice (some ⟨gx, 0, none⟩) n n] 26) = t1 at *
  clear OX
  refine (impl_PagePlace L n m HX.out.reads hl (by omega)).mono ?_
  rintro e w5 ⟨rfl, b⟩
  replace HA := hid (HA.out.below b (Nat.le_refl _))
  replace HX := hid (HX.out.below b (Nat.le_refl _))
  replace HB := hid (HB.out.trans (b.mono HB.out.size))
  have S6 := hid (b.size)
  clear b
  rw [HU.out]
  go_wp2_with fail
  replace HA := hid (HA.out.below ((Still.drew w5).below _) (Nat.le_refl _))
  replace HX := hid (HX.out.below ((Still.drew w5).below _) (Nat.le_refl _))
  replace HB := hid (HB.out.trans (((Still.drew w5).below _).mono HB.out.size))
  have S7 := hid ((Still.drew w5).size)
  refine region_K 99 (fun W => BoxP W w.heap.size L a n c ∧ BoxP W w4.heap.size L (some ⟨gx, 0, none⟩) n n) (by kernel_rfl) ?_ (fun hHeld => ?_)
  · exact ⟨HA.out.box, HX.out.box⟩
  generalize w5.drew = v0 at *
  refine anyK_take2 (i := 0) (v := ?v1) rfl (by kernel_rfl) (by kernel_rfl) (by kernel_rfl) (by rfl) (fun _ _ _ h => h) (by rfl) hHeld ?hy1 (some 26) (by rfl) ?rest1
  case hy1 => (intro W hSw; obtain ⟨⟨r0, r1⟩, ⟨r2, r3⟩⟩ := hSw; go_simp; (try with_reducible rfl))
  try simp only [Act.put]
  try simp only [List.setIfInBounds_toArray]
  try simp only [List.set_cons_succ, List.set_cons_zero]
  refine anyK_take2 (i := 1) (v := ?v2) rfl (by kernel_rfl) (by kernel_rfl) (by kernel_rfl) (by rfl) (fun _ _ _ h => h) (by rfl) hHeld ?hy2 (some 27) (by rfl) ?rest2
  case hy2 => (intro W hSw; obtain ⟨⟨r0, r1⟩, ⟨r2, r3⟩⟩ := hSw; go_simp; (try with_reducible rfl))
  try simp only [Act.put]
  try simp only [List.setIfInBounds_toArray]
  try simp only [List.set_cons_succ, List.set_cons_zero]
  refine anyK_step (i := 2) (by kernel_rfl) rfl (fun KP hK => ?_)
  go_simp
  refine (toPage L c HA.out.reads hl (by omega) HS5.out).mono ?_
  rintro e w6 ⟨gy, rfl, o, b⟩
  replace HA := hid (HA.out.below b (Nat.le_refl _))
  replace HX := hid (HX.out.below b (Nat.le_refl _))
  replace HB := hid (HB.out.trans (b.mono HB.out.size))
  have S8 := hid (b.size)
  clear b
  have PY := hid o.rd
  clear o
  go_wp2_with fail
  refine hK.out _ _ ?_ (fun hH2 => ?_)
  · exact ⟨HA.out.box, HX.out.box⟩
  clear hK KP hHeld
  have hHeld := hH2
  clear hH2
  try simp only [Act.put]
  try simp only [List.setIfInBounds_toArray]
  try simp only [List.set_cons_succ, List.set_cons_zero]
  refine anyK_step (i := 3) (by kernel_rfl) rfl (fun KP hK => ?_)
  go_simp
  refine (eqPage L n n HX.out.reads PY.out hl (by omega) HS5.out).mono ?_
  rintro e w7 ⟨rfl, b⟩
  replace HA := hid (HA.out.below b (Nat.le_refl _))
  replace HX := hid (HX.out.below b (Nat.le_refl _))
  replace PY := hid (PY.out.below b (Nat.le_refl _))
  replace HB := hid (HB.out.trans (b.mono HB.out.size))
  have S9 := hid (b.size)
  clear b
  clear PY
  go_wp2_with fail
  refine hK.out _ _ ?_ (fun hH2 => ?_)
  · exact ⟨HA.out.box, HX.out.box⟩
  clear hK KP hHeld
  have hHeld := hH2
  clear hH2
  try simp only [Act.put]
  try simp only [List.setIfInBounds_toArray]
  try simp only [List.set_cons_succ, List.set_cons_zero]
  refine anyK_step (i := 4) (by kernel_rfl) rfl (fun KP hK => ?_)
  go_simp
  refine hK.out _ _ ?_ (fun hH2 => ?_)
  · exact ⟨HA.out.box, HX.out.box⟩
  clear hK KP hHeld
  have hHeld := hH2
  clear hH2
  try simp only [Act.put]
  try simp only [List.setIfInBounds_toArray]
  try simp only [List.set_cons_succ, List.set_cons_zero]
  refine anyK_done (by kernel_rfl) ?_ _
  clear hHeld
  go_wp2_with fail
  go_ret
  exact ⟨rfl, HB.out⟩
end Go.Proofs.Ytdfieopdbpklnaa
