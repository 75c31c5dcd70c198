/- FnExactPageClear's walk. -/
import Derived.Test.YtdfieopdbpklnaaWp
import Derived.Test.YtdfieopdbpklnaaPy
import Derived.Test.YtdfieopdbpklnaaRk3
import Derived.Deep.RegionHeld3
namespace Go.Proofs.Ytdfieopdbpklnaa
open Go.RowKit
set_option maxRecDepth 100000

set_option maxHeartbeats 12800000 in
theorem exactPageClear (L : Int) {a : Option Addr} {n : Nat} (c : Nat) {ss : List (List Int)} (slot lsn : Int) {w : World} (h : ReadsS w a ss) (hl : ss.length = n) (hn0 : n ≤ maxLen) :
    Calls Try.prog 9 #[.agg #[.int .i64 L, .slice a n c], .int .i64 slot, .int .i64 lsn] w fun e w' => e = .returned (.bool true) ∧ Below w.heap.size w w' := by
  unfold maxLen at hn0
  have HA0 := hid h
  have HA := hid (ArgP.new L n c h 41 w.heap.size rfl)
  have HB := hid (Below.alloc1 w (.cells #[.int .i64 L, .slice a n c] 41))
  clear h
  go_enter Try.func9, Try.ntmps9
  go_wp2_with fail
  have S0 := hid (alloc_size w (.cells #[.int .i64 L, .slice a n c] 41))
  generalize w.alloc (.cells #[.int .i64 L, .slice a n c] 41) = W0 at *
  refine (szPage L c HA.out.reads hl (by omega)).mono ?_
  rintro e w1 ⟨rfl, b⟩
  replace HA := hid (HA.out.below b (Nat.le_refl _))
  replace HB := hid (HB.out.trans (b.mono HB.out.size))
  have S1 := hid (b.size)
  clear b
  by_cases hbig : (1048576 : Int) < (n + tot ss : Nat)
  · rw [show lft 1048576 (n + tot ss) = -1 by unfold lft; rw [if_pos hbig]]
    go_wp2_with fail
    go_ret
    exact ⟨rfl, HB.out⟩
  obtain ⟨LF, hLF⟩ : ∃ LF : Int, (1048576 : Int) - (n + tot ss : Nat) = LF := ⟨_, rfl⟩
  rw [show lft 1048576 (n + tot ss) = LF by unfold lft; rw [if_neg hbig, hLF]]
  have hq0 : ¬ LF < 0 := by omega
  have hn : n ≤ 1048576 := by omega
  have HT := hid (show tot ss ≤ 1048576 by omega)
  have HS5 := hid (fun i => show (ss.getD i []).length ≤ 2097152 by have := tot_at ss i; have := HT.out; omega)
  clear hbig hLF
  obtain ⟨RL, RS, hR⟩ : ∃ (RL : Int) (RS : List (List Int)), clearP L ss slot lsn = (RL, RS) := ⟨_, _, rfl⟩
  obtain ⟨ok, hok⟩ : ∃ ok, clearOk L ss slot lsn = ok := ⟨_, rfl⟩
  have sm := clear_small hR
  obtain ⟨m, hm⟩ : ∃ m, RS.length = m := ⟨_, rfl⟩
  have hm16 : m ≤ 16 := by have := sm.n; omega
  have HR5 := hid (fun i => Nat.le_trans (sm.z i) (show 92 ≤ 2097152 by omega))
  have hT := sm.t
  have HR := hid hR
  have HOK := hid hok
  have HM := hid hm
  have hq : (ok != ok) = false := by cases ok <;> rfl
  clear hR hok hm sm
  obtain ⟨y00, y01⟩ := HA.out.box
  go_wp2_with fail
  clear y00 y01
  clear hq0
  refine (toPage L c HA.out.reads hl (by omega) HS5.out).mono ?_
  rintro e w2 ⟨gg, rfl, o, b⟩
  replace HA := hid (HA.out.below b (Nat.le_refl _))
  replace HB := hid (HB.out.trans (b.mono HB.out.size))
  have S2 := hid (b.size)
  clear b
  have P := hid o.rd
  clear o
  go_wp2_with fail
  refine (spec_PageClear L n slot lsn P.out hl HR.out HOK.out HM.out).mono ?_
  rintro e w3 ⟨aQ, cQ, rfl, o, b⟩
  replace HA := hid (HA.out.below b (Nat.le_refl _))
  replace P := hid (P.out.below b (Nat.le_refl _))
  replace HB := hid (HB.out.trans (b.mono HB.out.size))
  have S3 := hid (b.size)
  clear b
  clear P
  have OQ := hid o
  clear o
  obtain ⟨y00, y01⟩ := (HA.out.alloc (.cells #[.int .i64 RL, .slice aQ m cQ] 26)).box
  go_wp2_with fail
  clear y00 y01
  have HQ := hid (OwnB.new (n := m) (c := cQ) RL OQ.out 26 w3.heap.size rfl)
  have bA := Below.alloc1 w3 (.cells #[.int .i64 RL, .slice aQ m cQ] 26)
  replace HA := hid (HA.out.below bA (Nat.le_refl _))
  replace HB := hid (HB.out.trans (bA.mono HB.out.size))
  have S4 := hid (alloc_size w3 (.cells #[.int .i64 RL, .slice aQ m cQ] 26))
  clear bA
  generalize w3.alloc (.cells #[.int .i64 RL, .slice aQ m cQ] 26) = t1 at *
  clear OQ
  refine (toPage L c HA.out.reads hl (by omega) HS5.out).mono ?_
  rintro e w4 ⟨gx, rfl, o, b⟩
  replace HA := hid (HA.out.below b (Nat.le_refl _))
  replace HQ := hid (HQ.out.below b (Nat.le_refl _))
  replace HB := hid (HB.out.trans (b.mono HB.out.size))
  have S5 := hid (b.size)
  clear b
  have OX := hid o
  clear o
  go_wp2_with fail
  have HX := hid (OwnB.new (n := n) (c := n) L OX.out 26 w4.heap.size rfl)
  have bA := Below.alloc1 w4 (.cells #[.int .i64 L, .slice (some ⟨gx, 0, none⟩) n n] 26)
  replace HA := hid (HA.out.below bA (Nat.le_refl _))
  replace HQ := hid (HQ.out.below bA (Nat.le_refl _))
  replace HB := hid (HB.out.trans (bA.mono HB.out.size))
  have S6 := hid (alloc_size w4 (.cells #[.int .i64 L, .slice (some ⟨gx, 0, none⟩) n n] 26))
  clear bA
  generalize w4.alloc (.cells #[.int .i64 L, .slice (some ⟨gx, 0, none⟩) n n] 26) = t2 at *
  clear OX
  refine (impl_PageClear L n slot lsn HX.out.reads hl (by omega) HR.out HOK.out HM.out).mono ?_
  rintro e w5 ⟨aG, cG, rfl, o, b⟩
  replace HA := hid (HA.out.below b (Nat.le_refl _))
  replace HQ := hid (HQ.out.below b (Nat.le_refl _))
  replace HX := hid (HX.out.below b (Nat.le_refl _))
  replace HB := hid (HB.out.trans (b.mono HB.out.size))
  have S7 := hid (b.size)
  clear b
  have OG := hid o
  clear o
  obtain ⟨y00, y01⟩ := (HQ.out.alloc (.cells #[.int .i64 RL, .slice aG m cG] 26)).box
  go_wp2_with fail
  clear y00 y01
  have HG := hid (OwnB.new (n := m) (c := cG) RL OG.out 26 w5.heap.size rfl)
  have bA := Below.alloc1 w5 (.cells #[.int .i64 RL, .slice aG m cG] 26)
  replace HA := hid (HA.out.below bA (Nat.le_refl _))
  replace HQ := hid (HQ.out.below bA (Nat.le_refl _))
  replace HX := hid (HX.out.below bA (Nat.le_refl _))
  replace HB := hid (HB.out.trans (bA.mono HB.out.size))
  have S8 := hid (alloc_size w5 (.cells #[.int .i64 RL, .slice aG m cG] 26))
  clear bA
  generalize w5.alloc (.cells #[.int .i64 RL, .slice aG m cG] 26) = t3 at *
  clear OG
  refine (eqPage RL cG cQ HG.out.reads HQ.out.reads HM.out (by omega) HR5.out).mono ?_
  rintro e w6 ⟨rfl, b⟩
  replace HA := hid (HA.out.below b (Nat.le_refl _))
  replace HQ := hid (HQ.out.below b (Nat.le_refl _))
  replace HX := hid (HX.out.below b (Nat.le_refl _))
  replace HG := hid (HG.out.below b (Nat.le_refl _))
  replace HB := hid (HB.out.trans (b.mono HB.out.size))
  have S9 := hid (b.size)
  clear b
  go_wp2_with fail
  replace HA := hid (HA.out.below ((Still.drew w6).below _) (Nat.le_refl _))
  replace HQ := hid (HQ.out.below ((Still.drew w6).below _) (Nat.le_refl _))
  replace HX := hid (HX.out.below ((Still.drew w6).below _) (Nat.le_refl _))
  replace HG := hid (HG.out.below ((Still.drew w6).below _) (Nat.le_refl _))
  replace HB := hid (HB.out.trans (((Still.drew w6).below _).mono HB.out.size))
  have S10 := hid ((Still.drew w6).size)
  refine region_K 99 (fun W => BoxP W w.heap.size L a n c ∧ BoxP W w4.heap.size L (some ⟨gx, 0, none⟩) n n) (by kernel_rfl) ?_ (fun hHeld => ?_)
  · exact ⟨HA.out.box, HX.out.box⟩
  generalize w6.drew = v0 at *
  refine anyK_take2 (i := 0) (v := ?v1) rfl (by kernel_rfl) (by kernel_rfl) (by kernel_rfl) (by rfl) (fun _ _ _ h => h) (by rfl) hHeld ?hy1 (some 49) (by rfl) ?rest1
  case hy1 => (intro W hSw; obtain ⟨⟨r0, r1⟩, ⟨r2, r3⟩⟩ := hSw; go_simp; (try with_reducible rfl))
  try simp only [Act.put]
  try simp only [List.setIfInBounds_toArray]
  try simp only [List.set_cons_succ, List.set_cons_zero]
  refine anyK_take2 (i := 1) (v := ?v2) rfl (by kernel_rfl) (by kernel_rfl) (by kernel_rfl) (by rfl) (fun _ _ _ h => h) (by rfl) hHeld ?hy2 (some 50) (by rfl) ?rest2
  case hy2 => (intro W hSw; obtain ⟨⟨r0, r1⟩, ⟨r2, r3⟩⟩ := hSw; go_simp; (try with_reducible rfl))
  try simp only [Act.put]
  try simp only [List.setIfInBounds_toArray]
  try simp only [List.set_cons_succ, List.set_cons_zero]
  refine anyK_step (i := 2) (by kernel_rfl) rfl (fun KP hK => ?_)
  go_simp
  refine (toPage L c HA.out.reads hl (by omega) HS5.out).mono ?_
  rintro e w7 ⟨gy, rfl, o, b⟩
  replace HA := hid (HA.out.below b (Nat.le_refl _))
  replace HQ := hid (HQ.out.below b (Nat.le_refl _))
  replace HX := hid (HX.out.below b (Nat.le_refl _))
  replace HG := hid (HG.out.below b (Nat.le_refl _))
  replace HB := hid (HB.out.trans (b.mono HB.out.size))
  have S11 := hid (b.size)
  clear b
  have PY := hid o.rd
  clear o
  go_wp2_with fail
  refine hK.out _ _ ?_ (fun hH2 => ?_)
  · exact ⟨HA.out.box, HX.out.box⟩
  clear hK KP hHeld
  have hHeld := hH2
  clear hH2
  try simp only [Act.put]
  try simp only [List.setIfInBounds_toArray]
  try simp only [List.set_cons_succ, List.set_cons_zero]
  refine anyK_step (i := 3) (by kernel_rfl) rfl (fun KP hK => ?_)
  go_simp
  refine (eqPage L n n HX.out.reads PY.out hl (by omega) HS5.out).mono ?_
  rintro e w8 ⟨rfl, b⟩
  replace HA := hid (HA.out.below b (Nat.le_refl _))
  replace HQ := hid (HQ.out.below b (Nat.le_refl _))
  replace HX := hid (HX.out.below b (Nat.le_refl _))
  replace HG := hid (HG.out.below b (Nat.le_refl _))
  replace PY := hid (PY.out.below b (Nat.le_refl _))
  replace HB := hid (HB.out.trans (b.mono HB.out.size))
  have S12 := hid (b.size)
  clear b
  clear PY
  go_wp2_with fail
  refine hK.out _ _ ?_ (fun hH2 => ?_)
  · exact ⟨HA.out.box, HX.out.box⟩
  clear hK KP hHeld
  have hHeld := hH2
  clear hH2
  try simp only [Act.put]
  try simp only [List.setIfInBounds_toArray]
  try simp only [List.set_cons_succ, List.set_cons_zero]
  refine anyK_step (i := 4) (by kernel_rfl) rfl (fun KP hK => ?_)
  go_simp
  refine hK.out _ _ ?_ (fun hH2 => ?_)
  · exact ⟨HA.out.box, HX.out.box⟩
  clear hK KP hHeld
  have hHeld := hH2
  clear hH2
  try simp only [Act.put]
  try simp only [List.setIfInBounds_toArray]
  try simp only [List.set_cons_succ, List.set_cons_zero]
  refine anyK_done (by kernel_rfl) ?_ _
  clear hHeld
  obtain ⟨y00, y01⟩ := HX.out.box
  go_wp2_with fail
  clear y00 y01
  refine (markPage L n 1 HX.out.own (Nat.le_of_lt HX.out.lt) hl (by omega) (by have := HT.out; omega) (by omega) (by omega)).mono ?_
  rintro e w9 ⟨rfl, _, g⟩
  have zS0 := S0.out
  have zS1 := S1.out
  have zS2 := S2.out
  have zS3 := S3.out
  have zS4 := S4.out
  have zS5 := S5.out
  have zS6 := S6.out
  have zS7 := S7.out
  have zS8 := S8.out
  have zS9 := S9.out
  have zS10 := S10.out
  have zS11 := S11.out
  have zS12 := S12.out
  have hxl := HX.out.lt
  replace HB := hid (HB.out.trans ((g.below (by omega)).mono (show w.heap.size ≤ t1.heap.size by omega)))
  replace HA := hid (HA.out.within g (.inl (by omega)) (HA0.out.below HB.out (Nat.le_refl _)))
  replace HQ := hid (HQ.out.within g (.inr (by omega)))
  replace HG := hid (HG.out.within g (.inl ⟨by omega, by omega⟩))
  have S13 := hid (g.size)
  clear HX g hxl zS0 zS1 zS2 zS3 zS4 zS5 zS6 zS7 zS8 zS9 zS10 zS11 zS12
  have hk : ¬ (1 + (tot ss : Int)) < 0 := by omega
  obtain ⟨y00, y01⟩ := HG.out.box
  obtain ⟨y10, y11⟩ := HQ.out.box
  go_wp2_with fail
  clear y00 y01 y10 y11
  refine (eqPage RL cG cQ HG.out.reads HQ.out.reads HM.out (by omega) HR5.out).mono ?_
  rintro e w10 ⟨rfl, b⟩
  replace HA := hid (HA.out.below b (Nat.le_refl _))
  replace HQ := hid (HQ.out.below b (Nat.le_refl _))
  replace HG := hid (HG.out.below b (Nat.le_refl _))
  replace HB := hid (HB.out.trans (b.mono HB.out.size))
  have S14 := hid (b.size)
  clear b
  clear hk
  obtain ⟨y00, y01⟩ := HG.out.box
  go_wp2_with fail
  clear y00 y01
  refine (markPage RL cG 1 HG.out.own (Nat.le_of_lt HG.out.lt) HM.out (by omega) (by omega) (by omega) (by omega)).mono ?_
  rintro e w11 ⟨rfl, o, g⟩
  have zS0 := S0.out
  have zS1 := S1.out
  have zS2 := S2.out
  have zS3 := S3.out
  have zS4 := S4.out
  have zS5 := S5.out
  have zS6 := S6.out
  have zS7 := S7.out
  have zS8 := S8.out
  have zS9 := S9.out
  have zS10 := S10.out
  have zS11 := S11.out
  have zS12 := S12.out
  have zS13 := S13.out
  have zS14 := S14.out
  have hxl := HG.out.lt
  replace HB := hid (HB.out.trans ((g.below (by omega)).mono (show w.heap.size ≤ t2.heap.size by omega)))
  replace HA := hid (HA.out.within g (.inl (by omega)) (HA0.out.below HB.out (Nat.le_refl _)))
  replace HQ := hid (HQ.out.within g (.inr (by omega)))
  replace HG := hid (HG.out.self g o)
  have S15 := hid (g.size)
  clear o g hxl zS0 zS1 zS2 zS3 zS4 zS5 zS6 zS7 zS8 zS9 zS10 zS11 zS12 zS13 zS14
  have hk : ¬ (1 + (tot RS : Int)) < 0 := by omega
  have hk5 : (1 + (tot RS : Int) != 1 + (tot RS : Int)) = false := by simp
  obtain ⟨y00, y01⟩ := HG.out.box
  go_wp2_with fail
  clear y00 y01
  refine (heldPage RL cG 1 HG.out.reads HM.out (by omega) (by omega) (by omega) (by omega)).mono ?_
  rintro e w12 ⟨rfl, b⟩
  replace HA := hid (HA.out.below b (Nat.le_refl _))
  replace HQ := hid (HQ.out.below b (Nat.le_refl _))
  replace HG := hid (HG.out.below b (Nat.le_refl _))
  replace HB := hid (HB.out.trans (b.mono HB.out.size))
  have S16 := hid (b.size)
  clear b
  obtain ⟨y00, y01⟩ := HA.out.box
  go_wp2_with fail
  clear y00 y01
  refine (toPage L c HA.out.reads hl (by omega) HS5.out).mono ?_
  rintro e w13 ⟨gz, rfl, o, b⟩
  replace HA := hid (HA.out.below b (Nat.le_refl _))
  replace HQ := hid (HQ.out.below b (Nat.le_refl _))
  replace HG := hid (HG.out.below b (Nat.le_refl _))
  replace HB := hid (HB.out.trans (b.mono HB.out.size))
  have S17 := hid (b.size)
  clear b
  have P := hid o.rd
  clear o
  go_wp2_with fail
  refine (impl_PageClear L n slot lsn P.out hl (by omega) HR.out HOK.out HM.out).mono ?_
  rintro e w14 ⟨aH, cH, rfl, o, b⟩
  replace HA := hid (HA.out.below b (Nat.le_refl _))
  replace HQ := hid (HQ.out.below b (Nat.le_refl _))
  replace HG := hid (HG.out.below b (Nat.le_refl _))
  replace P := hid (P.out.below b (Nat.le_refl _))
  replace HB := hid (HB.out.trans (b.mono HB.out.size))
  have S18 := hid (b.size)
  clear b
  clear P
  have OH := hid o
  clear o
  obtain ⟨y00, y01⟩ := (HQ.out.alloc (.cells #[.int .i64 RL, .slice aH m cH] 26)).box
  go_wp2_with fail
  clear y00 y01
  have HH := hid (OwnB.new (n := m) (c := cH) RL OH.out 26 w14.heap.size rfl)
  have bA := Below.alloc1 w14 (.cells #[.int .i64 RL, .slice aH m cH] 26)
  replace HA := hid (HA.out.below bA (Nat.le_refl _))
  replace HQ := hid (HQ.out.below bA (Nat.le_refl _))
  replace HG := hid (HG.out.below bA (Nat.le_refl _))
  replace HB := hid (HB.out.trans (bA.mono HB.out.size))
  have S19 := hid (alloc_size w14 (.cells #[.int .i64 RL, .slice aH m cH] 26))
  clear bA
  generalize w14.alloc (.cells #[.int .i64 RL, .slice aH m cH] 26) = t4 at *
  clear OH
  refine (eqPage RL cH cQ HH.out.reads HQ.out.reads HM.out (by omega) HR5.out).mono ?_
  rintro e w15 ⟨rfl, b⟩
  replace HA := hid (HA.out.below b (Nat.le_refl _))
  replace HQ := hid (HQ.out.below b (Nat.le_refl _))
  replace HG := hid (HG.out.below b (Nat.le_refl _))
  replace HH := hid (HH.out.below b (Nat.le_refl _))
  replace HB := hid (HB.out.trans (b.mono HB.out.size))
  have S20 := hid (b.size)
  clear b
  obtain ⟨y00, y01⟩ := HG.out.box
  go_wp2_with fail
  clear y00 y01
  refine (heldPage RL cG 1 HG.out.reads HM.out (by omega) (by omega) (by omega) (by omega)).mono ?_
  rintro e w16 ⟨rfl, b⟩
  replace HA := hid (HA.out.below b (Nat.le_refl _))
  replace HQ := hid (HQ.out.below b (Nat.le_refl _))
  replace HG := hid (HG.out.below b (Nat.le_refl _))
  replace HH := hid (HH.out.below b (Nat.le_refl _))
  replace HB := hid (HB.out.trans (b.mono HB.out.size))
  have S21 := hid (b.size)
  clear b
  go_wp2_with fail
  go_ret
  exact ⟨rfl, HB.out⟩
end Go.Proofs.Ytdfieopdbpklnaa
