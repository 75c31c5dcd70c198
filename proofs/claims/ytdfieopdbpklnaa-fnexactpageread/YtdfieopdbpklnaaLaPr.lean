/- FnExactPageRead's walk. -/
import Derived.Test.YtdfieopdbpklnaaRt7
import Derived.Test.YtdfieopdbpklnaaPy
import Derived.Test.YtdfieopdbpklnaaRk3
import Derived.Deep.RegionHeld3
namespace Go.Proofs.Ytdfieopdbpklnaa
open Go.RowKit
set_option maxRecDepth 100000

set_option maxHeartbeats 12800000 in
theorem exactPageRead {aD : Option Addr} {nD : Nat} (cD : Nat) {zs : List Int} {w : World} (hd : Reads w aD nD zs) (hD0 : nD ≤ maxLen) :
    Calls Try.prog 11 #[.slice aD nD cD] w fun e w' => e = .returned (.bool true) ∧ Below w.heap.size w w' := by
  unfold maxLen at hD0
  have HB := hid (Below.refl w.heap.size w)
  have HD0 := hid hd
  have HD := hid hd
  clear hd
  by_cases hbigD : 1048576 < nD
  · have hbigD' : (1048576 : Int) < (nD : Int) := by omega
    go_enter Try.func11, Try.ntmps11
    go_wp2_with fail
    go_ret
    exact ⟨rfl, HB.out⟩
  have hnD : nD ≤ 1048576 := by omega
  have hnD' : ¬ (1048576 : Int) < (nD : Int) := by omega
  clear hbigD
  obtain ⟨RL, RS, hR⟩ : ∃ (RL : Int) (RS : List (List Int)), (readP zs).getD (0, []) = (RL, RS) := ⟨_, _, rfl⟩
  obtain ⟨ok, hok⟩ : ∃ ok, (readP zs).isSome = ok := ⟨_, rfl⟩
  have sm := read_small hR
  obtain ⟨m, hm⟩ : ∃ m, RS.length = m := ⟨_, rfl⟩
  have hm16 : m ≤ 16 := by have := sm.n; omega
  have HR5 := hid (fun i => Nat.le_trans (sm.z i) (show 92 ≤ 2097152 by omega))
  have hT := sm.t
  have HR := hid hR
  have HOK := hid hok
  have HM := hid hm
  have hq : (ok != ok) = false := by cases ok <;> rfl
  clear hR hok hm sm
  go_enter Try.func11, Try.ntmps11
  go_wp2_with fail
  refine (toByteS_any cD HD.out (by omega)).mono ?_
  rintro e w1 ⟨rfl, o, b⟩
  replace HD := hid (HD.out.below b (Nat.le_refl _))
  replace HB := hid (HB.out.trans (b.mono HB.out.size))
  have S0 := hid (b.size)
  obtain ⟨_, _, e1, p, _⟩ := Reads.own o HD0.out.bd
  obtain ⟨rfl, _, rfl⟩ := Value.slice.inj e1
  have PX := hid p
  clear e1 p
  clear o b
  go_wp2_with fail
  refine (spec_PageRead PX.out (Nat.le_refl _) (by omega) HR.out HOK.out HM.out).mono ?_
  rintro e w2 ⟨aQ, cQ, rfl, o, b⟩
  replace HD := hid (HD.out.below b (Nat.le_refl _))
  replace PX := hid (PX.out.below b (Nat.le_refl _))
  replace HB := hid (HB.out.trans (b.mono HB.out.size))
  have S1 := hid (b.size)
  clear b
  clear PX
  have OQ := hid o
  clear o
  go_wp2_with fail
  have HQ := hid (OwnB.new (n := m) (c := cQ) RL OQ.out 26 w2.heap.size rfl)
  have bA := Below.alloc1 w2 (.cells #[.int .i64 RL, .slice aQ m cQ] 26)
  replace HD := hid (HD.out.below bA (Nat.le_refl _))
  replace HB := hid (HB.out.trans (bA.mono HB.out.size))
  have S2 := hid (alloc_size w2 (.cells #[.int .i64 RL, .slice aQ m cQ] 26))
  clear bA
  generalize w2.alloc (.cells #[.int .i64 RL, .slice aQ m cQ] 26) = t1 at *
  clear OQ
  refine (toByteS_any cD HD.out (by omega)).mono ?_
  rintro e w3 ⟨rfl, o, b⟩
  replace HD := hid (HD.out.below b (Nat.le_refl _))
  replace HQ := hid (HQ.out.below b (Nat.le_refl _))
  replace HB := hid (HB.out.trans (b.mono HB.out.size))
  have S3 := hid (b.size)
  obtain ⟨_, _, e1, p, _⟩ := Reads.own o HD0.out.bd
  obtain ⟨rfl, _, rfl⟩ := Value.slice.inj e1
  have HY := hid p
  clear e1 p
  have OY := hid o
  have S4 := hid ((o.lt t1.heap.size rfl).2)
  clear o b
  go_wp2_with fail
  refine (impl_PageRead HY.out (Nat.le_refl _) (by omega) HR.out HOK.out HM.out).mono ?_
  rintro e w4 ⟨aG, cG, rfl, o, b⟩
  replace HD := hid (HD.out.below b (Nat.le_refl _))
  replace HQ := hid (HQ.out.below b (Nat.le_refl _))
  replace OY := hid (owns_below b (Nat.le_refl _) OY.out)
  replace HY := hid (HY.out.below b (Nat.le_refl _))
  replace HB := hid (HB.out.trans (b.mono HB.out.size))
  have S5 := hid (b.size)
  clear b
  have OG := hid o
  clear o
  obtain ⟨y00, y01⟩ := (HQ.out.alloc (.cells #[.int .i64 RL, .slice aG m cG] 26)).box
  go_wp2_with fail
  clear y00 y01
  have HG := hid (OwnB.new (n := m) (c := cG) RL OG.out 26 w4.heap.size rfl)
  have bA := Below.alloc1 w4 (.cells #[.int .i64 RL, .slice aG m cG] 26)
  replace HD := hid (HD.out.below bA (Nat.le_refl _))
  replace HQ := hid (HQ.out.below bA (Nat.le_refl _))
  replace OY := hid (owns_below bA (Nat.le_refl _) OY.out)
  replace HY := hid (HY.out.below bA (Nat.le_refl _))
  replace HB := hid (HB.out.trans (bA.mono HB.out.size))
  have S6 := hid (alloc_size w4 (.cells #[.int .i64 RL, .slice aG m cG] 26))
  clear bA
  generalize w4.alloc (.cells #[.int .i64 RL, .slice aG m cG] 26) = t2 at *
  clear OG
  refine (eqPage RL cG cQ HG.out.reads HQ.out.reads HM.out (by omega) HR5.out).mono ?_
  rintro e w5 ⟨rfl, b⟩
  replace HD := hid (HD.out.below b (Nat.le_refl _))
  replace HQ := hid (HQ.out.below b (Nat.le_refl _))
  replace OY := hid (owns_below b (Nat.le_refl _) OY.out)
  replace HY := hid (HY.out.below b (Nat.le_refl _))
  replace HG := hid (HG.out.below b (Nat.le_refl _))
  replace HB := hid (HB.out.trans (b.mono HB.out.size))
  have S7 := hid (b.size)
  clear b
  go_wp2_with fail
  refine (toByteS_any cD HD.out (by omega)).mono ?_
  rintro e w6 ⟨rfl, o, b⟩
  replace HD := hid (HD.out.below b (Nat.le_refl _))
  replace HQ := hid (HQ.out.below b (Nat.le_refl _))
  replace OY := hid (owns_below b (Nat.le_refl _) OY.out)
  replace HY := hid (HY.out.below b (Nat.le_refl _))
  replace HG := hid (HG.out.below b (Nat.le_refl _))
  replace HB := hid (HB.out.trans (b.mono HB.out.size))
  have S8 := hid (b.size)
  obtain ⟨_, _, e1, p, _⟩ := Reads.own o HD0.out.bd
  obtain ⟨rfl, _, rfl⟩ := Value.slice.inj e1
  have PX := hid p
  clear e1 p
  clear o b
  go_wp2_with fail
  refine (eqByteS_any nD nD HY.out PX.out (by omega)).mono ?_
  rintro e w7 ⟨rfl, st⟩
  have b := st.below w6.heap.size
  clear st
  replace HD := hid (HD.out.below b (Nat.le_refl _))
  replace HQ := hid (HQ.out.below b (Nat.le_refl _))
  replace OY := hid (owns_below b (Nat.le_refl _) OY.out)
  replace HY := hid (HY.out.below b (Nat.le_refl _))
  replace HG := hid (HG.out.below b (Nat.le_refl _))
  replace PX := hid (PX.out.below b (Nat.le_refl _))
  replace HB := hid (HB.out.trans (b.mono HB.out.size))
  have S9 := hid (b.size)
  clear b
  clear PX
  clear HY
  have hk : ¬ (1 + (nD : Int)) < 0 := by omega
  go_wp2_with fail
  refine (markByteS_any 1 (by omega) (by omega) (by omega) OY.out).mono ?_
  rintro e w8 ⟨rfl, _, g⟩
  have g' : Within t1.heap.size (t1.heap.size + 1) w7 w8 := Within.grown g (fun k hk => by cases hk; exact ⟨Nat.le_refl _, Nat.lt_succ_self _⟩)
  have zS0 := S0.out
  have zS1 := S1.out
  have zS2 := S2.out
  have zS3 := S3.out
  have zS4 := S4.out
  have zS5 := S5.out
  have zS6 := S6.out
  have zS7 := S7.out
  have zS8 := S8.out
  have zS9 := S9.out
  replace HB := hid (HB.out.trans ((g'.below (Nat.le_of_lt (OY.out.lt _ rfl).2)).mono (show w.heap.size ≤ t1.heap.size by omega)))
  replace HD := hid (HD0.out.below HB.out (Nat.le_refl _))
  replace HQ := hid (HQ.out.within g' (.inr (by omega)))
  replace HG := hid (HG.out.within g' (.inl ⟨by omega, by omega⟩))
  have S10 := hid (g'.size)
  clear OY g g' zS0 zS1 zS2 zS3 zS4 zS5 zS6 zS7 zS8 zS9
  obtain ⟨y00, y01⟩ := HG.out.box
  obtain ⟨y10, y11⟩ := HQ.out.box
  go_wp2_with fail
  clear y00 y01 y10 y11
  refine (eqPage RL cG cQ HG.out.reads HQ.out.reads HM.out (by omega) HR5.out).mono ?_
  rintro e w9 ⟨rfl, b⟩
  replace HD := hid (HD.out.below b (Nat.le_refl _))
  replace HQ := hid (HQ.out.below b (Nat.le_refl _))
  replace HG := hid (HG.out.below b (Nat.le_refl _))
  replace HB := hid (HB.out.trans (b.mono HB.out.size))
  have S11 := hid (b.size)
  clear b
  clear hk
  obtain ⟨y00, y01⟩ := HG.out.box
  go_wp2_with fail
  clear y00 y01
  refine (markPage RL cG 1 HG.out.own (Nat.le_of_lt HG.out.lt) HM.out (by omega) (by omega) (by omega) (by omega)).mono ?_
  rintro e w10 ⟨rfl, o, g⟩
  have zS0 := S0.out
  have zS1 := S1.out
  have zS2 := S2.out
  have zS3 := S3.out
  have zS4 := S4.out
  have zS5 := S5.out
  have zS6 := S6.out
  have zS7 := S7.out
  have zS8 := S8.out
  have zS9 := S9.out
  have zS10 := S10.out
  have zS11 := S11.out
  have hxl := HG.out.lt
  replace HB := hid (HB.out.trans ((g.below (by omega)).mono (show w.heap.size ≤ w3.heap.size by omega)))
  replace HD := hid (HD0.out.below HB.out (Nat.le_refl _))
  replace HQ := hid (HQ.out.within g (.inr (by omega)))
  replace HG := hid (HG.out.self g o)
  have S12 := hid (g.size)
  clear o g hxl zS0 zS1 zS2 zS3 zS4 zS5 zS6 zS7 zS8 zS9 zS10 zS11
  have hk : ¬ (1 + (tot RS : Int)) < 0 := by omega
  have hk5 : (1 + (tot RS : Int) != 1 + (tot RS : Int)) = false := by simp
  obtain ⟨y00, y01⟩ := HG.out.box
  go_wp2_with fail
  clear y00 y01
  refine (heldPage RL cG 1 HG.out.reads HM.out (by omega) (by omega) (by omega) (by omega)).mono ?_
  rintro e w11 ⟨rfl, b⟩
  replace HD := hid (HD.out.below b (Nat.le_refl _))
  replace HQ := hid (HQ.out.below b (Nat.le_refl _))
  replace HG := hid (HG.out.below b (Nat.le_refl _))
  replace HB := hid (HB.out.trans (b.mono HB.out.size))
  have S13 := hid (b.size)
  clear b
  go_wp2_with fail
  refine (toByteS_any cD HD.out (by omega)).mono ?_
  rintro e w12 ⟨rfl, o, b⟩
  replace HD := hid (HD.out.below b (Nat.le_refl _))
  replace HQ := hid (HQ.out.below b (Nat.le_refl _))
  replace HG := hid (HG.out.below b (Nat.le_refl _))
  replace HB := hid (HB.out.trans (b.mono HB.out.size))
  have S14 := hid (b.size)
  obtain ⟨_, _, e1, p, _⟩ := Reads.own o HD0.out.bd
  obtain ⟨rfl, _, rfl⟩ := Value.slice.inj e1
  have PX := hid p
  clear e1 p
  clear o b
  go_wp2_with fail
  refine (impl_PageRead PX.out (Nat.le_refl _) (by omega) HR.out HOK.out HM.out).mono ?_
  rintro e w13 ⟨aH, cH, rfl, o, b⟩
  replace HD := hid (HD.out.below b (Nat.le_refl _))
  replace HQ := hid (HQ.out.below b (Nat.le_refl _))
  replace HG := hid (HG.out.below b (Nat.le_refl _))
  replace PX := hid (PX.out.below b (Nat.le_refl _))
  replace HB := hid (HB.out.trans (b.mono HB.out.size))
  have S15 := hid (b.size)
  clear b
  clear PX
  have OH := hid o
  clear o
  obtain ⟨y00, y01⟩ := (HQ.out.alloc (.cells #[.int .i64 RL, .slice aH m cH] 26)).box
  go_wp2_with fail
  clear y00 y01
  have HH := hid (OwnB.new (n := m) (c := cH) RL OH.out 26 w13.heap.size rfl)
  have bA := Below.alloc1 w13 (.cells #[.int .i64 RL, .slice aH m cH] 26)
  replace HD := hid (HD.out.below bA (Nat.le_refl _))
  replace HQ := hid (HQ.out.below bA (Nat.le_refl _))
  replace HG := hid (HG.out.below bA (Nat.le_refl _))
  replace HB := hid (HB.out.trans (bA.mono HB.out.size))
  have S16 := hid (alloc_size w13 (.cells #[.int .i64 RL, .slice aH m cH] 26))
  clear bA
  generalize w13.alloc (.cells #[.int .i64 RL, .slice aH m cH] 26) = t3 at *
  clear OH
  refine (eqPage RL cH cQ HH.out.reads HQ.out.reads HM.out (by omega) HR5.out).mono ?_
  rintro e w14 ⟨rfl, b⟩
  replace HD := hid (HD.out.below b (Nat.le_refl _))
  replace HQ := hid (HQ.out.below b (Nat.le_refl _))
  replace HG := hid (HG.out.below b (Nat.le_refl _))
  replace HH := hid (HH.out.below b (Nat.le_refl _))
  replace HB := hid (HB.out.trans (b.mono HB.out.size))
  have S17 := hid (b.size)
  clear b
  obtain ⟨y00, y01⟩ := HG.out.box
  go_wp2_with fail
  clear y00 y01
  refine (heldPage RL cG 1 HG.out.reads HM.out (by omega) (by omega) (by omega) (by omega)).mono ?_
  rintro e w15 ⟨rfl, b⟩
  replace HD := hid (HD.out.below b (Nat.le_refl _))
  replace HQ := hid (HQ.out.below b (Nat.le_refl _))
  replace HG := hid (HG.out.below b (Nat.le_refl _))
  replace HH := hid (HH.out.below b (Nat.le_refl _))
  replace HB := hid (HB.out.trans (b.mono HB.out.size))
  have S18 := hid (b.size)
  clear b
  go_wp2_with fail
  go_ret
  exact ⟨rfl, HB.out⟩
end Go.Proofs.Ytdfieopdbpklnaa
