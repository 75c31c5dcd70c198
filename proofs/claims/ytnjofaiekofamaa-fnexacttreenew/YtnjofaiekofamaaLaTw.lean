/- FnExactTreeNew's walk. No conditions. -/
import Derived.Test.YtnjofaiekofamaaKi11
import Derived.Deep.DeepCutAuto
namespace Go.Proofs.Ytnjofaiekofamaa
open Go.RowKit
set_option maxRecDepth 100000

theorem below_within {B lo hi : Nat} {w V V' : World} (h : Below B w V) (wi : Within lo hi V V') (hB : B ≤ lo) (hl : lo ≤ V.heap.size) : Below B w V' :=
  h.trans ((wi.below hl).mono hB)

set_option maxHeartbeats 6400000 in
theorem exactTreeNew (w : World) :
    Calls Try.prog 4 #[] w fun e w' => e = .returned (.bool true) ∧ Below w.heap.size w w' := by
  have hs0 := hid (show sumD szD leaf0 ≤ 2097152 by decide)
  have hl0 := hid (show leaf0.length = 1 from rfl)
  go_enter Try.func4, Try.ntmps4
  go_wp2_with fail
  refine (spec_TreeNew w).mono ?_
  rintro e w1 ⟨g1, rfl, o1, b1⟩
  have bA := Below.alloc1 w1 (.cells #[(.slice (some ⟨g1, 0, none⟩) 1 1), .int .i64 0] 26)
  have P1 := hid (heap_alloc_new w1 (.cells #[(.slice (some ⟨g1, 0, none⟩) 1 1), .int .i64 0] 26))
  have Z1 := hid (alloc_size w1 (.cells #[(.slice (some ⟨g1, 0, none⟩) 1 1), .int .i64 0] 26))
  have O1 := hid (o1.below bA (Nat.le_refl _))
  have HB := hid (b1.trans (bA.mono b1.size))
  have HS1 := hid b1.size
  clear o1 b1 bA
  go_wp2_with fail
  generalize w1.alloc (.cells #[(.slice (some ⟨g1, 0, none⟩) 1 1), .int .i64 0] 26) = V1 at *
  obtain ⟨q1, hq1⟩ : ∃ q1, w1.heap.size = q1 := ⟨_, rfl⟩
  rw [hq1] at P1 Z1 O1 HS1
  try simp only [hq1]
  clear hq1
  refine (impl_TreeNew V1).mono ?_
  rintro e w2 ⟨g2, rfl, o2, b2⟩
  have bA := Below.alloc1 w2 (.cells #[(.slice (some ⟨g2, 0, none⟩) 1 1), .int .i64 0] 26)
  have P2 := hid (heap_alloc_new w2 (.cells #[(.slice (some ⟨g2, 0, none⟩) 1 1), .int .i64 0] 26))
  have Z2 := hid (alloc_size w2 (.cells #[(.slice (some ⟨g2, 0, none⟩) 1 1), .int .i64 0] 26))
  have hz1 := Z1.out
  have bb := b2.trans (bA.mono b2.size)
  replace O1 := hid (O1.out.below bb (by omega))
  replace P1 := hid ((bb.block q1 (by omega)).trans P1.out)
  have O2 := hid (o2.below bA (Nat.le_refl _))
  replace HB := hid (HB.out.trans (bb.mono HB.out.size))
  have HS2 := hid (show w.heap.size ≤ q1 ∧ q1 + 1 = V1.heap.size ∧ V1.heap.size ≤ w2.heap.size by have := b2.size; have := HS1.out; omega)
  clear o2 b2 bA bb hz1
  go_upto_region 3 with fail
  generalize w2.alloc (.cells #[(.slice (some ⟨g2, 0, none⟩) 1 1), .int .i64 0] 26) = V at *
  obtain ⟨q2, hq2⟩ : ∃ q2, w2.heap.size = q2 := ⟨_, rfl⟩
  rw [hq2] at P2 Z2 O2 HS2
  try simp only [hq2]
  clear hq2
  obtain ⟨l2, hl2⟩ : ∃ l2, V1.heap.size = l2 := ⟨_, rfl⟩
  rw [hl2] at O2 HS2
  clear hl2
  have HSZ := hid (show w.heap.size ≤ q1 ∧ q1 < l2 ∧ l2 ≤ q2 ∧ q2 < V.heap.size by have := Z2.out; have := HS2.out; omega)
  clear Z1 Z2 HS1 HS2
  have dP1a := cell_of_row _ _ 0 _ _ _ P1.out
  have dP1b := cell_of_row _ _ 1 _ _ _ P1.out
  have dP2a := cell_of_row _ _ 0 _ _ _ P2.out
  have dP2b := cell_of_row _ _ 1 _ _ _ P2.out
  go_wp2_with fail
  clear dP1a dP1b dP2a dP2b
  refine (eqTree 1 1 0 O2.out.rd O1.out.rd hl0.out (by omega) hs0.out).mono ?_
  rintro e V2 ⟨rfl, b⟩
  replace O1 := hid (O1.out.below b (by have := HSZ.out; omega))
  replace P1 := hid ((b.block q1 (by have := HSZ.out; omega)).trans P1.out)
  replace O2 := hid (O2.out.below b (by have := HSZ.out; omega))
  replace P2 := hid ((b.block q2 (by have := HSZ.out; omega)).trans P2.out)
  replace HB := hid (HB.out.trans (b.mono HB.out.size))
  replace HSZ := hid (show w.heap.size ≤ q1 ∧ q1 < l2 ∧ l2 ≤ q2 ∧ q2 < V2.heap.size by have := b.size; have := HSZ.out; omega)
  clear b
  have dP2a := cell_of_row _ _ 0 _ _ _ P2.out
  have dP2b := cell_of_row _ _ 1 _ _ _ P2.out
  go_wp2_with fail
  clear dP2a dP2b
  refine (markTree 1 0 1 O2.out (by have := HSZ.out; omega) hl0.out (by omega) hs0.out (by omega) (by omega)).mono ?_
  rintro e V3 ⟨rfl, o3, wi⟩
  obtain ⟨M, hM⟩ : ∃ M : Int, 1 + sumD nmD leaf0 = M := ⟨_, rfl⟩
  have hM0 : 0 ≤ M := by omega
  have hMn : ¬ M < 0 := by omega
  have hMM : (M != M) = false := by simp
  rw [hM]
  have HM := hid hM
  replace O2 := hid o3
  replace O1 := hid (O1.out.agree (fun p p1 p2 => wi.block p (by have := HSZ.out; omega) (by have := HSZ.out; omega)))
  replace P1 := hid ((wi.block q1 (by have := HSZ.out; omega) (by have := HSZ.out; omega)).trans P1.out)
  replace P2 := hid ((wi.block q2 (by have := HSZ.out; omega) (by have := HSZ.out; omega)).trans P2.out)
  replace HB := hid (below_within HB.out wi (by have := HSZ.out; omega) (by have := HSZ.out; omega))
  replace HSZ := hid (show w.heap.size ≤ q1 ∧ q1 < l2 ∧ l2 ≤ q2 ∧ q2 < V3.heap.size by have := wi.size; have := HSZ.out; omega)
  clear o3 wi hM
  have dP2a := cell_of_row _ _ 0 _ _ _ P2.out
  have dP2b := cell_of_row _ _ 1 _ _ _ P2.out
  go_wp2_with fail
  clear dP2a dP2b
  refine (heldTree 1 0 1 O2.out.rd hl0.out (by omega) hs0.out (by omega) (by omega)).mono ?_
  rintro e V4 ⟨rfl, b⟩
  rw [HM.out]
  replace O1 := hid (O1.out.below b (by have := HSZ.out; omega))
  replace P1 := hid ((b.block q1 (by have := HSZ.out; omega)).trans P1.out)
  replace O2 := hid (O2.out.below b (by have := HSZ.out; omega))
  replace P2 := hid ((b.block q2 (by have := HSZ.out; omega)).trans P2.out)
  replace HB := hid (HB.out.trans (b.mono HB.out.size))
  replace HSZ := hid (show w.heap.size ≤ q1 ∧ q1 < l2 ∧ l2 ≤ q2 ∧ q2 < V4.heap.size by have := b.size; have := HSZ.out; omega)
  clear b
  go_wp2_with fail
  refine (impl_TreeNew V4).mono ?_
  rintro e w5 ⟨g3, rfl, o5, b5⟩
  have bA := Below.alloc1 w5 (.cells #[(.slice (some ⟨g3, 0, none⟩) 1 1), .int .i64 0] 26)
  have P3 := hid (heap_alloc_new w5 (.cells #[(.slice (some ⟨g3, 0, none⟩) 1 1), .int .i64 0] 26))
  have O3 := hid (o5.below bA (Nat.le_refl _))
  have b := b5.trans (bA.mono b5.size)
  replace O1 := hid (O1.out.below b (by have := HSZ.out; omega))
  replace P1 := hid ((b.block q1 (by have := HSZ.out; omega)).trans P1.out)
  replace O2 := hid (O2.out.below b (by have := HSZ.out; omega))
  replace P2 := hid ((b.block q2 (by have := HSZ.out; omega)).trans P2.out)
  replace HB := hid (HB.out.trans (b.mono HB.out.size))
  have HSZ5 := hid (show w.heap.size ≤ q1 ∧ q1 < l2 ∧ l2 ≤ q2 ∧ q2 < (w5.alloc (.cells #[(.slice (some ⟨g3, 0, none⟩) 1 1), .int .i64 0] 26)).heap.size ∧ w5.heap.size < (w5.alloc (.cells #[(.slice (some ⟨g3, 0, none⟩) 1 1), .int .i64 0] 26)).heap.size by have := b.size; have := HSZ.out; have := alloc_size w5 (.cells #[(.slice (some ⟨g3, 0, none⟩) 1 1), .int .i64 0] 26); omega)
  clear HSZ
  have HSZ := HSZ5
  clear HSZ5 o5 b5 bA b
  go_upto_region 14 with fail
  generalize w5.alloc (.cells #[(.slice (some ⟨g3, 0, none⟩) 1 1), .int .i64 0] 26) = V5 at *
  obtain ⟨q3, hq3⟩ : ∃ q3, w5.heap.size = q3 := ⟨_, rfl⟩
  rw [hq3] at P3 O3 HSZ
  try simp only [hq3]
  clear hq3
  have dP1a := cell_of_row _ _ 0 _ _ _ P1.out
  have dP1b := cell_of_row _ _ 1 _ _ _ P1.out
  have dP3a := cell_of_row _ _ 0 _ _ _ P3.out
  have dP3b := cell_of_row _ _ 1 _ _ _ P3.out
  go_wp2_with fail
  clear dP1a dP1b dP3a dP3b
  refine (eqTree 1 1 0 O3.out.rd O1.out.rd hl0.out (by omega) hs0.out).mono ?_
  rintro e V6 ⟨rfl, b⟩
  replace O2 := hid (O2.out.below b (by have := HSZ.out; omega))
  replace P2 := hid ((b.block q2 (by have := HSZ.out; omega)).trans P2.out)
  replace HB := hid (HB.out.trans (b.mono HB.out.size))
  clear b
  have dP2a := cell_of_row _ _ 0 _ _ _ P2.out
  have dP2b := cell_of_row _ _ 1 _ _ _ P2.out
  go_wp2_with fail
  clear dP2a dP2b
  refine (heldTree 1 0 1 O2.out.rd hl0.out (by omega) hs0.out (by omega) (by omega)).mono ?_
  rintro e V7 ⟨rfl, b⟩
  rw [HM.out]
  replace HB := hid (HB.out.trans (b.mono HB.out.size))
  clear b
  go_wp2_with fail
  go_ret
  exact ⟨rfl, HB.out⟩
end Go.Proofs.Ytnjofaiekofamaa
