/- The contracts of the laws' toHeap, szHeap, eqHeap, markHeap, heldHeap. Conditions: heaps of at most 2^21 bytes and slots together. -/
import Derived.Test.YtkfhfjghfadofaaGreatHd10
namespace Go.Proofs.YtkfhfjghfadofaaGreat
open Go.RowKit
set_option maxRecDepth 100000
theorem sizeHp : (Tryz.prog.info? 26).map (·.size) = some 1 := by kernel_rfl
set_option maxHeartbeats 1600000 in
theorem szHeap {ad : Option Addr} {n : Nat} (cap : Nat) {ps : List Pg} {w : World} (h : ReadsG w ad ps) (hl : ps.length = n) (hn : n ≤ 9223372036854775807) (left : Int) (h0 : 0 ≤ left) (h1 : left ≤ 1048576) :
 Calls Tryz.prog 30 #[.agg #[.slice ad n cap], .int .i64 left] w fun e w' => e = .returned (.int .i64 (lft left (n + sumG szP ps))) ∧ Below w.heap.size w w' := by
 have hB := Below.alloc1 w (.cells #[.slice ad n cap] 64)
 have H1 := h.below hB (Nat.le_refl _)
 obtain ⟨M, hM⟩ : ∃ M : Int, lft left (n + sumG szP ps) = M := ⟨_, rfl⟩
 have hM0 : M < 0 → M = -1 := by unfold lft at hM; split at hM <;> omega
 have HM := hid hM
 have HM0 := hid hM0
 have HB := hid hB
 clear hM hM0 hB
 go_enter Tryz.func30, Tryz.ntmps30
 go_wp2_with fail
 refine (szPageS cap H1 hl hn left h0 h1).mono ?_
 rintro e w1 ⟨rfl, b⟩
 replace HB := hid (HB.out.trans (b.mono HB.out.size))
 clear b
 rw [HM.out]
 by_cases hq : M < 0
 · go_wp2_with fail
   go_ret
   exact ⟨by rw [HM.out, HM0.out hq]; rfl, HB.out⟩
 · go_wp2_with fail
   go_ret
   exact ⟨by rw [HM.out]; rfl, HB.out⟩
set_option maxHeartbeats 1600000 in
theorem toHeap {ad : Option Addr} {n : Nat} (cap : Nat) {ps : List Pg} {w : World} (h : ReadsG w ad ps) (hl : ps.length = n) (hn : n ≤ 2097152) (hs : sumG szP ps ≤ 2097152) :
 Calls Tryz.prog 32 #[.agg #[.slice ad n cap]] w fun e w' => ∃ g, e = .returned (.agg #[.slice (some ⟨g, 0, none⟩) n n]) ∧ OwnG w' w.heap.size w'.heap.size (.slice (some ⟨g, 0, none⟩) n n) ps ∧ Below w.heap.size w w' := by
 go_enter Tryz.func32, Tryz.ntmps32
 go_wp2_with fail
 obtain ⟨z, R1, R2, bW⟩ := three w (.cells #[.slice ad n cap] 64) (.cells #[.slice none 0 0] 26) (.cells #[.slice none 0 0] 26)
 have zW := hid z
 clear z
 generalize ((w.alloc (.cells #[.slice ad n cap] 64)).alloc (.cells #[.slice none 0 0] 26)).alloc (.cells #[.slice none 0 0] 26) = W at *
 refine (toPageS cap (h.below bW (Nat.le_refl _)) hl hn hs).mono ?_
 rintro e W1 ⟨rfl, o1, b1⟩
 have hW := zW.out
 have S1 : W1.heap[w.heap.size + 1]? = _ := (b1.block _ (by omega)).trans R1
 have S2 : W1.heap[w.heap.size + 1 + 1]? = _ := (b1.block _ (by omega)).trans R2
 have B1 := bW.trans (b1.mono bW.size)
 have O1 := hid o1
 have HW := hid hW
 have HS1 := hid b1.size
 clear o1 hW zW R1 R2 bW b1
 have c3 : W1.cell? ⟨w.heap.size + 1 + 1, 0, none⟩ = some (.slice none 0 0) := by rw [cell_of_row _ _ _ _ _ _ S2]; rfl
 have fz : W1.frozen? ⟨w.heap.size + 1 + 1, 0, none⟩ = false := frozen_of_row _ _ _ _ _ S2
 have T2 := hid (heap_setCell_same W1 (w.heap.size + 1 + 1) 0 _ 26 (.slice (some ⟨W.heap.size, 0, none⟩) n n) S2)
 have T1 := hid ((heap_setCell_other W1 ⟨w.heap.size + 1 + 1, 0, none⟩ (w.heap.size + 1) (.slice (some ⟨W.heap.size, 0, none⟩) n n) (by simp)).trans S1)
 have BC := hid (B1.setCell (p := ⟨w.heap.size + 1 + 1, 0, none⟩) (by simp; omega) (.slice (some ⟨W.heap.size, 0, none⟩) n n))
 clear S1 S2
 go_wp2_with (first
  | (refine wpList_load_row rfl 26 (.tmp 3) rfl (w.heap.size + 1 + 1) rfl 26 _ (0, 0) _ T2.out Tryz.underlying26 rfl sizeHp ?_)
  | (refine wpList_store_row rfl 26 (.tmp 2) (.tmp 8) rfl (w.heap.size + 1) #[.slice (some ⟨W.heap.size, 0, none⟩) n n] rfl rfl 26 _ T1.out ?s1 ?s2 ?s3 ?_))
 case s1 => exact sizeHp
 case s2 => rfl
 case s3 => simp [Value.oneCell']
 have hW := HW.out
 have hS := HS1.out
 refine bodyPost_ret (results_cell_row Tryz.results32 _ _ (w.heap.size + 1) 26 #[.slice (some ⟨W.heap.size, 0, none⟩) n n] (0, 0) _ rfl (setRow_heap _ _ _ _ _ _ T1.out) Tryz.underlying26 rfl sizeHp) rfl ⟨W.heap.size, rfl, (O1.out.agree fun k hk1 hk2 => ?_).mono (by omega) ?_, below_setRow BC.out (by omega) _⟩
 · rw [setRow_other _ _ _ _ (by omega), heap_setCell_other _ _ _ _ (by simp; omega)]
 · simp [World.setRow]
set_option maxHeartbeats 1600000 in
theorem eqHeap {ad ad' : Option Addr} {n : Nat} (cap cap' : Nat) {ps : List Pg} {w : World} (h : ReadsG w ad ps) (h' : ReadsG w ad' ps) (hl : ps.length = n) (hn : n ≤ 2097152) (hs : sumG szP ps ≤ 2097152) :
 Calls Tryz.prog 34 #[.agg #[.slice ad n cap], .agg #[.slice ad' n cap']] w fun e w' => e = .returned (.bool true) ∧ Below w.heap.size w w' := by
 have hB := two w (.cells #[.slice ad n cap] 26) (.cells #[.slice ad' n cap'] 26)
 have H1 := hid (h.below hB (Nat.le_refl _))
 have H2 := hid (h'.below hB (Nat.le_refl _))
 have HB := hid hB
 clear hB h h'
 go_enter Tryz.func34, Tryz.ntmps34
 go_wp2_with fail
 refine (eqPageS cap cap' H1.out H2.out hl hn hs).mono ?_
 rintro e w2 ⟨rfl, b⟩
 replace HB := hid (HB.out.trans (b.mono HB.out.size))
 clear b
 go_wp2_with fail
 go_ret
 exact ⟨rfl, HB.out⟩
set_option maxHeartbeats 1600000 in
theorem markHeap {lo hi : Nat} {a : Option Addr} {n : Nat} (c : Nat) {ps : List Pg} {w : World} (k : Int) (h : OwnG w lo hi (.slice a n c) ps) (hh : hi ≤ w.heap.size) (hl : ps.length = n) (hn : n ≤ 2097152) (hs : sumG szP ps ≤ 2097152) (hk0 : 0 ≤ k) (hk1 : k ≤ 400000000) :
 Calls Tryz.prog 36 #[.agg #[.slice a n c], .int .i64 k] w fun e w' => e = .returned (.int .i64 (k + sumG nmP ps)) ∧ OwnG w' lo hi (.slice a n c) (mkG k ps) ∧ Within lo hi w w' := by
 have hA := Below.alloc1 w (.cells #[.slice a n c] 26)
 have h1 := hid (h.below hA hh)
 have G0 := hid (Within.of_below (lo := lo) (hi := hi) hA (Nat.le_refl _))
 have HS := hid (show hi ≤ (w.alloc (.cells #[.slice a n c] 26)).heap.size by rw [alloc_size]; omega)
 clear h hA
 go_enter Tryz.func36, Tryz.ntmps36
 go_wp2_with fail
 refine (markPageS c k h1.out HS.out hl hn hs hk0 hk1).mono ?_
 rintro e W1 ⟨rfl, o1, G1⟩
 have O1 := hid o1
 have HG := hid (G0.out.trans G1)
 clear o1 G1
 go_wp2_with fail
 go_ret
 exact ⟨rfl, O1.out, HG.out⟩
set_option maxHeartbeats 1600000 in
theorem heldHeap {ad : Option Addr} {n : Nat} (cap : Nat) {ps : List Pg} {w : World} (k : Int) (h : ReadsG w ad (mkG k ps)) (hl : ps.length = n) (hn : n ≤ 2097152) (hs : sumG szP ps ≤ 2097152) (hk0 : 0 ≤ k) (hk1 : k ≤ 400000000) :
 Calls Tryz.prog 38 #[.agg #[.slice ad n cap], .int .i64 k] w fun e w' => e = .returned (.int .i64 (k + sumG nmP ps)) ∧ Below w.heap.size w w' := by
 have hB := Below.alloc1 w (.cells #[.slice ad n cap] 26)
 have H1 := hid (h.below hB (Nat.le_refl _))
 have HB := hid hB
 obtain ⟨Y, hY⟩ : ∃ Y : Int, k + sumG nmP ps = Y := ⟨_, rfl⟩
 have q2 : ¬ Y < 0 := by omega
 have HY := hid hY
 clear hB h hY
 go_enter Tryz.func38, Tryz.ntmps38
 go_wp2_with fail
 refine (heldPageS cap k H1.out hl hn hs hk0 hk1).mono ?_
 rintro e w1 ⟨rfl, e1⟩
 subst w1
 rw [HY.out]
 go_wp2_with fail
 go_ret
 exact ⟨by rw [HY.out]; rfl, HB.out⟩
end Go.Proofs.YtkfhfjghfadofaaGreat
