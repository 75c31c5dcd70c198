/- The contracts of the program's table of sums and of its Crc. For slices of at most 2^21 bytes. -/
import Derived.Test.YtplbejipkaionaaCrc
namespace Go.Proofs.Ytplbejipkaionaa
set_option maxRecDepth 100000
open Go.RowKit

/-- The table as it stands behind k rounds. -/
def tabL (k : Nat) : List Value := (List.range k).map (fun i => Value.int .u32 ((stN 8 i : Nat) : Int)) ++ List.replicate (256 - k) (Value.int .u32 0)
def tabA (k : Nat) : Array Value := (tabL k).toArray
theorem tabA_size (k : Nat) (h : k ≤ 256) : (tabA k).size = 256 := by simp [tabA, tabL]; omega
theorem tabA_set (k : Nat) (h : k < 256) : (tabA k).setIfInBounds k (.int .u32 ((stN 8 k : Nat) : Int)) = tabA (k + 1) := by
  unfold tabA tabL
  obtain ⟨m, hm⟩ : ∃ m, 256 - k = m + 1 := ⟨255 - k, by omega⟩
  rw [List.setIfInBounds_toArray, List.set_append_right _ _ (by simp), hm, show 256 - (k + 1) = m by omega]
  simp [List.replicate_succ, List.range_succ]
theorem tabA_at (k i : Nat) (h : k ≤ 256) (hi : i < 256) : ∃ v, (tabA k)[i]? = some v := by
  have := tabA_size k h
  exact ⟨_, Array.getElem?_eq_getElem (by omega)⟩
theorem tabA_full (i : Nat) (hi : i < 256) : (tabA 256)[i]? = some (.int .u32 ((stN 8 i : Nat) : Int)) := by simp [tabA, tabL, hi]
theorem tabA_one (k : Nat) : (tabA k).all (·.oneCell') = true := by
  rw [Array.all_eq_true_iff_forall_mem]
  intro v hv
  simp [tabA, tabL] at hv
  rcases hv with ⟨i, _, rfl⟩ | ⟨_, rfl⟩ <;> rfl
theorem zero60 (w : World) : (zeroValue 60).run Try.prog w = .ok (.agg (tabA 0)) w := by kernel_rfl
theorem size60 : (Try.prog.info? 60).map (·.size) = some 256 := by kernel_rfl

set_option maxRecDepth 100000 in
set_option maxHeartbeats 1600000 in
theorem crcTable (w : World) :
    Calls Try.prog 39 #[] w fun e w' => e = .returned (.agg (tabA 256)) ∧ Below w.heap.size w w' := by
  have hz := zero60
  go_enter Try.func39, Try.ntmps39
  go_wp2
  go_loopw [2, 3] (fun _ i wr => ∃ k : Nat, k ≤ 256 ∧ i = .int .i64 k ∧ wr.heap[w.heap.size + 1]? = some (.cells (tabA k) 60 (0, 0)) ∧ wr.heap[w.heap.size]? = some (.cells (tabA 0) 60 (0, 0)) ∧ Below w.heap.size w wr ∧ wr.heap.size = w.heap.size + 2) (fun _ i _ => 256 - (intOf i).toNat)
  case atStart => exact ⟨0, by omega, rfl, heap_alloc2_new _ _ _, heap_alloc2_old _ _ _, ((Below.refl _ _).alloc (Nat.le_refl _) _).alloc (by simp) _, by simp⟩
  case round =>
    obtain ⟨k, hk, rfl, ht, hr, hb, hsz⟩ := hrel
    by_cases hlt : k < 256
    · obtain ⟨v, hv⟩ := tabA_at k k hk hlt
      have hcell : wr.cell? ⟨w.heap.size + 1, k, none⟩ = some v := by rw [cell_of_row wr _ _ _ _ _ ht]; exact hv
      have hfr : wr.frozen? ⟨w.heap.size + 1, k, none⟩ = false := frozen_of_row wr _ _ _ _ ht
      have R := heap_setCell_same wr (w.heap.size + 1) k (tabA k) 60 (.int .u32 ((stN 8 k : Nat) : Int)) ht
      rw [tabA_set k hlt] at R
      have R1 := hid R
      have R2 : Hid ((wr.setCell ⟨w.heap.size + 1, k, none⟩ (.int .u32 ((stN 8 k : Nat) : Int))).heap[w.heap.size]? = some (.cells (tabA 0) 60 (0, 0))) := (heap_setCell_other wr _ _ _ (by simp)).trans hr
      clear R ht hr hv hz
      have HE := hid (eightSteps k wr (by omega))
      go_wp2_with fail
      refine HE.out.mono ?_
      rintro e w' ⟨rfl, rfl⟩
      go_wp2_with fail
      go_roundw
      case rel => exact ⟨k + 1, by omega, by go_num, R1.out, R2.out, hb.setCell (by simp) _, by simp [World.setCell]; omega⟩
      case measure => simp [intOf]; omega
    · obtain rfl : k = 256 := by omega
      have HT := hid ht
      have HR := hid hr
      clear ht hr
      go_wp2_with (first | (refine wpList_load_row rfl 60 (.tmp 1) rfl (w.heap.size + 1) rfl 60 _ (0, 0) _ HT.out Try.underlying60 rfl (by rw [tabA_size _ (by omega)]; exact size60) ?_) | (refine wpList_store_row rfl 60 (.tmp 0) (.tmp 12) rfl w.heap.size (tabA 256) rfl rfl 60 (tabA 0) HR.out (by rw [tabA_size _ (by omega)]; exact size60) (by rw [tabA_size _ (by omega), tabA_size _ (by omega)]) (tabA_one _) ?_))
      refine bodyPost_ret (results_cell_row Try.results39 _ _ w.heap.size 60 (tabA 256) (0, 0) _ rfl (setRow_heap _ _ _ _ _ _ HR.out) Try.underlying60 rfl (by rw [tabA_size _ (by omega)]; exact size60)) rfl ⟨rfl, below_setRow hb (Nat.le_refl _) _⟩

theorem low_u32 (y c : Nat) (hc : c ≤ 255) : bits .xor .u8 ((y : Int) % 256) (c : Int) = ((y % 256 ^^^ c : Nat) : Int) := by
  rw [← u8_xor_nat (y % 256) c (by omega) (by omega)]; simp
theorem tab_step (y c : Nat) (hy : y < 4294967296) (hc : c ≤ 255) : bits .xor .u32 ((y : Int) / 256) ((stN 8 (y % 256 ^^^ c) : Nat) : Int) = ((stp y (c : Int) : Nat) : Int) := by
  have hl : y % 256 ^^^ c < 256 := Nat.xor_lt_two_pow (n := 8) (by omega) (by omega)
  have h := xor_u32 (y / 256) (stN 8 (y % 256 ^^^ c)) (by omega) (stN_lt _ _ (by omega))
  have e : stp y (c : Int) = y / 256 ^^^ stN 8 (y % 256 ^^^ c) := by unfold stp; rw [Int.toNat_natCast, stN_table]
  rw [e, ← h]; simp

set_option maxRecDepth 100000 in
set_option maxHeartbeats 3200000 in
theorem impl_Crc_pos (b off n cap : Nat) (zs : List Int) (w : World) (hn : n ≤ 65536) (hz : zs.length = n) (hbd : ∀ i, 0 ≤ zs.getD i 0 ∧ zs.getD i 0 ≤ 255) (hbw : b < w.heap.size)
    (hc : ∀ i, i < n → w.cell? ⟨b, off + i, none⟩ = some (.int .u8 (zs.getD i 0))) :
    Calls Try.prog 37 #[.slice (some ⟨b, off, none⟩) n cap] w fun e w' => e = .returned (.int .i64 (crcOf zs)) ∧ Below w.heap.size w w' := by
  have hz0 := zero60
  have HC := hid hc
  clear hc
  go_enter Try.func37, Try.ntmps37
  go_wp2_with fail
  refine (crcTable w).mono ?_
  rintro e w1 ⟨rfl, b1⟩
  have HG : Hid ((w1.alloc (.cells (tabA 0) 60)).heap[w1.heap.size]? = some (.cells (tabA 0) 60 (0, 0))) := heap_alloc_new _ _
  go_wp2_with (refine wpList_store_row rfl 60 (.tmp 3) (.tmp 10) rfl w1.heap.size (tabA 256) rfl rfl 60 (tabA 0) HG.out (by rw [tabA_size _ (by omega)]; exact size60) (by rw [tabA_size _ (by omega), tabA_size _ (by omega)]) (tabA_one _) ?_)
  have HT : Hid (((w1.alloc (.cells (tabA 0) 60)).setRow w1.heap.size (tabA 256)).heap[w1.heap.size]? = some (.cells (tabA 256) 60 (0, 0))) := setRow_heap _ _ _ _ _ _ HG.out
  have hb2 : Below w.heap.size w ((w1.alloc (.cells (tabA 0) 60)).setRow w1.heap.size (tabA 256)) := below_setRow (b1.alloc b1.size _) b1.size _
  have hbw1 : w.heap.size ≤ w1.heap.size := b1.size
  go_wp2
  generalize (w1.alloc (.cells (tabA 0) 60)).setRow w1.heap.size (tabA 256) = wt at *
  clear HG hz0
  go_loop [4, 6, 13] (fun s _ i => ∃ k : Nat, k ≤ n ∧ i = .int .i64 k ∧ s = .int .u32 (sumTo zs k : Nat)) (fun _ _ i => n - (intOf i).toNat)
  case atStart => exact ⟨0, by omega, rfl, by rw [sumTo_zero]; rfl⟩
  case round =>
    obtain ⟨k, hk, rfl, rfl⟩ := hrel
    have hlt := sumTo_lt zs hbd k
    by_cases hkn : k < n
    · have hcell : wt.cell? ⟨b, off + k, none⟩ = some (.int .u8 (zs.getD k 0)) := (hb2.cell (by exact hbw)).trans (HC.out k hkn)
      have hb := hbd k
      have hs := hid (sumTo_succ zs k (by omega))
      generalize sumTo zs k = y at hlt hs
      generalize zs.getD k 0 = c at hcell hb hs
      obtain ⟨c, rfl⟩ := Int.eq_ofNat_of_zero_le hb.1
      have hlow := low_u32 y c (by omega)
      have hst := hid (tab_step y c hlt (by omega))
      have hq : y % 256 ^^^ c < 256 := Nat.xor_lt_two_pow (n := 8) (by omega) (by omega)
      have htab : wt.cell? ⟨w1.heap.size, y % 256 ^^^ c, none⟩ = some (.int .u32 ((stN 8 (y % 256 ^^^ c) : Nat) : Int)) := by rw [cell_of_row wt _ _ _ _ _ HT.out]; exact tabA_full _ hq
      generalize y % 256 ^^^ c = q at hlow hst hq htab
      generalize stN 8 q = t at hst htab
      go_wp2
      go_round
      case rel => exact ⟨k + 1, by omega, by go_num, int_congr (hst.out.trans (by rw [hs.out]))⟩
      case measure => simp [intOf]; omega
    · obtain rfl : k = n := by omega
      have hx := hid (ones_u32 (sumTo zs k) hlt)
      have hx2 := xor_lt32 _ _ hlt (show 4294967295 < 4294967296 by omega)
      have hcr : Hid (crcOf zs = ((sumTo zs k ^^^ 4294967295 : Nat) : Int)) := by unfold Hid crcOf; rw [if_neg (by omega), hz]
      generalize sumTo zs k = y at *
      have hw : Hid (wrap64 (bits .xor .u32 (y : Int) 4294967295) = crcOf zs) := by
        unfold Hid; rw [hx.out, hcr.out]; exact IntWalk.wrap64_in _ ⟨by omega, by omega⟩
      clear hx hcr
      go_wp2
      go_ret
      exact ⟨ret_congr hw.out, hb2⟩

set_option maxRecDepth 100000 in
set_option maxHeartbeats 1600000 in
theorem spec_Crc_zero (ad : Option Addr) (cap : Nat) (w : World) :
    Calls Try.prog 38 #[.slice ad 0 cap] w fun e w' => e = .returned (.int .i64 (crcOf [])) ∧ w' = w := by
  have hx := hid (ones_i64 4294967295 (by omega))
  have hcr : Hid (crcOf [] = ((4294967295 ^^^ 4294967295 : Nat) : Int)) := by unfold Hid crcOf; rw [if_neg (by simp), List.length_nil, sumTo_zero]
  go_enter Try.func38, Try.ntmps38
  go_wp2
  go_loop [3, 4, 5, 6] (fun s i _ _ => i = .int .i64 (0 : Nat) ∧ s = .int .i64 4294967295) (fun _ _ _ _ => 0)
  case atStart => exact ⟨rfl, rfl⟩
  case round =>
    obtain ⟨rfl, rfl⟩ := hrel
    go_wp2
    go_ret
    exact ⟨ret_congr (hx.out.trans hcr.out.symm), rfl⟩

set_option maxRecDepth 100000 in
set_option maxHeartbeats 1600000 in
theorem impl_Crc_zero (ad : Option Addr) (cap : Nat) (w : World) :
    Calls Try.prog 37 #[.slice ad 0 cap] w fun e w' => e = .returned (.int .i64 (crcOf [])) ∧ Below w.heap.size w w' := by
  have hx := hid (ones_u32 4294967295 (by omega))
  have hcr : Hid (crcOf [] = ((4294967295 ^^^ 4294967295 : Nat) : Int)) := by unfold Hid crcOf; rw [if_neg (by simp), List.length_nil, sumTo_zero]
  have hw : Hid (wrap64 (bits .xor .u32 4294967295 4294967295) = crcOf []) := by
    have e : bits .xor .u32 4294967295 4294967295 = ((4294967295 ^^^ 4294967295 : Nat) : Int) := hx.out
    unfold Hid; rw [hcr.out, e]; exact IntWalk.wrap64_in _ ⟨by omega, by rw [Nat.xor_self]; omega⟩
  have hz0 := zero60
  go_enter Try.func37, Try.ntmps37
  go_wp2_with fail
  refine (crcTable w).mono ?_
  rintro e w1 ⟨rfl, b1⟩
  have HG : Hid ((w1.alloc (.cells (tabA 0) 60)).heap[w1.heap.size]? = some (.cells (tabA 0) 60 (0, 0))) := heap_alloc_new _ _
  go_wp2_with (refine wpList_store_row rfl 60 (.tmp 3) (.tmp 10) rfl w1.heap.size (tabA 256) rfl rfl 60 (tabA 0) HG.out (by rw [tabA_size _ (by omega)]; exact size60) (by rw [tabA_size _ (by omega), tabA_size _ (by omega)]) (tabA_one _) ?_)
  have hb2 : Below w.heap.size w ((w1.alloc (.cells (tabA 0) 60)).setRow w1.heap.size (tabA 256)) := below_setRow (b1.alloc b1.size _) b1.size _
  go_wp2
  generalize (w1.alloc (.cells (tabA 0) 60)).setRow w1.heap.size (tabA 256) = wt at *
  clear HG hz0
  go_loop [4, 6, 13] (fun s _ i => i = .int .i64 (0 : Nat) ∧ s = .int .u32 4294967295) (fun _ _ _ => 0)
  case atStart => exact ⟨rfl, rfl⟩
  case round =>
    obtain ⟨rfl, rfl⟩ := hrel
    go_wp2
    go_ret
    exact ⟨ret_congr hw.out, hb2⟩

set_option maxHeartbeats 1600000 in
theorem spec_Crc_big (ad : Option Addr) (n cap : Nat) (w : World) (hn : 65536 < n) (hn' : n ≤ 2097152) :
    Calls Try.prog 38 #[.slice ad n cap] w fun e w' => e = .returned (.int .i64 (-1)) ∧ w' = w := by
  go_enter Try.func38, Try.ntmps38
  go_wp2
  go_ret
  exact ⟨rfl, rfl⟩
set_option maxHeartbeats 1600000 in
theorem impl_Crc_big (ad : Option Addr) (n cap : Nat) (w : World) (hn : 65536 < n) (hn' : n ≤ 2097152) :
    Calls Try.prog 37 #[.slice ad n cap] w fun e w' => e = .returned (.int .i64 (-1)) ∧ w' = w := by
  go_enter Try.func37, Try.ntmps37
  go_wp2
  go_ret
  exact ⟨rfl, rfl⟩
theorem crcOf_big (zs : List Int) (h : 65536 < zs.length) : crcOf zs = -1 := by unfold crcOf; rw [if_pos h]

theorem spec_Crc {ad : Option Addr} {n : Nat} (cap : Nat) {zs : List Int} {w : World} (h : Reads w ad n zs) (hn : n ≤ 2097152) :
    Calls Try.prog 38 #[.slice ad n cap] w fun e w' => e = .returned (.int .i64 (crcOf zs)) ∧ w' = w := by
  by_cases hbig : 65536 < n
  · rw [crcOf_big zs (by rw [h.len]; exact hbig)]; exact spec_Crc_big ad n cap w hbig hn
  · by_cases h0 : n = 0
    · subst h0
      obtain rfl : zs = [] := List.eq_nil_of_length_eq_zero h.len
      exact spec_Crc_zero ad cap w
    · rcases h.cells with h1 | ⟨b, off, rfl, hc⟩
      · exact absurd h1 h0
      · exact spec_Crc_pos b off n cap zs w (by omega) h.len h.bd hc
theorem impl_Crc {ad : Option Addr} {n : Nat} (cap : Nat) {zs : List Int} {w : World} (h : Reads w ad n zs) (hn : n ≤ 2097152) :
    Calls Try.prog 37 #[.slice ad n cap] w fun e w' => e = .returned (.int .i64 (crcOf zs)) ∧ Below w.heap.size w w' := by
  by_cases hbig : 65536 < n
  · rw [crcOf_big zs (by rw [h.len]; exact hbig)]
    refine (impl_Crc_big ad n cap w hbig hn).mono fun e w' ⟨he, hw⟩ => ⟨he, by subst hw; exact Below.refl _ _⟩
  · by_cases h0 : n = 0
    · subst h0
      obtain rfl : zs = [] := List.eq_nil_of_length_eq_zero h.len
      exact impl_Crc_zero ad cap w
    · rcases h.cells with h1 | ⟨b, off, rfl, hc⟩
      · exact absurd h1 h0
      · exact impl_Crc_pos b off n cap zs w (by omega) h.len h.bd (World.block_lt_of_cell? w _ (hc 0 (by omega))) hc
end Go.Proofs.Ytplbejipkaionaa
