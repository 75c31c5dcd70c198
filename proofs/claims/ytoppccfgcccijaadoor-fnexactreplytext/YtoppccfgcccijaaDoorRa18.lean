/- The contracts of the laws' toPair, szPair, eqPair. Conditions: items of at most 2^21 bytes. -/
import Derived.Test.YtoppccfgcccijaaDoorEb13
import Derived.Test.YtoppccfgcccijaaDoorEa13
import Derived.Test.YtoppccfgcccijaaDoorIc
import Derived.Laws.CopyOwn
import Derived.Test.YtoppccfgcccijaaDoorPt
import Derived.Test.YtoppccfgcccijaaDoorMga
import Derived.Laws.Tables
import Derived.Deep.RegionHeld3
import Derived.Deep.MidRow
namespace Go.Proofs.YtoppccfgcccijaaDoor
open Go.RowKit
set_option maxRecDepth 100000

theorem Tryd.infoPr18 : (Tryd.prog.info? 69).map (fun i => (i.zero, i.size, i.bytes)) = some (some (.agg #[.int .i64 0, .int .i64 0, .float .f64 0, .slice none 0 0, .int .i64 0, .int .i64 0, .float .f64 0, .slice none 0 0]), 8, 96) := by kernel_rfl
theorem size_pr18 : (Tryd.prog.info? 69).map (·.size) = some 8 := by kernel_rfl
set_option maxHeartbeats 3200000 in
theorem toPair (K N : Int) (f : Nat) {ad : Option Addr} {n : Nat} (cap : Nat) (K' N' : Int) (f' : Nat) {ad' : Option Addr} {n' : Nat} (cap' : Nat) {zs zs' : List Int} {w : World} (rk : Reads w ad n zs) (rk' : Reads w ad' n' zs') (hn : n ≤ 2097152) (hn' : n' ≤ 2097152) :
    Calls Tryd.prog 58 #[.agg #[.int .i64 K, .int .i64 N, .float .f64 f, .slice ad n cap, .int .i64 K', .int .i64 N', .float .f64 f', .slice ad' n' cap']] w fun e w' => ∃ g1 g2 mid, e = .returned (.agg #[.int .i64 K, .int .i64 N, .float .f64 f, .slice (some ⟨g1, 0, none⟩) n n, .int .i64 K', .int .i64 N', .float .f64 f', .slice (some ⟨g2, 0, none⟩) n' n']) ∧ w'.ownsRow w.heap.size 5 1 (.slice (some ⟨g1, 0, none⟩) n n) n (bys zs) ∧ w'.ownsRow mid 5 1 (.slice (some ⟨g2, 0, none⟩) n' n') n' (bys zs') ∧ g1 < mid ∧ w.heap.size ≤ mid ∧ mid ≤ w'.heap.size ∧ Below w.heap.size w w' := by
  have hst := fun w a m => run_store Tryd.prog w a (.float .f64 f) m rfl
  have hst2 := fun w a m => run_store Tryd.prog w a (.float .f64 f') m rfl
  obtain ⟨z3, r1, r2, b3⟩ := three w (.cells #[.int .i64 K, .int .i64 N, .float .f64 f, .slice ad n cap, .int .i64 K', .int .i64 N', .float .f64 f', .slice ad' n' cap'] 87) (.cells #[.int .i64 0, .int .i64 0, .float .f64 0, .slice none 0 0, .int .i64 0, .int .i64 0, .float .f64 0, .slice none 0 0] 69) (.cells #[.int .i64 0, .int .i64 0, .float .f64 0, .slice none 0 0, .int .i64 0, .int .i64 0, .float .f64 0, .slice none 0 0] 69)
  have r0 := three_first w (.cells #[.int .i64 K, .int .i64 N, .float .f64 f, .slice ad n cap, .int .i64 K', .int .i64 N', .float .f64 f', .slice ad' n' cap'] 87) (.cells #[.int .i64 0, .int .i64 0, .float .f64 0, .slice none 0 0, .int .i64 0, .int .i64 0, .float .f64 0, .slice none 0 0] 69) (.cells #[.int .i64 0, .int .i64 0, .float .f64 0, .slice none 0 0, .int .i64 0, .int .i64 0, .float .f64 0, .slice none 0 0] 69)
  have H0 := hid r0
  have H1 := hid r1
  have H2 := hid r2
  have HZ := hid z3
  have HB := hid b3
  have RK := hid (rk.below b3 (Nat.le_refl _))
  have RK0 := hid rk'
  clear r0 r1 r2 z3 b3 rk rk'
  go_enter Tryd.func58, Tryd.ntmps58
  go_wp2_with fail
  refine (toItem K N f cap RK.out hn).mono ?_
  rintro e w1 ⟨g1, rfl, ow, b⟩
  have z := HZ.out
  have bs := b.size
  have t0 := (b.block w.heap.size (by omega)).trans H0.out
  have t1 := (b.block (w.heap.size + 1) (by omega)).trans H1.out
  have t2 := (b.block (w.heap.size + 1 + 1) (by omega)).trans H2.out
  have og := ow.lt g1 rfl
  have bb := HB.out.trans (b.mono HB.out.size)
  have T2 := hid t2
  have gA := row_grown13 w1 (w.heap.size + 1 + 1) #[.int .i64 K, .int .i64 N, .float .f64 f, .slice (some ⟨g1, 0, none⟩) n n, .int .i64 0, .int .i64 0, .float .f64 0, .slice none 0 0]
  have O1 := hid (ow.kept gA (.inr (by simp [Value.ownBlock]; omega)))
  have u2 := setRow_heap w1 (w.heap.size + 1 + 1) _ #[.int .i64 K, .int .i64 N, .float .f64 f, .slice (some ⟨g1, 0, none⟩) n n, .int .i64 0, .int .i64 0, .float .f64 0, .slice none 0 0] _ _ t2
  have u1 := (setRow_other w1 (w.heap.size + 1 + 1) (w.heap.size + 1) #[.int .i64 K, .int .i64 N, .float .f64 f, .slice (some ⟨g1, 0, none⟩) n n, .int .i64 0, .int .i64 0, .float .f64 0, .slice none 0 0] (by omega)).trans t1
  have u0 := (setRow_other w1 (w.heap.size + 1 + 1) w.heap.size #[.int .i64 K, .int .i64 N, .float .f64 f, .slice (some ⟨g1, 0, none⟩) n n, .int .i64 0, .int .i64 0, .float .f64 0, .slice none 0 0] (by omega)).trans t0
  have bA := below_setRow bb (show w.heap.size ≤ (w.heap.size + 1 + 1) by omega) #[.int .i64 K, .int .i64 N, .float .f64 f, .slice (some ⟨g1, 0, none⟩) n n, .int .i64 0, .int .i64 0, .float .f64 0, .slice none 0 0]
  have RK' := hid (RK0.out.below bA (Nat.le_refl _))
  have c4 : (w1.setRow (w.heap.size + 1 + 1) #[.int .i64 K, .int .i64 N, .float .f64 f, .slice (some ⟨g1, 0, none⟩) n n, .int .i64 0, .int .i64 0, .float .f64 0, .slice none 0 0]).cell? ⟨w.heap.size, 4, none⟩ = some (.int .i64 K') := by rw [cell_of_row _ _ _ _ _ _ u0]; rfl
  have c5 : (w1.setRow (w.heap.size + 1 + 1) #[.int .i64 K, .int .i64 N, .float .f64 f, .slice (some ⟨g1, 0, none⟩) n n, .int .i64 0, .int .i64 0, .float .f64 0, .slice none 0 0]).cell? ⟨w.heap.size, 5, none⟩ = some (.int .i64 N') := by rw [cell_of_row _ _ _ _ _ _ u0]; rfl
  have c6 : (w1.setRow (w.heap.size + 1 + 1) #[.int .i64 K, .int .i64 N, .float .f64 f, .slice (some ⟨g1, 0, none⟩) n n, .int .i64 0, .int .i64 0, .float .f64 0, .slice none 0 0]).cell? ⟨w.heap.size, 6, none⟩ = some (.float .f64 f') := by rw [cell_of_row _ _ _ _ _ _ u0]; rfl
  have c7 : (w1.setRow (w.heap.size + 1 + 1) #[.int .i64 K, .int .i64 N, .float .f64 f, .slice (some ⟨g1, 0, none⟩) n n, .int .i64 0, .int .i64 0, .float .f64 0, .slice none 0 0]).cell? ⟨w.heap.size, 7, none⟩ = some (.slice ad' n' cap') := by rw [cell_of_row _ _ _ _ _ _ u0]; rfl
  have U1 := hid u1
  have U2 := hid u2
  have BA := hid bA
  have ZU := hid (show (w1.setRow (w.heap.size + 1 + 1) #[.int .i64 K, .int .i64 N, .float .f64 f, .slice (some ⟨g1, 0, none⟩) n n, .int .i64 0, .int .i64 0, .float .f64 0, .slice none 0 0]).heap.size = w1.heap.size by simp)
  have OG := hid og
  have SZ1 := hid (show w.heap.size + 3 ≤ w1.heap.size by omega)
  clear z bs t0 t1 t2 og bb ow b H0 H1 H2 HB RK RK0 u0 u1 u2 gA bA
  go_wp2_with (refine wpList_store_part rfl 28 (.tmp 7) (.tmp 6) rfl (w.heap.size + 1 + 1) 0 #[.int .i64 K, .int .i64 N, .float .f64 f, .slice (some ⟨g1, 0, none⟩) n n] rfl rfl 69 _ T2.out ?s1 ?s2 ?s3 #[.int .i64 K, .int .i64 N, .float .f64 f, .slice (some ⟨g1, 0, none⟩) n n, .int .i64 0, .int .i64 0, .float .f64 0, .slice none 0 0] rfl ?_)
  case s1 => exact size_it13
  case s2 => simp
  case s3 => simp [Value.oneCell']
  clear c4 c5 c6 c7
  generalize w1.setRow (w.heap.size + 1 + 1) #[.int .i64 K, .int .i64 N, .float .f64 f, .slice (some ⟨g1, 0, none⟩) n n, .int .i64 0, .int .i64 0, .float .f64 0, .slice none 0 0] = U at *
  refine (toItem K' N' f' cap' RK'.out hn').mono ?_
  rintro e w2 ⟨g2, rfl, ow, b⟩
  have zu := ZU.out
  have zs1 := SZ1.out
  have z3 := HZ.out
  have og := OG.out
  have bs := b.size
  have t1 := (b.block (w.heap.size + 1) (by omega)).trans U1.out
  have t2 := (b.block (w.heap.size + 1 + 1) (by omega)).trans U2.out
  have og2 := ow.lt g2 rfl
  have gB := row_grown13 w2 (w.heap.size + 1 + 1) #[.int .i64 K, .int .i64 N, .float .f64 f, .slice (some ⟨g1, 0, none⟩) n n, .int .i64 K', .int .i64 N', .float .f64 f', .slice (some ⟨g2, 0, none⟩) n' n']
  have u2 := setRow_heap w2 (w.heap.size + 1 + 1) _ #[.int .i64 K, .int .i64 N, .float .f64 f, .slice (some ⟨g1, 0, none⟩) n n, .int .i64 K', .int .i64 N', .float .f64 f', .slice (some ⟨g2, 0, none⟩) n' n'] _ _ t2
  have u1 := (setRow_other w2 (w.heap.size + 1 + 1) (w.heap.size + 1) #[.int .i64 K, .int .i64 N, .float .f64 f, .slice (some ⟨g1, 0, none⟩) n n, .int .i64 K', .int .i64 N', .float .f64 f', .slice (some ⟨g2, 0, none⟩) n' n'] (by omega)).trans t1
  have gC := row_grown13 (w2.setRow (w.heap.size + 1 + 1) #[.int .i64 K, .int .i64 N, .float .f64 f, .slice (some ⟨g1, 0, none⟩) n n, .int .i64 K', .int .i64 N', .float .f64 f', .slice (some ⟨g2, 0, none⟩) n' n']) (w.heap.size + 1) #[.int .i64 K, .int .i64 N, .float .f64 f, .slice (some ⟨g1, 0, none⟩) n n, .int .i64 K', .int .i64 N', .float .f64 f', .slice (some ⟨g2, 0, none⟩) n' n']
  have o1 := ((owns_below b (by omega) O1.out).kept gB (.inr (by simp [Value.ownBlock]; omega))).kept gC (.inr (by simp [Value.ownBlock]; omega))
  have o2 := (ow.kept gB (.inr (by simp [Value.ownBlock]; omega))).kept gC (.inr (by simp [Value.ownBlock]; omega))
  have P1 := hid (owns_base (base' := w.heap.size) o1 (by have := HZ.out; omega))
  have P2 := hid o2
  have B3 := hid (below_setRow (below_setRow (BA.out.trans (b.mono BA.out.size)) (show w.heap.size ≤ (w.heap.size + 1 + 1) by omega) #[.int .i64 K, .int .i64 N, .float .f64 f, .slice (some ⟨g1, 0, none⟩) n n, .int .i64 K', .int .i64 N', .float .f64 f', .slice (some ⟨g2, 0, none⟩) n' n']) (show w.heap.size ≤ (w.heap.size + 1) by omega) #[.int .i64 K, .int .i64 N, .float .f64 f, .slice (some ⟨g1, 0, none⟩) n n, .int .i64 K', .int .i64 N', .float .f64 f', .slice (some ⟨g2, 0, none⟩) n' n'])
  have T2' := hid t2
  have V2 := hid u2
  have V1 := hid u1
  have Z2 := hid (show ((w2.setRow (w.heap.size + 1 + 1) #[.int .i64 K, .int .i64 N, .float .f64 f, .slice (some ⟨g1, 0, none⟩) n n, .int .i64 K', .int .i64 N', .float .f64 f', .slice (some ⟨g2, 0, none⟩) n' n']).setRow (w.heap.size + 1) #[.int .i64 K, .int .i64 N, .float .f64 f, .slice (some ⟨g1, 0, none⟩) n n, .int .i64 K', .int .i64 N', .float .f64 f', .slice (some ⟨g2, 0, none⟩) n' n']).heap.size = w2.heap.size by simp)
  have ZB := hid bs
  clear zu zs1 z3 og bs t1 t2 og2 gB u2 u1 gC o1 o2 ow b
  go_wp2_with (first
    | (refine wpList_store_part rfl 28 (.tmp 11) (.tmp 10) rfl (w.heap.size + 1 + 1) 4 #[.int .i64 K', .int .i64 N', .float .f64 f', .slice (some ⟨g2, 0, none⟩) n' n'] rfl rfl 69 _ T2'.out ?s11 ?s12 ?s13 #[.int .i64 K, .int .i64 N, .float .f64 f, .slice (some ⟨g1, 0, none⟩) n n, .int .i64 K', .int .i64 N', .float .f64 f', .slice (some ⟨g2, 0, none⟩) n' n'] rfl ?_)
    | (refine wpList_load_row rfl 69 (.tmp 3) rfl (w.heap.size + 1 + 1) rfl 69 _ (0, 0) _ V2.out Tryd.underlying69 rfl size_pr18 ?_)
    | (refine wpList_store_row rfl 69 (.tmp 2) (.tmp 12) rfl (w.heap.size + 1) #[.int .i64 K, .int .i64 N, .float .f64 f, .slice (some ⟨g1, 0, none⟩) n n, .int .i64 K', .int .i64 N', .float .f64 f', .slice (some ⟨g2, 0, none⟩) n' n'] rfl rfl 69 _ V1.out ?s7 ?s8 ?s9 ?_))
  case s11 => exact size_it13
  case s12 => simp
  case s13 => simp [Value.oneCell']
  case s7 => exact size_pr18
  case s8 => rfl
  case s9 => simp [Value.oneCell']
  exact bodyPost_ret (results_cell_row Tryd.results58 _ _ (w.heap.size + 1) 69 _ (0, 0) _ rfl (setRow_heap _ _ _ _ _ _ V1.out) Tryd.underlying69 rfl size_pr18) rfl ⟨g1, g2, U.heap.size, rfl, P1.out, P2.out, by have := OG.out; have := ZU.out; omega, by have := SZ1.out; have := ZU.out; omega, by rw [Z2.out]; exact ZB.out, B3.out⟩

set_option maxHeartbeats 1600000 in
theorem szPair (K N : Int) (f : Nat) (ad : Option Addr) (n cap : Nat) (K' N' : Int) (f' : Nat) (ad' : Option Addr) (n' cap' : Nat) (left : Int) (hn : n ≤ 9223372036854775807) (hn' : n' ≤ 9223372036854775807) (h0 : 0 ≤ left) (h1 : left ≤ 1048576) (w : World) :
    Calls Tryd.prog 57 #[.agg #[.int .i64 K, .int .i64 N, .float .f64 f, .slice ad n cap, .int .i64 K', .int .i64 N', .float .f64 f', .slice ad' n' cap'], .int .i64 left] w fun e w' => e = .returned (.int .i64 (lft13 left (n + n'))) ∧ Below w.heap.size w w' := by
  have hst := fun w a m => run_store Tryd.prog w a (.float .f64 f) m rfl
  have hst2 := fun w a m => run_store Tryd.prog w a (.float .f64 f') m rfl
  have hB := Below.alloc1 w (.cells #[.int .i64 K, .int .i64 N, .float .f64 f, .slice ad n cap, .int .i64 K', .int .i64 N', .float .f64 f', .slice ad' n' cap'] 87)
  have R := heap_alloc_new w (.cells #[.int .i64 K, .int .i64 N, .float .f64 f, .slice ad n cap, .int .i64 K', .int .i64 N', .float .f64 f', .slice ad' n' cap'] 87)
  have HB := hid hB
  have HR := hid R
  have HZ := hid (alloc_size w (.cells #[.int .i64 K, .int .i64 N, .float .f64 f, .slice ad n cap, .int .i64 K', .int .i64 N', .float .f64 f', .slice ad' n' cap'] 87))
  clear hB R
  go_enter Tryd.func57, Tryd.ntmps57
  go_wp2_with fail
  refine (szItem K N f ad n cap left hn h0 h1 _).mono ?_
  rintro e w1 ⟨rfl, b⟩
  have t0 := (b.block w.heap.size (by have := HZ.out; omega)).trans HR.out
  have c4 : w1.cell? ⟨w.heap.size, 4, none⟩ = some (.int .i64 K') := by rw [cell_of_row _ _ _ _ _ _ t0]; rfl
  have c5 : w1.cell? ⟨w.heap.size, 5, none⟩ = some (.int .i64 N') := by rw [cell_of_row _ _ _ _ _ _ t0]; rfl
  have c6 : w1.cell? ⟨w.heap.size, 6, none⟩ = some (.float .f64 f') := by rw [cell_of_row _ _ _ _ _ _ t0]; rfl
  have c7 : w1.cell? ⟨w.heap.size, 7, none⟩ = some (.slice ad' n' cap') := by rw [cell_of_row _ _ _ _ _ _ t0]; rfl
  replace HB := hid (HB.out.trans (b.mono HB.out.size))
  clear b t0
  by_cases hq : left < (n : Int)
  · rw [if_pos hq]
    have HE := hid (show lft13 left (n + n') = -1 by unfold lft13; rw [if_pos (by omega)])
    go_wp2_with fail
    go_ret
    exact ⟨by rw [HE.out]; rfl, HB.out⟩
  · rw [if_neg hq]
    have hq1 : ¬ left - (n : Int) < 0 := by omega
    obtain ⟨L, hL⟩ : ∃ L : Int, left - n = L := ⟨_, rfl⟩
    rw [hL] at hq1 ⊢
    have hL0 : 0 ≤ L := by omega
    have hL1 : L ≤ 1048576 := by omega
    have HG := hid (show lft13 left (n + n') = if L < (n' : Int) then -1 else L - n' by unfold lft13; by_cases hh : L < (n' : Int); (rw [if_pos (by omega), if_pos hh]); (rw [if_neg (by omega), if_neg hh]; omega))
    clear hL
    go_wp2_with fail
    clear c4 c5 c6 c7
    refine (szItem K' N' f' ad' n' cap' L hn' hL0 hL1 _).mono ?_
    rintro e w2 ⟨rfl, b⟩
    replace HB := hid (HB.out.trans (b.mono HB.out.size))
    clear b
    by_cases hh : L < (n' : Int)
    · rw [if_pos hh]
      rw [if_pos hh] at HG
      go_wp2_with fail
      go_ret
      exact ⟨by rw [HG.out]; rfl, HB.out⟩
    · rw [if_neg hh]
      rw [if_neg hh] at HG
      have hh2 : ¬ L - (n' : Int) < 0 := by omega
      go_wp2_with fail
      go_ret
      exact ⟨by rw [HG.out]; rfl, HB.out⟩

set_option maxHeartbeats 3200000 in
theorem eqPair (K N : Int) (f k1 : Nat) {x1 y1 : Option Addr} {n : Nat} (c1 d1 : Nat) (K' N' : Int) (f2 k2 : Nat) {x2 y2 : Option Addr} {n' : Nat} (c2 d2 : Nat) {zs zs' : List Int} {w : World} (hf : f < 18446744073709551616) (hk1 : k1 < 18446744073709551616) (hf2 : f2 < 18446744073709551616) (hk2 : k2 < 18446744073709551616) (s1 : Same f k1) (s2 : Same f2 k2) (r1 : Reads w x1 n zs) (q1 : Reads w y1 n zs) (r2 : Reads w x2 n' zs') (q2 : Reads w y2 n' zs') (hn : n ≤ 2097152) (hn' : n' ≤ 2097152) :
    Calls Tryd.prog 65 #[.agg #[.int .i64 K, .int .i64 N, .float .f64 f, .slice x1 n c1, .int .i64 K', .int .i64 N', .float .f64 f2, .slice x2 n' c2], .agg #[.int .i64 K, .int .i64 N, .float .f64 k1, .slice y1 n d1, .int .i64 K', .int .i64 N', .float .f64 k2, .slice y2 n' d2]] w fun e w' => e = .returned (.bool true) ∧ Below w.heap.size w w' := by
  have hst := fun w a m => run_store Tryd.prog w a (.float .f64 f) m rfl
  have hst2 := fun w a m => run_store Tryd.prog w a (.float .f64 f2) m rfl
  have hst3 := fun w a m => run_store Tryd.prog w a (.float .f64 k1) m rfl
  have hst4 := fun w a m => run_store Tryd.prog w a (.float .f64 k2) m rfl
  have hB := two w (.cells #[.int .i64 K, .int .i64 N, .float .f64 f, .slice x1 n c1, .int .i64 K', .int .i64 N', .float .f64 f2, .slice x2 n' c2] 69) (.cells #[.int .i64 K, .int .i64 N, .float .f64 k1, .slice y1 n d1, .int .i64 K', .int .i64 N', .float .f64 k2, .slice y2 n' d2] 69)
  obtain ⟨R1, R2, z⟩ := two_rows13 w (.cells #[.int .i64 K, .int .i64 N, .float .f64 f, .slice x1 n c1, .int .i64 K', .int .i64 N', .float .f64 f2, .slice x2 n' c2] 69) (.cells #[.int .i64 K, .int .i64 N, .float .f64 k1, .slice y1 n d1, .int .i64 K', .int .i64 N', .float .f64 k2, .slice y2 n' d2] 69)
  have H1 := hid (r1.below hB (Nat.le_refl _))
  have H2 := hid (q1.below hB (Nat.le_refl _))
  have H3 := hid (r2.below hB (Nat.le_refl _))
  have H4 := hid (q2.below hB (Nat.le_refl _))
  have HB := hid hB
  have HR1 := hid R1
  have HR2 := hid R2
  have HZ := hid z
  clear hB r1 q1 r2 q2 R1 R2 z
  go_enter Tryd.func65, Tryd.ntmps65
  go_wp2_with fail
  refine (eqItem K N f k1 c1 d1 hf hk1 s1 H1.out H2.out hn).mono ?_
  rintro e w1 ⟨rfl, b⟩
  have t0 := (b.block w.heap.size (by have := HZ.out; omega)).trans HR1.out
  have t1 := (b.block (w.heap.size + 1) (by have := HZ.out; omega)).trans HR2.out
  have c4 : w1.cell? ⟨w.heap.size, 4, none⟩ = some (.int .i64 K') := by rw [cell_of_row _ _ _ _ _ _ t0]; rfl
  have c5 : w1.cell? ⟨w.heap.size, 5, none⟩ = some (.int .i64 N') := by rw [cell_of_row _ _ _ _ _ _ t0]; rfl
  have c6 : w1.cell? ⟨w.heap.size, 6, none⟩ = some (.float .f64 f2) := by rw [cell_of_row _ _ _ _ _ _ t0]; rfl
  have c7 : w1.cell? ⟨w.heap.size, 7, none⟩ = some (.slice x2 n' c2) := by rw [cell_of_row _ _ _ _ _ _ t0]; rfl
  have e4 : w1.cell? ⟨w.heap.size + 1, 4, none⟩ = some (.int .i64 K') := by rw [cell_of_row _ _ _ _ _ _ t1]; rfl
  have e5 : w1.cell? ⟨w.heap.size + 1, 5, none⟩ = some (.int .i64 N') := by rw [cell_of_row _ _ _ _ _ _ t1]; rfl
  have e6 : w1.cell? ⟨w.heap.size + 1, 6, none⟩ = some (.float .f64 k2) := by rw [cell_of_row _ _ _ _ _ _ t1]; rfl
  have e7 : w1.cell? ⟨w.heap.size + 1, 7, none⟩ = some (.slice y2 n' d2) := by rw [cell_of_row _ _ _ _ _ _ t1]; rfl
  replace H3 := hid (H3.out.below b (Nat.le_refl _))
  replace H4 := hid (H4.out.below b (Nat.le_refl _))
  replace HB := hid (HB.out.trans (b.mono HB.out.size))
  clear b t0 t1
  go_wp2_with fail
  clear c4 c5 c6 c7 e4 e5 e6 e7
  refine (eqItem K' N' f2 k2 c2 d2 hf2 hk2 s2 H3.out H4.out hn').mono ?_
  rintro e w2 ⟨rfl, b⟩
  replace HB := hid (HB.out.trans (b.mono HB.out.size))
  clear b
  go_wp2_with fail
  go_ret
  exact ⟨rfl, HB.out⟩
end Go.Proofs.YtoppccfgcccijaaDoor