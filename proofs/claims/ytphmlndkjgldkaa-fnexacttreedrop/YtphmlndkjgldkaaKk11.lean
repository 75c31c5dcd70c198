/- The program's order of entries. Conditions: texts of at most 2^21 bytes. -/
import Derived.Test.YtphmlndkjgldkaaKj11
import Derived.Test.YtphmlndkjgldkaaNi
import Derived.Test.YtphmlndkjgldkaaMga
namespace Go.Proofs.Ytphmlndkjgldkaa
open Go.RowKit
set_option maxRecDepth 100000
def or2 (c d : Int) : Int := if c ≠ 0 then c else d
theorem or2_lt (c a b : Int) : decide (0 ≤ or2 c (cmpZ a b)) = !ltB c a b := by
 unfold or2 cmpZ ltB
 by_cases h0 : c = 0
 · subst h0
   by_cases h1 : a < b
   · simp [h1]
   · by_cases h2 : b < a
     · simp [h1, h2]
     · simp [h1, h2]
 · by_cases h1 : c < 0
   · simp [h0, h1]
   · simp [h0, h1]; omega
set_option maxHeartbeats 1600000 in
theorem impl_or2 (c d : Int) {b off cap : Nat} {w : World} (h0 : w.cell? ⟨b, off, none⟩ = some (.int .i64 c)) (h1 : w.cell? ⟨b, off + 1, none⟩ = some (.int .i64 d)) :
 Calls Try.prog 115 #[.slice (some ⟨b, off, none⟩) 2 cap] w fun e w' => e = .returned (.int .i64 (or2 c d)) ∧ w' = w := by
 have HO := hid (show or2 c d = if c ≠ 0 then c else d from rfl)
 go_enter Try.func115, Try.ntmps115
 go_wp2_with fail
 go_loopw [8] (fun s8 wr => ∃ k : Nat, k ≤ 2 ∧ s8 = .int .i64 k ∧ (1 ≤ k → c = 0) ∧ (2 ≤ k → d = 0) ∧ wr = w) (fun i _ => 2 - (intOf i).toNat)
 case atStart => exact ⟨0, by omega, rfl, fun h => by omega, fun h => by omega, rfl⟩
 case round =>
  obtain ⟨k, hk, rfl, q1, q2, rfl⟩ := hrel
  rcases (show k = 0 ∨ k = 1 ∨ k = 2 by omega) with rfl | rfl | rfl
  · by_cases hc : c = 0
    · subst hc
      go_wp2_with fail
      go_roundw
      case rel => exact ⟨1, by omega, by go_num, fun _ => (by first | trivial | rfl), fun h => by omega, by trivial⟩
      case measure => simp [intOf]
    · have e0 := hid (show or2 c d = c by rw [HO.out, if_pos hc])
      have hc' : (c != 0) = true := by simp [hc]
      go_wp2_with fail
      go_ret
      exact ⟨by rw [e0.out]; rfl, rfl⟩
  · have hc := q1 (Nat.le_refl _)
    subst hc
    have e0 := hid (show or2 0 d = d by rw [HO.out]; simp)
    by_cases hd : d = 0
    · subst hd
      go_wp2_with fail
      go_roundw
      case rel => exact ⟨2, by omega, by go_num, fun _ => (by first | trivial | rfl), fun _ => (by first | trivial | rfl), by trivial⟩
      case measure => simp [intOf]
    · have hd' : (d != 0) = true := by simp [hd]
      go_wp2_with fail
      go_ret
      exact ⟨by rw [e0.out]; rfl, rfl⟩
  · have hc := q1 (by omega)
    have hd := q2 (Nat.le_refl _)
    subst hc hd
    have e0 := hid (show or2 0 0 = 0 by rw [HO.out]; simp)
    go_wp2_with fail
    go_ret
    exact ⟨by rw [e0.out]; rfl, rfl⟩
set_option maxHeartbeats 6400000 in
theorem impl_compare (K N : Int) (f : Nat) {ad : Option Addr} {n : Nat} (cap : Nat) (id : Int) (K' N' : Int) (f' : Nat) {ad' : Option Addr} {n' : Nat} (cap' : Nat) (id' : Int) {zs zs' : List Int} {w : World} (hf : f < 18446744073709551616) (hf' : f' < 18446744073709551616) (h : Reads w ad n zs) (h' : Reads w ad' n' zs') (hn : n ≤ 2097152) (hn' : n' ≤ 2097152) :
 Calls Try.prog 92 #[.agg #[.int .i64 K, .int .i64 N, .float .f64 f, .slice ad n cap, .int .i64 id], .agg #[.int .i64 K', .int .i64 N', .float .f64 f', .slice ad' n' cap', .int .i64 id']] w fun e w' => e = .returned (.int .i64 (or2 (cmpI K N f n zs K' N' f' n' zs') (cmpZ id id'))) ∧ Below w.heap.size w w' := by
 have hst := fun w a m => run_store Try.prog w a (.float .f64 f) m rfl
 have hst' := fun w a m => run_store Try.prog w a (.float .f64 f') m rfl
 have hB := two w (.cells #[.int .i64 K, .int .i64 N, .float .f64 f, .slice ad n cap, .int .i64 id] 35) (.cells #[.int .i64 K', .int .i64 N', .float .f64 f', .slice ad' n' cap', .int .i64 id'] 35)
 obtain ⟨R1, R2, z⟩ := two_rows11 w (.cells #[.int .i64 K, .int .i64 N, .float .f64 f, .slice ad n cap, .int .i64 id] 35) (.cells #[.int .i64 K', .int .i64 N', .float .f64 f', .slice ad' n' cap', .int .i64 id'] 35)
 have HB := hid hB
 have H1 := hid (h.below hB (Nat.le_refl _))
 have H2 := hid (h'.below hB (Nat.le_refl _))
 have HR1 := hid R1
 have HR2 := hid R2
 have HZ := hid z
 clear hB R1 R2 z h h'
 go_enter Try.func92, Try.ntmps92
 go_wp2_with fail
 generalize (w.alloc (.cells #[.int .i64 K, .int .i64 N, .float .f64 f, .slice ad n cap, .int .i64 id] 35)).alloc (.cells #[.int .i64 K', .int .i64 N', .float .f64 f', .slice ad' n' cap', .int .i64 id'] 35) = V at *
 have bD := (Still.drew V).below V.heap.size
 replace H1 := hid (H1.out.below bD (Nat.le_refl _))
 replace H2 := hid (H2.out.below bD (Nat.le_refl _))
 have hz := HZ.out
 replace HR1 := hid ((bD.block w.heap.size (by omega)).trans HR1.out)
 replace HR2 := hid ((bD.block (w.heap.size + 1) (by omega)).trans HR2.out)
 replace HB := hid (HB.out.trans (bD.mono HB.out.size))
 have HZ2 := hid (show w.heap.size + 1 < V.drew.heap.size by have := bD.size; omega)
 clear bD hz HZ
 obtain ⟨p0, hp0⟩ : ∃ p0, w.heap.size = p0 := ⟨_, rfl⟩
 obtain ⟨p1, hp1⟩ : ∃ p1, w.heap.size + 1 = p1 := ⟨_, rfl⟩
 rw [hp0] at HR1
 rw [hp1] at HR2 HZ2
 have HP := hid (show p0 < p1 by omega)
 try simp only [hp1]
 try simp only [hp0]
 have HW := hid hp0
 clear hp1 hp0
 have CE := hid (show V.drew.cell? ⟨p0, 0, none⟩ = some (.int .i64 K) ∧ V.drew.cell? ⟨p0, 1, none⟩ = some (.int .i64 N) ∧ V.drew.cell? ⟨p0, 2, none⟩ = some (.float .f64 f) ∧ V.drew.cell? ⟨p0, 3, none⟩ = some (.slice ad n cap) ∧ V.drew.cell? ⟨p0, 4, none⟩ = some (.int .i64 id) ∧ V.drew.cell? ⟨p1, 0, none⟩ = some (.int .i64 K') ∧ V.drew.cell? ⟨p1, 1, none⟩ = some (.int .i64 N') ∧ V.drew.cell? ⟨p1, 2, none⟩ = some (.float .f64 f') ∧ V.drew.cell? ⟨p1, 3, none⟩ = some (.slice ad' n' cap') ∧ V.drew.cell? ⟨p1, 4, none⟩ = some (.int .i64 id') from ⟨by rw [cell_of_row _ _ _ _ _ _ HR1.out]; rfl, by rw [cell_of_row _ _ _ _ _ _ HR1.out]; rfl, by rw [cell_of_row _ _ _ _ _ _ HR1.out]; rfl, by rw [cell_of_row _ _ _ _ _ _ HR1.out]; rfl, by rw [cell_of_row _ _ _ _ _ _ HR1.out]; rfl, by rw [cell_of_row _ _ _ _ _ _ HR2.out]; rfl, by rw [cell_of_row _ _ _ _ _ _ HR2.out]; rfl, by rw [cell_of_row _ _ _ _ _ _ HR2.out]; rfl, by rw [cell_of_row _ _ _ _ _ _ HR2.out]; rfl, by rw [cell_of_row _ _ _ _ _ _ HR2.out]; rfl⟩)
 refine region_K 99 (fun W => W.cell? ⟨p0, 0, none⟩ = some (.int .i64 K) ∧ W.cell? ⟨p0, 1, none⟩ = some (.int .i64 N) ∧ W.cell? ⟨p0, 2, none⟩ = some (.float .f64 f) ∧ W.cell? ⟨p0, 3, none⟩ = some (.slice ad n cap) ∧ W.cell? ⟨p0, 4, none⟩ = some (.int .i64 id) ∧ W.cell? ⟨p1, 0, none⟩ = some (.int .i64 K') ∧ W.cell? ⟨p1, 1, none⟩ = some (.int .i64 N') ∧ W.cell? ⟨p1, 2, none⟩ = some (.float .f64 f') ∧ W.cell? ⟨p1, 3, none⟩ = some (.slice ad' n' cap') ∧ W.cell? ⟨p1, 4, none⟩ = some (.int .i64 id')) (by kernel_rfl) ?_ (fun hHeld => ?_)
 · exact CE.out
 generalize V.drew = v0 at *
 clear CE
 refine anyK_take2 (i := 0) (v := ?v0) rfl (by kernel_rfl) (by kernel_rfl) (by kernel_rfl) (by rfl) (fun _ _ _ h => h) (by rfl) hHeld ?hy0 (some 5) (by rfl) ?rest0
 case hy0 => (intro W hSw; obtain ⟨x0, x1, x2, x3, x4, y0, y1, y2, y3, y4⟩ := hSw; go_simp; (try with_reducible rfl))
 try simp only [Act.put, List.setIfInBounds_toArray, List.set_cons_succ, List.set_cons_zero]
 refine anyK_take2 (i := 1) (v := ?v1) rfl (by kernel_rfl) (by kernel_rfl) (by kernel_rfl) (by rfl) (fun _ _ _ h => h) (by rfl) hHeld ?hy1 (some 6) (by rfl) ?rest1
 case hy1 => (intro W hSw; obtain ⟨x0, x1, x2, x3, x4, y0, y1, y2, y3, y4⟩ := hSw; go_simp; (try with_reducible rfl))
 try simp only [Act.put, List.setIfInBounds_toArray, List.set_cons_succ, List.set_cons_zero]
 refine anyK_take2 (i := 2) (v := ?v2) rfl (by kernel_rfl) (by kernel_rfl) (by kernel_rfl) (by rfl) (fun _ _ _ h => h) (by rfl) hHeld ?hy2 (some 7) (by rfl) ?rest2
 case hy2 => (intro W hSw; obtain ⟨x0, x1, x2, x3, x4, y0, y1, y2, y3, y4⟩ := hSw; go_simp; (try with_reducible rfl))
 try simp only [Act.put, List.setIfInBounds_toArray, List.set_cons_succ, List.set_cons_zero]
 refine anyK_take2 (i := 3) (v := ?v3) rfl (by kernel_rfl) (by kernel_rfl) (by kernel_rfl) (by rfl) (fun _ _ _ h => h) (by rfl) hHeld ?hy3 (some 8) (by rfl) ?rest3
 case hy3 => (intro W hSw; obtain ⟨x0, x1, x2, x3, x4, y0, y1, y2, y3, y4⟩ := hSw; go_simp; (try with_reducible rfl))
 try simp only [Act.put, List.setIfInBounds_toArray, List.set_cons_succ, List.set_cons_zero]
 refine anyK_take2 (i := 5) (v := ?v5) rfl (by kernel_rfl) (by kernel_rfl) (by kernel_rfl) (by rfl) (fun _ _ _ h => h) (by rfl) hHeld ?hy5 (some 10) (by rfl) ?rest5
 case hy5 => (intro W hSw; obtain ⟨x0, x1, x2, x3, x4, y0, y1, y2, y3, y4⟩ := hSw; go_simp; (try with_reducible rfl))
 try simp only [Act.put, List.setIfInBounds_toArray, List.set_cons_succ, List.set_cons_zero]
 refine anyK_take2 (i := 6) (v := ?v6) rfl (by kernel_rfl) (by kernel_rfl) (by kernel_rfl) (by rfl) (fun _ _ _ h => h) (by rfl) hHeld ?hy6 (some 11) (by rfl) ?rest6
 case hy6 => (intro W hSw; obtain ⟨x0, x1, x2, x3, x4, y0, y1, y2, y3, y4⟩ := hSw; go_simp; (try with_reducible rfl))
 try simp only [Act.put, List.setIfInBounds_toArray, List.set_cons_succ, List.set_cons_zero]
 refine anyK_take2 (i := 7) (v := ?v7) rfl (by kernel_rfl) (by kernel_rfl) (by kernel_rfl) (by rfl) (fun _ _ _ h => h) (by rfl) hHeld ?hy7 (some 12) (by rfl) ?rest7
 case hy7 => (intro W hSw; obtain ⟨x0, x1, x2, x3, x4, y0, y1, y2, y3, y4⟩ := hSw; go_simp; (try with_reducible rfl))
 try simp only [Act.put, List.setIfInBounds_toArray, List.set_cons_succ, List.set_cons_zero]
 refine anyK_take2 (i := 8) (v := ?v8) rfl (by kernel_rfl) (by kernel_rfl) (by kernel_rfl) (by rfl) (fun _ _ _ h => h) (by rfl) hHeld ?hy8 (some 13) (by rfl) ?rest8
 case hy8 => (intro W hSw; obtain ⟨x0, x1, x2, x3, x4, y0, y1, y2, y3, y4⟩ := hSw; go_simp; (try with_reducible rfl))
 try simp only [Act.put, List.setIfInBounds_toArray, List.set_cons_succ, List.set_cons_zero]
 refine anyK_step (i := 4) (by kernel_rfl) rfl (fun KP hK => ?_)
 go_simp
 refine (impl_ItemCompare K N K' N' f f' cap cap' hf hf' H1.out H2.out hn hn').mono ?_
 rintro e v1 ⟨rfl, b⟩
 replace HR1 := hid ((b.block p0 (by have := HP.out; have := HZ2.out; omega)).trans HR1.out)
 replace HR2 := hid ((b.block p1 HZ2.out).trans HR2.out)
 replace HB := hid (HB.out.trans (b.mono HB.out.size))
 replace HZ2 := hid (Nat.lt_of_lt_of_le HZ2.out b.size)
 obtain ⟨C, hC⟩ : ∃ C, cmpI K N f n zs K' N' f' n' zs' = C := ⟨_, rfl⟩
 rw [hC]
 have HC := hid hC
 clear b hC
 go_wp2_with fail
 clear hHeld
 refine hK.out _ _ ⟨by rw [cell_of_row _ _ _ _ _ _ HR1.out]; rfl, by rw [cell_of_row _ _ _ _ _ _ HR1.out]; rfl, by rw [cell_of_row _ _ _ _ _ _ HR1.out]; rfl, by rw [cell_of_row _ _ _ _ _ _ HR1.out]; rfl, by rw [cell_of_row _ _ _ _ _ _ HR1.out]; rfl, by rw [cell_of_row _ _ _ _ _ _ HR2.out]; rfl, by rw [cell_of_row _ _ _ _ _ _ HR2.out]; rfl, by rw [cell_of_row _ _ _ _ _ _ HR2.out]; rfl, by rw [cell_of_row _ _ _ _ _ _ HR2.out]; rfl, by rw [cell_of_row _ _ _ _ _ _ HR2.out]; rfl⟩ (fun hHeld => ?_)
 clear hK KP
 try simp only [Act.put, List.setIfInBounds_toArray, List.set_cons_succ, List.set_cons_zero]
 refine anyK_step (i := 9) (by kernel_rfl) rfl (fun KP hK => ?_)
 go_simp
 refine (impl_ordI id id' v1).mono ?_
 rintro e v2 ⟨rfl, e1⟩
 subst v2
 obtain ⟨D, hD⟩ : ∃ D, cmpZ id id' = D := ⟨_, rfl⟩
 rw [hD]
 have HD := hid hD
 clear hD
 go_wp2_with fail
 clear hHeld
 refine hK.out _ _ ⟨by rw [cell_of_row _ _ _ _ _ _ HR1.out]; rfl, by rw [cell_of_row _ _ _ _ _ _ HR1.out]; rfl, by rw [cell_of_row _ _ _ _ _ _ HR1.out]; rfl, by rw [cell_of_row _ _ _ _ _ _ HR1.out]; rfl, by rw [cell_of_row _ _ _ _ _ _ HR1.out]; rfl, by rw [cell_of_row _ _ _ _ _ _ HR2.out]; rfl, by rw [cell_of_row _ _ _ _ _ _ HR2.out]; rfl, by rw [cell_of_row _ _ _ _ _ _ HR2.out]; rfl, by rw [cell_of_row _ _ _ _ _ _ HR2.out]; rfl, by rw [cell_of_row _ _ _ _ _ _ HR2.out]; rfl⟩ (fun hHeld => ?_)
 clear hK KP
 try simp only [Act.put, List.setIfInBounds_toArray, List.set_cons_succ, List.set_cons_zero]
 refine anyK_step (i := 10) (by kernel_rfl) rfl (fun KP hK => ?_)
 go_simp
 have bA := Below.alloc1 v1 (.cells #[.int .i64 C, .int .i64 D] 3)
 have RN := hid (heap_alloc_new v1 (.cells #[.int .i64 C, .int .i64 D] 3))
 replace HR1 := hid ((bA.block p0 (by have := HP.out; have := HZ2.out; omega)).trans HR1.out)
 replace HR2 := hid ((bA.block p1 HZ2.out).trans HR2.out)
 replace HB := hid (HB.out.trans (bA.mono HB.out.size))
 clear bA
 clear hHeld
 refine hK.out _ _ ⟨by rw [cell_of_row _ _ _ _ _ _ HR1.out]; rfl, by rw [cell_of_row _ _ _ _ _ _ HR1.out]; rfl, by rw [cell_of_row _ _ _ _ _ _ HR1.out]; rfl, by rw [cell_of_row _ _ _ _ _ _ HR1.out]; rfl, by rw [cell_of_row _ _ _ _ _ _ HR1.out]; rfl, by rw [cell_of_row _ _ _ _ _ _ HR2.out]; rfl, by rw [cell_of_row _ _ _ _ _ _ HR2.out]; rfl, by rw [cell_of_row _ _ _ _ _ _ HR2.out]; rfl, by rw [cell_of_row _ _ _ _ _ _ HR2.out]; rfl, by rw [cell_of_row _ _ _ _ _ _ HR2.out]; rfl⟩ (fun hHeld => ?_)
 clear hK KP
 try simp only [Act.put, List.setIfInBounds_toArray, List.set_cons_succ, List.set_cons_zero]
 refine anyK_step (i := 11) (by kernel_rfl) rfl (fun KP hK => ?_)
 go_simp
 refine (impl_or2 C D (b := v1.heap.size) (off := 0) (cell_of_row _ _ 0 _ _ _ RN.out) (cell_of_row _ _ 1 _ _ _ RN.out)).mono ?_
 rintro e v3 ⟨rfl, e1⟩
 subst v3
 go_wp2_with fail
 clear hHeld
 refine hK.out _ _ ⟨by rw [cell_of_row _ _ _ _ _ _ HR1.out]; rfl, by rw [cell_of_row _ _ _ _ _ _ HR1.out]; rfl, by rw [cell_of_row _ _ _ _ _ _ HR1.out]; rfl, by rw [cell_of_row _ _ _ _ _ _ HR1.out]; rfl, by rw [cell_of_row _ _ _ _ _ _ HR1.out]; rfl, by rw [cell_of_row _ _ _ _ _ _ HR2.out]; rfl, by rw [cell_of_row _ _ _ _ _ _ HR2.out]; rfl, by rw [cell_of_row _ _ _ _ _ _ HR2.out]; rfl, by rw [cell_of_row _ _ _ _ _ _ HR2.out]; rfl, by rw [cell_of_row _ _ _ _ _ _ HR2.out]; rfl⟩ (fun hHeld => ?_)
 clear hK KP
 try simp only [Act.put, List.setIfInBounds_toArray, List.set_cons_succ, List.set_cons_zero]
 refine anyK_step (i := 12) (by kernel_rfl) rfl (fun KP hK => ?_)
 go_simp
 clear hHeld
 refine hK.out _ _ ⟨by rw [cell_of_row _ _ _ _ _ _ HR1.out]; rfl, by rw [cell_of_row _ _ _ _ _ _ HR1.out]; rfl, by rw [cell_of_row _ _ _ _ _ _ HR1.out]; rfl, by rw [cell_of_row _ _ _ _ _ _ HR1.out]; rfl, by rw [cell_of_row _ _ _ _ _ _ HR1.out]; rfl, by rw [cell_of_row _ _ _ _ _ _ HR2.out]; rfl, by rw [cell_of_row _ _ _ _ _ _ HR2.out]; rfl, by rw [cell_of_row _ _ _ _ _ _ HR2.out]; rfl, by rw [cell_of_row _ _ _ _ _ _ HR2.out]; rfl, by rw [cell_of_row _ _ _ _ _ _ HR2.out]; rfl⟩ (fun hHeld => ?_)
 clear hK KP
 try simp only [Act.put, List.setIfInBounds_toArray, List.set_cons_succ, List.set_cons_zero]
 refine anyK_done (by kernel_rfl) ?_ _
 clear hHeld
 go_wp2_with fail
 go_ret
 exact ⟨by rw [HC.out, HD.out]; rfl, HB.out⟩
set_option maxHeartbeats 1600000 in
theorem impl_notBelow (K N : Int) (f : Nat) {ad : Option Addr} {n : Nat} (cap : Nat) (id : Int) (K' N' : Int) (f' : Nat) {ad' : Option Addr} {n' : Nat} (cap' : Nat) (id' : Int) {zs zs' : List Int} {w : World} (hf : f < 18446744073709551616) (hf' : f' < 18446744073709551616) (h : Reads w ad n zs) (h' : Reads w ad' n' zs') (hn : n ≤ 2097152) (hn' : n' ≤ 2097152) :
 Calls Try.prog 114 #[.agg #[.int .i64 K, .int .i64 N, .float .f64 f, .slice ad n cap, .int .i64 id], .agg #[.int .i64 K', .int .i64 N', .float .f64 f', .slice ad' n' cap', .int .i64 id']] w fun e w' => e = .returned (.bool (!ltB (cmpI K N f n zs K' N' f' n' zs') id id')) ∧ Below w.heap.size w w' := by
 have hst := fun w a m => run_store Try.prog w a (.float .f64 f) m rfl
 have hst' := fun w a m => run_store Try.prog w a (.float .f64 f') m rfl
 have hB := two w (.cells #[.int .i64 K, .int .i64 N, .float .f64 f, .slice ad n cap, .int .i64 id] 35) (.cells #[.int .i64 K', .int .i64 N', .float .f64 f', .slice ad' n' cap', .int .i64 id'] 35)
 have HB := hid hB
 have H1 := hid (h.below hB (Nat.le_refl _))
 have H2 := hid (h'.below hB (Nat.le_refl _))
 clear hB h h'
 go_enter Try.func114, Try.ntmps114
 go_wp2_with fail
 refine (impl_compare K N f cap id K' N' f' cap' id' hf hf' H1.out H2.out hn hn').mono ?_
 rintro e w1 ⟨rfl, b⟩
 replace HB := hid (HB.out.trans (b.mono HB.out.size))
 have HL := hid (or2_lt (cmpI K N f n zs K' N' f' n' zs') id id')
 obtain ⟨X, hX⟩ : ∃ X, or2 (cmpI K N f n zs K' N' f' n' zs') (cmpZ id id') = X := ⟨_, rfl⟩
 rw [hX] at HL
 rw [hX]
 clear b hX
 go_wp2_with fail
 go_ret
 exact ⟨by rw [← HL.out]; rfl, HB.out⟩
end Go.Proofs.Ytphmlndkjgldkaa
