/- FnExactSpanOk's walk, the program's contract being given. Conditions: none but what the arguments' types say. -/
import Derived.Test.YtnhlfkffllbpiaaEm13
namespace Go.Proofs.Ytnhlfkffllbpiaa
open Go.RowKit
set_option maxRecDepth 100000

set_option maxHeartbeats 12800000 in
theorem exactSpanOk (hI : ∀ (K N : Int) (f : Nat) {ad : Option Addr} {n : Nat} (cap : Nat) (K' N' : Int) (f' : Nat) {ad' : Option Addr} {n' : Nat} (cap' : Nat) {zs zs' : List Int} {w : World}, Reads w ad n zs → Reads w ad' n' zs' → f < 18446744073709551616 → f' < 18446744073709551616 → n ≤ 2097152 → n' ≤ 2097152 → Calls Try.prog 13 #[.agg #[.int .i64 K, .int .i64 N, .float .f64 f, .slice ad n cap, .int .i64 K', .int .i64 N', .float .f64 f', .slice ad' n' cap']] w fun y w' => y = .returned (.bool (spB (⟨K, N, f, zs⟩, ⟨K', N', f', zs'⟩))) ∧ Below w.heap.size w w')
    (K N : Int) (f : Nat) {ad : Option Addr} {n : Nat} (cap : Nat) (K' N' : Int) (f' : Nat) {ad' : Option Addr} {n' : Nat} (cap' : Nat) {zs zs' : List Int} {w : World} (r : Reads w ad n zs) (r' : Reads w ad' n' zs') (hf : f < 18446744073709551616) (hf' : f' < 18446744073709551616) (hm : n ≤ maxLen) (hm' : n' ≤ maxLen) :
    Calls Try.prog 3 #[.agg #[.int .i64 K, .int .i64 N, .float .f64 f, .slice ad n cap, .int .i64 K', .int .i64 N', .float .f64 f', .slice ad' n' cap']] w fun e w' => e = .returned (.bool true) ∧ Below w.heap.size w w' := by
  unfold maxLen at hm hm'
  have hst := fun w a m => run_store Try.prog w a (.float .f64 f) m rfl
  have hst2 := fun w a m => run_store Try.prog w a (.float .f64 f') m rfl
  have hB := Below.alloc1 w (.cells #[.int .i64 K, .int .i64 N, .float .f64 f, .slice ad n cap, .int .i64 K', .int .i64 N', .float .f64 f', .slice ad' n' cap'] 27)
  have HB := hid hB
  have HA := hid (BoxS.row (heap_alloc_new w (.cells #[.int .i64 K, .int .i64 N, .float .f64 f, .slice ad n cap, .int .i64 K', .int .i64 N', .float .f64 f', .slice ad' n' cap'] 27)))
  have R1 := hid (r.below hB (Nat.le_refl _))
  have R2 := hid (r'.below hB (Nat.le_refl _))
  have BD := hid (And.intro r.bd r'.bd)
  clear hB r r'
  go_enter Try.func3, Try.ntmps3
  have y0_0 := HA.out.c0
  have y0_1 := HA.out.c1
  have y0_2 := HA.out.c2
  have y0_3 := HA.out.c3
  have y0_4 := HA.out.c4
  have y0_5 := HA.out.c5
  have y0_6 := HA.out.c6
  have y0_7 := HA.out.c7
  go_wp2_with fail
  clear y0_0 y0_1 y0_2 y0_3 y0_4 y0_5 y0_6 y0_7
  generalize w.alloc (.cells #[.int .i64 K, .int .i64 N, .float .f64 f, .slice ad n cap, .int .i64 K', .int .i64 N', .float .f64 f', .slice ad' n' cap'] 27) = W0 at *
  refine (szSpan K N f ad n cap K' N' f' ad' n' cap' 1048576 (by omega) (by omega) (by omega) (by omega) _).mono ?_
  rintro e w1 ⟨rfl, b⟩
  replace HA := hid (HA.out.below b (Nat.le_refl _))
  replace R1 := hid (R1.out.below b (Nat.le_refl _))
  replace R2 := hid (R2.out.below b (Nat.le_refl _))
  replace HB := hid (HB.out.trans (b.mono HB.out.size))
  clear b
  by_cases hbig : (1048576 : Int) < ((n + n' : Nat) : Int)
  · rw [show lft13 1048576 (n + n') = -1 by unfold lft13; rw [if_pos hbig]]
    go_wp2_with fail
    go_ret
    exact ⟨rfl, HB.out⟩
  obtain ⟨LF, hLF⟩ : ∃ LF : Int, (1048576 : Int) - ((n + n' : Nat) : Int) = LF := ⟨_, rfl⟩
  rw [show lft13 1048576 (n + n') = LF by unfold lft13; rw [if_neg hbig, hLF]]
  have hq0 : ¬ LF < 0 := by omega
  have hn : n ≤ 1048576 := by omega
  have hn' : n' ≤ 1048576 := by omega
  clear hbig hLF hm hm'
  have y0_0 := HA.out.c0
  have y0_1 := HA.out.c1
  have y0_2 := HA.out.c2
  have y0_3 := HA.out.c3
  have y0_4 := HA.out.c4
  have y0_5 := HA.out.c5
  have y0_6 := HA.out.c6
  have y0_7 := HA.out.c7
  go_wp2_with fail
  clear y0_0 y0_1 y0_2 y0_3 y0_4 y0_5 y0_6 y0_7
  clear hq0
  refine (toSpan K N f cap K' N' f' cap' R1.out R2.out (by omega) (by omega)).mono ?_
  rintro e w2 ⟨p1, p2, md, rfl, o1, o2, -, -, -, b⟩
  replace HA := hid (HA.out.below b (Nat.le_refl _))
  replace R1 := hid (R1.out.below b (Nat.le_refl _))
  replace R2 := hid (R2.out.below b (Nat.le_refl _))
  replace HB := hid (HB.out.trans (b.mono HB.out.size))
  clear b
  have P1 := hid (own_reads13 o1 BD.out.1)
  have P2 := hid (own_reads13 o2 BD.out.2)
  clear o1 o2 md
  go_wp2_with fail
  refine (spec_SpanOk_n K N f n K' N' f' n' P1.out P2.out hf hf' (by omega) (by omega)).mono ?_
  rintro e w3 ⟨rfl, b⟩
  replace HA := hid (HA.out.below b (Nat.le_refl _))
  replace R1 := hid (R1.out.below b (Nat.le_refl _))
  replace R2 := hid (R2.out.below b (Nat.le_refl _))
  replace P1 := hid (P1.out.below b (Nat.le_refl _))
  replace P2 := hid (P2.out.below b (Nat.le_refl _))
  replace HB := hid (HB.out.trans (b.mono HB.out.size))
  clear b
  clear P1 P2
  obtain ⟨S, hS⟩ : ∃ S, spB (⟨K, N, f, zs⟩, ⟨K', N', f', zs'⟩) = S := ⟨_, rfl⟩
  rw [hS]
  have HS := hid hS
  have q2 : (S != S) = false := by simp
  clear hS
  have y0_0 := HA.out.c0
  have y0_1 := HA.out.c1
  have y0_2 := HA.out.c2
  have y0_3 := HA.out.c3
  have y0_4 := HA.out.c4
  have y0_5 := HA.out.c5
  have y0_6 := HA.out.c6
  have y0_7 := HA.out.c7
  go_wp2_with fail
  clear y0_0 y0_1 y0_2 y0_3 y0_4 y0_5 y0_6 y0_7
  refine (toSpan K N f cap K' N' f' cap' R1.out R2.out (by omega) (by omega)).mono ?_
  rintro e w4 ⟨x1, x2, md, rfl, o1, o2, -, -, -, b⟩
  replace HA := hid (HA.out.below b (Nat.le_refl _))
  replace R1 := hid (R1.out.below b (Nat.le_refl _))
  replace R2 := hid (R2.out.below b (Nat.le_refl _))
  replace HB := hid (HB.out.trans (b.mono HB.out.size))
  clear b
  have X1 := hid (own_reads13 o1 BD.out.1)
  have X2 := hid (own_reads13 o2 BD.out.2)
  clear o1 o2 md
  have BX := hid (BoxS.row (heap_alloc_new w4 (.cells #[.int .i64 K, .int .i64 N, .float .f64 f, .slice (some ⟨x1, 0, none⟩) n n, .int .i64 K', .int .i64 N', .float .f64 f', .slice (some ⟨x2, 0, none⟩) n' n'] 32)))
  have b := Below.alloc1 w4 (.cells #[.int .i64 K, .int .i64 N, .float .f64 f, .slice (some ⟨x1, 0, none⟩) n n, .int .i64 K', .int .i64 N', .float .f64 f', .slice (some ⟨x2, 0, none⟩) n' n'] 32)
  replace HA := hid (HA.out.below b (Nat.le_refl _))
  replace R1 := hid (R1.out.below b (Nat.le_refl _))
  replace R2 := hid (R2.out.below b (Nat.le_refl _))
  replace X1 := hid (X1.out.below b (Nat.le_refl _))
  replace X2 := hid (X2.out.below b (Nat.le_refl _))
  replace HB := hid (HB.out.trans (b.mono HB.out.size))
  clear b
  have y0_0 := BX.out.c0
  have y0_1 := BX.out.c1
  have y0_2 := BX.out.c2
  have y0_3 := BX.out.c3
  have y0_4 := BX.out.c4
  have y0_5 := BX.out.c5
  have y0_6 := BX.out.c6
  have y0_7 := BX.out.c7
  go_wp2_with fail
  clear y0_0 y0_1 y0_2 y0_3 y0_4 y0_5 y0_6 y0_7
  generalize w4.alloc (.cells #[.int .i64 K, .int .i64 N, .float .f64 f, .slice (some ⟨x1, 0, none⟩) n n, .int .i64 K', .int .i64 N', .float .f64 f', .slice (some ⟨x2, 0, none⟩) n' n'] 32) = W1 at *
  obtain ⟨gx, hgx⟩ : ∃ gx, w4.heap.size = gx := ⟨_, rfl⟩
  rw [hgx] at BX
  try simp only [hgx]
  clear hgx
  refine (hI K N f n K' N' f' n' X1.out X2.out hf hf' (by omega) (by omega)).mono ?_
  rintro e w5 ⟨rfl, b⟩
  replace HA := hid (HA.out.below b (Nat.le_refl _))
  replace R1 := hid (R1.out.below b (Nat.le_refl _))
  replace R2 := hid (R2.out.below b (Nat.le_refl _))
  replace X1 := hid (X1.out.below b (Nat.le_refl _))
  replace X2 := hid (X2.out.below b (Nat.le_refl _))
  replace BX := hid (BX.out.below b (Nat.le_refl _))
  replace HB := hid (HB.out.trans (b.mono HB.out.size))
  clear b
  rw [HS.out]
  go_wp2_with fail
  obtain ⟨ga, hga⟩ : ∃ ga, w.heap.size = ga := ⟨_, rfl⟩
  clear hga ga
  replace HA := hid (HA.out.below ((Still.drew w5).below w5.heap.size) (Nat.le_refl _))
  replace R1 := hid (R1.out.below ((Still.drew w5).below w5.heap.size) (Nat.le_refl _))
  replace R2 := hid (R2.out.below ((Still.drew w5).below w5.heap.size) (Nat.le_refl _))
  replace X1 := hid (X1.out.below ((Still.drew w5).below w5.heap.size) (Nat.le_refl _))
  replace X2 := hid (X2.out.below ((Still.drew w5).below w5.heap.size) (Nat.le_refl _))
  replace BX := hid (BX.out.below ((Still.drew w5).below w5.heap.size) (Nat.le_refl _))
  replace HB := hid (HB.out.trans (((Still.drew w5).below _).mono HB.out.size))
  refine region_K 99 (fun W => BoxS W w.heap.size K N f (.slice ad n cap) K' N' f' (.slice ad' n' cap') ∧ BoxS W gx K N f (.slice (some ⟨x1, 0, none⟩) n n) K' N' f' (.slice (some ⟨x2, 0, none⟩) n' n')) (by kernel_rfl) ?_ (fun hHeld => ?_)
  · exact ⟨HA.out, BX.out⟩
  generalize w5.drew = v1 at *
  refine anyK_take2 (i := 0) (v := ?v1) rfl (by kernel_rfl) (by kernel_rfl) (by kernel_rfl) (by rfl) (fun _ _ _ h => h) (by rfl) hHeld ?hy1 (some 22) (by rfl) ?rest1
  case hy1 => (intro W hSw; obtain ⟨⟨r0, r1, r2, r3, r4, r5, r6, r7⟩, ⟨s0, s1, s2, s3, s4, s5, s6, s7⟩⟩ := hSw; go_simp; (try with_reducible rfl))
  try simp only [Act.put]
  try simp only [List.setIfInBounds_toArray]
  try simp only [List.set_cons_succ, List.set_cons_zero]
  refine anyK_take2 (i := 1) (v := ?v2) rfl (by kernel_rfl) (by kernel_rfl) (by kernel_rfl) (by rfl) (fun _ _ _ h => h) (by rfl) hHeld ?hy2 (some 23) (by rfl) ?rest2
  case hy2 => (intro W hSw; obtain ⟨⟨r0, r1, r2, r3, r4, r5, r6, r7⟩, ⟨s0, s1, s2, s3, s4, s5, s6, s7⟩⟩ := hSw; go_simp; (try with_reducible rfl))
  try simp only [Act.put]
  try simp only [List.setIfInBounds_toArray]
  try simp only [List.set_cons_succ, List.set_cons_zero]
  refine anyK_step (i := 2) (by kernel_rfl) rfl (fun KP hK => ?_)
  go_simp
  refine (toSpan K N f cap K' N' f' cap' R1.out R2.out (by omega) (by omega)).mono ?_
  rintro e w6 ⟨y1, y2, md, rfl, o1, o2, -, -, -, b⟩
  replace HA := hid (HA.out.below b (Nat.le_refl _))
  replace R1 := hid (R1.out.below b (Nat.le_refl _))
  replace R2 := hid (R2.out.below b (Nat.le_refl _))
  replace X1 := hid (X1.out.below b (Nat.le_refl _))
  replace X2 := hid (X2.out.below b (Nat.le_refl _))
  replace BX := hid (BX.out.below b (Nat.le_refl _))
  replace HB := hid (HB.out.trans (b.mono HB.out.size))
  clear b
  have Y1 := hid (own_reads13 o1 BD.out.1)
  have Y2 := hid (own_reads13 o2 BD.out.2)
  clear o1 o2 md
  go_wp2_with fail
  refine hK.out _ _ ?_ (fun hH2 => ?_)
  · exact ⟨HA.out, BX.out⟩
  clear hK KP hHeld
  have hHeld := hH2
  clear hH2
  try simp only [Act.put]
  try simp only [List.setIfInBounds_toArray]
  try simp only [List.set_cons_succ, List.set_cons_zero]
  refine anyK_step (i := 3) (by kernel_rfl) rfl (fun KP hK => ?_)
  go_simp
  refine (eqSpan K N f f n n K' N' f' f' n' n' hf hf hf' hf' (Same.refl _) (Same.refl _) X1.out Y1.out X2.out Y2.out (by omega) (by omega)).mono ?_
  rintro e w7 ⟨rfl, b⟩
  replace HA := hid (HA.out.below b (Nat.le_refl _))
  replace R1 := hid (R1.out.below b (Nat.le_refl _))
  replace R2 := hid (R2.out.below b (Nat.le_refl _))
  replace X1 := hid (X1.out.below b (Nat.le_refl _))
  replace X2 := hid (X2.out.below b (Nat.le_refl _))
  replace BX := hid (BX.out.below b (Nat.le_refl _))
  replace Y1 := hid (Y1.out.below b (Nat.le_refl _))
  replace Y2 := hid (Y2.out.below b (Nat.le_refl _))
  replace HB := hid (HB.out.trans (b.mono HB.out.size))
  clear b
  clear Y1 Y2
  go_wp2_with fail
  refine hK.out _ _ ?_ (fun hH2 => ?_)
  · exact ⟨HA.out, BX.out⟩
  clear hK KP hHeld
  have hHeld := hH2
  clear hH2
  try simp only [Act.put]
  try simp only [List.setIfInBounds_toArray]
  try simp only [List.set_cons_succ, List.set_cons_zero]
  refine anyK_step (i := 4) (by kernel_rfl) rfl (fun KP hK => ?_)
  go_simp
  refine hK.out _ _ ?_ (fun hH2 => ?_)
  · exact ⟨HA.out, BX.out⟩
  clear hK KP hHeld
  have hHeld := hH2
  clear hH2
  try simp only [Act.put]
  try simp only [List.setIfInBounds_toArray]
  try simp only [List.set_cons_succ, List.set_cons_zero]
  refine anyK_done (by kernel_rfl) ?_ _
  clear hHeld
  go_wp2_with fail
  go_ret
  exact ⟨rfl, HB.out⟩
end Go.Proofs.Ytnhlfkffllbpiaa
