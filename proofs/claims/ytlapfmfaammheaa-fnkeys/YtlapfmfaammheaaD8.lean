/- The contract of the draw of two items. For codes of at most 2^21 bytes. -/
import Derived.Test.YtlapfmfaammheaaD7
namespace Go.Proofs.Ytlapfmfaammheaa
open Go.RowKit
set_option maxRecDepth 100000

set_option maxHeartbeats 25600000 in
theorem drawCmp {w : World} {ad : Option Addr} {n : Nat} (cap : Nat) {zs : List Int} (h : Reads w ad n zs) (hn : n ≤ 2097152) :
    Calls Try.prog 9 #[.slice ad n cap] w fun e w' => AnsC w e w' := by
  have hst0 := fun w a m => run_store Try.prog w a (.float .f64 0) m rfl
  have BB := hid (two w (.cells #[.int .i64 0, .int .i64 0, .float .f64 0, .slice none 0 0] 26) (.cells #[.int .i64 0, .int .i64 0, .float .f64 0, .slice none 0 0] 26))
  have RR := hid (two_rows w (.cells #[.int .i64 0, .int .i64 0, .float .f64 0, .slice none 0 0] 26) (.cells #[.int .i64 0, .int .i64 0, .float .f64 0, .slice none 0 0] 26))
  have H0 := hid (h.below BB.out (Nat.le_refl _))
  clear h
  go_enter Try.func9, Try.ntmps9
  go_wp2_with fail
  generalize (w.alloc (.cells #[.int .i64 0, .int .i64 0, .float .f64 0, .slice none 0 0] 26)).alloc (.cells #[.int .i64 0, .int .i64 0, .float .f64 0, .slice none 0 0] 26) = U0 at *
  refine (l1New cap H0.out hn).mono ?_
  rintro e w1 ⟨g, rfl, hg, c, b⟩
  have s0 := RR.out.2.2
  have g2 : w.heap.size + 2 ≤ g := by omega
  have R2 := hid ((b.block w.heap.size (by omega)).trans RR.out.1)
  have R3 := hid ((b.block (w.heap.size + 1) (by omega)).trans RR.out.2.1)
  replace BB := hid (BB.out.trans (b.mono (by omega)))
  have S0 := hid (show w.heap.size + 2 ≤ w1.heap.size by have := b.size; omega)
  have CU := hid c
  clear c b hg s0 H0 RR
  go_wp2_with fail
  refine (l3any CU.out hn).mono ?_
  rintro e w2 ⟨K1, N1, f1, v, D1, rfl, o, bd1, ld1, hN1, hf1, c, gg⟩
  obtain ⟨a1, c1, rfl⟩ := own_form2 o
  have hst1 := fun w a m => run_store Try.prog w a (.float .f64 f1) m rfl
  have s0 := S0.out
  have zz := gg.size
  have B1 := hid bd1
  have O5 := hid ((owns_base (base' := w.heap.size) o (by omega)).alloc (.cells #[.int .i64 K1, .int .i64 N1, .float .f64 f1, .slice a1 D1.length c1] 26))
  have g5 : g < w2.heap.size := c.lt
  replace R2 := hid ((heap_alloc_old w2 (.cells #[.int .i64 K1, .int .i64 N1, .float .f64 f1, .slice a1 D1.length c1] 26) (show w.heap.size < w2.heap.size by omega)).trans ((gg.block w.heap.size (blk R2.out) (by simp; omega)).trans R2.out))
  replace R3 := hid ((heap_alloc_old w2 (.cells #[.int .i64 K1, .int .i64 N1, .float .f64 f1, .slice a1 D1.length c1] 26) (show w.heap.size + 1 < w2.heap.size by omega)).trans ((gg.block (w.heap.size + 1) (blk R3.out) (by simp; omega)).trans R3.out))
  replace BB := hid ((BB.out.grown gg BB.out.size (fun k hk => by cases hk; omega)).alloc (by omega) (.cells #[.int .i64 K1, .int .i64 N1, .float .f64 f1, .slice a1 D1.length c1] 26))
  have P5 := hid (heap_alloc_new w2 (.cells #[.int .i64 K1, .int .i64 N1, .float .f64 f1, .slice a1 D1.length c1] 26))
  replace CU := hid (c.alloc (.cells #[.int .i64 K1, .int .i64 N1, .float .f64 f1, .slice a1 D1.length c1] 26))
  have S5 := hid (alloc_size w2 (.cells #[.int .i64 K1, .int .i64 N1, .float .f64 f1, .slice a1 D1.length c1] 26))
  clear c gg o bd1 s0 zz S0
  go_wp2_with fail
  generalize w2.alloc (.cells #[.int .i64 K1, .int .i64 N1, .float .f64 f1, .slice a1 D1.length c1] 26) = U2 at *
  generalize w2.heap.size = p5 at *
  refine (l3any CU.out hn).mono ?_
  rintro e w3 ⟨K2, N2, f2, v, D2, rfl, o, bd2, ld2, hN2, hf2, c, gg⟩
  obtain ⟨a2, c2, rfl⟩ := own_form2 o
  have hst2 := fun w a m => run_store Try.prog w a (.float .f64 f2) m rfl
  have s5 := S5.out
  have zz := gg.size
  have B2 := hid bd2
  have O6 := hid ((owns_base (base' := w.heap.size) o (by omega)).alloc (.cells #[.int .i64 K2, .int .i64 N2, .float .f64 f2, .slice a2 D2.length c2] 26))
  have h56 : p5 < w3.heap.size := by omega
  have g6 : g < w3.heap.size := by omega
  replace R2 := hid ((heap_alloc_old w3 (.cells #[.int .i64 K2, .int .i64 N2, .float .f64 f2, .slice a2 D2.length c2] 26) (show w.heap.size < w3.heap.size by omega)).trans ((gg.block w.heap.size (blk R2.out) (by simp; omega)).trans R2.out))
  replace R3 := hid ((heap_alloc_old w3 (.cells #[.int .i64 K2, .int .i64 N2, .float .f64 f2, .slice a2 D2.length c2] 26) (show w.heap.size + 1 < w3.heap.size by omega)).trans ((gg.block (w.heap.size + 1) (blk R3.out) (by simp; omega)).trans R3.out))
  replace P5 := hid ((heap_alloc_old w3 (.cells #[.int .i64 K2, .int .i64 N2, .float .f64 f2, .slice a2 D2.length c2] 26) h56).trans (tup_cur P5.out g5 gg))
  replace O5 := hid ((own_cur O5.out CU.out gg).alloc (.cells #[.int .i64 K2, .int .i64 N2, .float .f64 f2, .slice a2 D2.length c2] 26))
  replace BB := hid ((BB.out.grown gg BB.out.size (fun k hk => by cases hk; omega)).alloc (by omega) (.cells #[.int .i64 K2, .int .i64 N2, .float .f64 f2, .slice a2 D2.length c2] 26))
  have P6 := hid (heap_alloc_new w3 (.cells #[.int .i64 K2, .int .i64 N2, .float .f64 f2, .slice a2 D2.length c2] 26))
  replace CU := hid (c.alloc (.cells #[.int .i64 K2, .int .i64 N2, .float .f64 f2, .slice a2 D2.length c2] 26))
  clear c gg o bd2 s5 zz S5
  go_wp2_with fail
  generalize w3.alloc (.cells #[.int .i64 K2, .int .i64 N2, .float .f64 f2, .slice a2 D2.length c2] 26) = U3 at *
  generalize w3.heap.size = p6 at *
  refine (l1Below CU.out hn 4 (by omega) (by omega)).mono ?_
  rintro e w4 ⟨x, rfl, x0, x4, c, gg⟩
  replace R2 := hid ((gg.block w.heap.size (blk R2.out) (by simp; omega)).trans R2.out)
  replace R3 := hid ((gg.block (w.heap.size + 1) (blk R3.out) (by simp; omega)).trans R3.out)
  replace P5 := hid (tup_cur P5.out g5 gg)
  replace O5 := hid (own_cur O5.out CU.out gg)
  replace P6 := hid (tup_cur P6.out g6 gg)
  replace O6 := hid (own_cur O6.out CU.out gg)
  replace BB := hid (BB.out.grown gg BB.out.size (fun k hk => by cases hk; omega))
  replace CU := hid c
  clear c gg
  have hx : x = 0 ∨ x = 1 ∨ x = 2 ∨ x = 3 := by omega
  rcases hx with rfl | rfl | rfl | rfl
  · obtain ⟨k0, k1, k2, k3⟩ := row_cells P5.out
    obtain ⟨_, _, e5, r5, _⟩ := Reads.own O5.out B1.out
    obtain ⟨rfl, _, rfl⟩ := Value.slice.inj e5
    have RD := hid r5
    have NL := hid (own_nil O5.out)
    clear e5 r5
    go_wp2_with fail
    clear k0 k1 k2 k3
    refine (spec_l3copy K1 N1 f1 c1 NL.out RD.out (by omega)).mono ?_
    rintro e w5 ⟨v, rfl, o, b⟩
    obtain ⟨a3, c3, rfl⟩ := own_form2 o
    have AP : Hid (Apart (.slice a1 D1.length c1) (.slice a3 D1.length c3)) := hid (by
      rcases hx : (Value.slice a1 D1.length c1).ownBlock with _ | k
      · exact .inl hx
      · refine .inr fun e => ?_
        have l1 := (O5.out.lt k hx).2
        have l2 := (o.lt k (by rw [← e]; exact hx)).1
        omega)
    have szB := BB.out.size
    replace R2 := hid ((b.block w.heap.size (blk R2.out)).trans R2.out)
    replace R3 := hid ((b.block (w.heap.size + 1) (blk R3.out)).trans R3.out)
    replace P5 := hid ((b.block p5 (blk P5.out)).trans P5.out)
    replace P6 := hid ((b.block p6 (blk P6.out)).trans P6.out)
    replace O5 := hid (owns_below b (Nat.le_refl _) O5.out)
    replace O6 := hid (owns_below b (Nat.le_refl _) O6.out)
    replace CU := hid (CU.out.below b (Nat.le_refl _))
    replace BB := hid (BB.out.trans (b.mono BB.out.size))
    have O7 := hid (owns_base (base' := w.heap.size) o szB)
    clear b o RD NL O6 szB
    have TQ := P6
    replace R2 := hid ((setRow_other w5 p6 w.heap.size #[.int .i64 K1, .int .i64 N1, .float .f64 f1, .slice a3 D1.length c3] (by omega)).trans R2.out)
    replace R3 := hid ((setRow_other w5 p6 (w.heap.size + 1) #[.int .i64 K1, .int .i64 N1, .float .f64 f1, .slice a3 D1.length c3] (by omega)).trans R3.out)
    replace P5 := hid ((setRow_other w5 p6 p5 #[.int .i64 K1, .int .i64 N1, .float .f64 f1, .slice a3 D1.length c3] (by omega)).trans P5.out)
    replace O5 := hid (own_rowed O5.out TQ.out (by decide) #[.int .i64 K1, .int .i64 N1, .float .f64 f1, .slice a3 D1.length c3])
    replace O7 := hid (own_rowed O7.out TQ.out (by decide) #[.int .i64 K1, .int .i64 N1, .float .f64 f1, .slice a3 D1.length c3])
    replace P6 := hid (setRow_heap w5 p6 _ #[.int .i64 K1, .int .i64 N1, .float .f64 f1, .slice a3 D1.length c3] _ _ TQ.out)
    replace CU := hid (CU.out.rowed g6 #[.int .i64 K1, .int .i64 N1, .float .f64 f1, .slice a3 D1.length c3])
    replace BB := hid (below_setRow BB.out (show w.heap.size ≤ p6 by omega) #[.int .i64 K1, .int .i64 N1, .float .f64 f1, .slice a3 D1.length c3])
    go_wp2_with (first
      | (refine wpList_store_row rfl 26 (.tmp 6) (.tmp 18) rfl p6 #[.int .i64 K1, .int .i64 N1, .float .f64 f1, .slice a3 D1.length c3] rfl rfl 26 _ TQ.out ?s1u5 ?s2u5 ?s3u5 ?_))
    case s1u5 => exact size_it6
    case s2u5 => rfl
    case s3u5 => simp [Value.oneCell']
    generalize w5.setRow p6 #[.int .i64 K1, .int .i64 N1, .float .f64 f1, .slice a3 D1.length c3] = u5 at *
    clear TQ
    have O6 := O7
    clear O7
    have dd := (Still.drew u5).below u5.heap.size
    replace R2 := hid ((dd.block w.heap.size (blk R2.out)).trans R2.out)
    replace R3 := hid ((dd.block (w.heap.size + 1) (blk R3.out)).trans R3.out)
    replace P5 := hid ((dd.block p5 (blk P5.out)).trans P5.out)
    replace P6 := hid ((dd.block p6 (blk P6.out)).trans P6.out)
    replace O5 := hid (owns_below dd (Nat.le_refl _) O5.out)
    replace O6 := hid (owns_below dd (Nat.le_refl _) O6.out)
    replace BB := hid (BB.out.trans (dd.mono BB.out.size))
    clear dd
    refine region_K 99 (fun W => W.cell? ⟨p5, 0, none⟩ = some (.int .i64 K1) ∧ W.cell? ⟨p5, 1, none⟩ = some (.int .i64 N1) ∧ W.cell? ⟨p5, 2, none⟩ = some (.float .f64 f1) ∧ W.cell? ⟨p5, 3, none⟩ = some (.slice a1 D1.length c1) ∧ W.cell? ⟨p6, 0, none⟩ = some (.int .i64 K1) ∧ W.cell? ⟨p6, 1, none⟩ = some (.int .i64 N1) ∧ W.cell? ⟨p6, 2, none⟩ = some (.float .f64 f1) ∧ W.cell? ⟨p6, 3, none⟩ = some (.slice a3 D1.length c3)) (by kernel_rfl) ?_ (fun hHeld => ?_)
    · exact (by have k5 := row_cells P5.out; have k6 := row_cells P6.out; exact ⟨k5.1, k5.2.1, k5.2.2.1, k5.2.2.2, k6.1, k6.2.1, k6.2.2.1, k6.2.2.2⟩)
    generalize u5.drew = v0 at *
    refine anyK_take2 (i := 0) (v := ?v1) rfl (by kernel_rfl) (by kernel_rfl) (by kernel_rfl) (by rfl) (fun _ _ _ h => h) (by rfl) hHeld ?hy1 (some 35) (by rfl) ?rest1
    case hy1 => (intro W hSw; obtain ⟨x0, x1, x2, x3, y0, y1, y2, y3⟩ := hSw; go_simp; (try with_reducible rfl))
    try simp only [Act.put]
    try simp only [List.setIfInBounds_toArray]
    try simp only [List.set_cons_succ, List.set_cons_zero]
    refine anyK_take2 (i := 1) (v := ?v2) rfl (by kernel_rfl) (by kernel_rfl) (by kernel_rfl) (by rfl) (fun _ _ _ h => h) (by rfl) hHeld ?hy2 (some 36) (by rfl) ?rest2
    case hy2 => (intro W hSw; obtain ⟨x0, x1, x2, x3, y0, y1, y2, y3⟩ := hSw; go_simp; (try with_reducible rfl))
    try simp only [Act.put]
    try simp only [List.setIfInBounds_toArray]
    try simp only [List.set_cons_succ, List.set_cons_zero]
    refine anyK_step (i := 2) (by kernel_rfl) rfl (fun KP hK => ?_)
    rw [if_pos (by rfl)]
    refine wp_store_row 26 (.tmp 2) (.tmp 35) rfl w.heap.size #[.int .i64 K1, .int .i64 N1, .float .f64 f1, .slice a1 D1.length c1] rfl rfl 26 _ R2.out size_it6 rfl (by simp [Value.oneCell']) ?_
    have q5 := (setRow_other v0 w.heap.size p5 #[.int .i64 K1, .int .i64 N1, .float .f64 f1, .slice a1 D1.length c1] (by omega)).trans P5.out
    have q6 := (setRow_other v0 w.heap.size p6 #[.int .i64 K1, .int .i64 N1, .float .f64 f1, .slice a1 D1.length c1] (by omega)).trans P6.out
    have q3 := (setRow_other v0 w.heap.size (w.heap.size + 1) #[.int .i64 K1, .int .i64 N1, .float .f64 f1, .slice a1 D1.length c1] (by omega)).trans R3.out
    have q2 := setRow_heap v0 w.heap.size _ #[.int .i64 K1, .int .i64 N1, .float .f64 f1, .slice a1 D1.length c1] _ _ R2.out
    have o5 := own_rowed O5.out R2.out (by decide) #[.int .i64 K1, .int .i64 N1, .float .f64 f1, .slice a1 D1.length c1]
    have o6 := own_rowed O6.out R2.out (by decide) #[.int .i64 K1, .int .i64 N1, .float .f64 f1, .slice a1 D1.length c1]
    have bb := below_setRow BB.out (Nat.le_refl w.heap.size) #[.int .i64 K1, .int .i64 N1, .float .f64 f1, .slice a1 D1.length c1]
    refine hK.out _ _ ?_ (fun hH2 => ?_)
    · exact (by have k5 := row_cells q5; have k6 := row_cells q6; exact ⟨k5.1, k5.2.1, k5.2.2.1, k5.2.2.2, k6.1, k6.2.1, k6.2.2.1, k6.2.2.2⟩)
    clear hK KP hHeld
    have hHeld := hH2
    clear hH2
    try simp only [Act.put]
    try simp only [List.setIfInBounds_toArray]
    try simp only [List.set_cons_succ, List.set_cons_zero]
    refine anyK_step (i := 3) (by kernel_rfl) rfl (fun KP hK => ?_)
    rw [if_pos (by rfl)]
    refine wp_store_row 26 (.tmp 3) (.tmp 36) rfl (w.heap.size + 1) #[.int .i64 K1, .int .i64 N1, .float .f64 f1, .slice a3 D1.length c3] rfl rfl 26 _ q3 size_it6 rfl (by simp [Value.oneCell']) ?_
    have t5 := (setRow_other _ (w.heap.size + 1) p5 #[.int .i64 K1, .int .i64 N1, .float .f64 f1, .slice a3 D1.length c3] (by omega)).trans q5
    have t6 := (setRow_other _ (w.heap.size + 1) p6 #[.int .i64 K1, .int .i64 N1, .float .f64 f1, .slice a3 D1.length c3] (by omega)).trans q6
    have t2 := (setRow_other _ (w.heap.size + 1) w.heap.size #[.int .i64 K1, .int .i64 N1, .float .f64 f1, .slice a3 D1.length c3] (by omega)).trans q2
    have t3 := setRow_heap _ (w.heap.size + 1) _ #[.int .i64 K1, .int .i64 N1, .float .f64 f1, .slice a3 D1.length c3] _ _ q3
    refine hK.out _ _ ?_ (fun hH2 => ?_)
    · exact (by have k5 := row_cells t5; have k6 := row_cells t6; exact ⟨k5.1, k5.2.1, k5.2.2.1, k5.2.2.2, k6.1, k6.2.1, k6.2.2.1, k6.2.2.2⟩)
    clear hK KP hHeld
    have hHeld := hH2
    clear hH2
    try simp only [Act.put]
    try simp only [List.setIfInBounds_toArray]
    try simp only [List.set_cons_succ, List.set_cons_zero]
    refine anyK_done (by kernel_rfl) ?_ _
    clear hHeld
    have T2 := hid t2
    have T3 := hid t3
    have F5 := hid (own_rowed o5 q3 (by decide) #[.int .i64 K1, .int .i64 N1, .float .f64 f1, .slice a3 D1.length c3])
    have F6 := hid (own_rowed o6 q3 (by decide) #[.int .i64 K1, .int .i64 N1, .float .f64 f1, .slice a3 D1.length c3])
    have FB := hid (below_setRow bb (show w.heap.size ≤ w.heap.size + 1 by omega) #[.int .i64 K1, .int .i64 N1, .float .f64 f1, .slice a3 D1.length c3])
    clear q5 q6 q3 q2 o5 o6 bb t5 t6 t2 t3
    go_wp2_with fail
    exact bodyPost_ret (results_cell2 Try.results9 _ _ w.heap.size (w.heap.size + 1) 26 _ _ (0, 0) _ rfl rfl T2.out T3.out Try.underlying26 rfl size_it6 size_it6) rfl ⟨_, _, _, _, _, _, _, _, _, _, _, _, _, _, rfl, own_ia' F5.out B1.out (by omega) hN1 hf1, own_ia' F6.out B1.out (by omega) hN1 hf1, FB.out⟩
  · obtain ⟨k0, k1, k2, k3⟩ := row_cells P5.out
    obtain ⟨_, _, e5, r5, _⟩ := Reads.own O5.out B1.out
    obtain ⟨rfl, _, rfl⟩ := Value.slice.inj e5
    have RD := hid r5
    have NL := hid (own_nil O5.out)
    clear e5 r5
    go_wp2_with fail
    clear k0 k1 k2 k3
    refine (spec_l3copy K1 N1 f1 c1 NL.out RD.out (by omega)).mono ?_
    rintro e w5 ⟨v, rfl, o, b⟩
    obtain ⟨a3, c3, rfl⟩ := own_form2 o
    have AP : Hid (Apart (.slice a1 D1.length c1) (.slice a3 D1.length c3)) := hid (by
      rcases hx : (Value.slice a1 D1.length c1).ownBlock with _ | k
      · exact .inl hx
      · refine .inr fun e => ?_
        have l1 := (O5.out.lt k hx).2
        have l2 := (o.lt k (by rw [← e]; exact hx)).1
        omega)
    have szB := BB.out.size
    replace R2 := hid ((b.block w.heap.size (blk R2.out)).trans R2.out)
    replace R3 := hid ((b.block (w.heap.size + 1) (blk R3.out)).trans R3.out)
    replace P5 := hid ((b.block p5 (blk P5.out)).trans P5.out)
    replace P6 := hid ((b.block p6 (blk P6.out)).trans P6.out)
    replace O5 := hid (owns_below b (Nat.le_refl _) O5.out)
    replace O6 := hid (owns_below b (Nat.le_refl _) O6.out)
    replace CU := hid (CU.out.below b (Nat.le_refl _))
    replace BB := hid (BB.out.trans (b.mono BB.out.size))
    have O7 := hid (owns_base (base' := w.heap.size) o szB)
    clear b o RD NL O6 szB
    have TQ := P6
    replace R2 := hid ((setRow_other w5 p6 w.heap.size #[.int .i64 K1, .int .i64 N1, .float .f64 f1, .slice a3 D1.length c3] (by omega)).trans R2.out)
    replace R3 := hid ((setRow_other w5 p6 (w.heap.size + 1) #[.int .i64 K1, .int .i64 N1, .float .f64 f1, .slice a3 D1.length c3] (by omega)).trans R3.out)
    replace P5 := hid ((setRow_other w5 p6 p5 #[.int .i64 K1, .int .i64 N1, .float .f64 f1, .slice a3 D1.length c3] (by omega)).trans P5.out)
    replace O5 := hid (own_rowed O5.out TQ.out (by decide) #[.int .i64 K1, .int .i64 N1, .float .f64 f1, .slice a3 D1.length c3])
    replace O7 := hid (own_rowed O7.out TQ.out (by decide) #[.int .i64 K1, .int .i64 N1, .float .f64 f1, .slice a3 D1.length c3])
    replace P6 := hid (setRow_heap w5 p6 _ #[.int .i64 K1, .int .i64 N1, .float .f64 f1, .slice a3 D1.length c3] _ _ TQ.out)
    replace CU := hid (CU.out.rowed g6 #[.int .i64 K1, .int .i64 N1, .float .f64 f1, .slice a3 D1.length c3])
    replace BB := hid (below_setRow BB.out (show w.heap.size ≤ p6 by omega) #[.int .i64 K1, .int .i64 N1, .float .f64 f1, .slice a3 D1.length c3])
    go_wp2_with (first
      | (refine wpList_store_row rfl 26 (.tmp 6) (.tmp 22) rfl p6 #[.int .i64 K1, .int .i64 N1, .float .f64 f1, .slice a3 D1.length c3] rfl rfl 26 _ TQ.out ?s1u6 ?s2u6 ?s3u6 ?_))
    case s1u6 => exact size_it6
    case s2u6 => rfl
    case s3u6 => simp [Value.oneCell']
    generalize w5.setRow p6 #[.int .i64 K1, .int .i64 N1, .float .f64 f1, .slice a3 D1.length c3] = u6 at *
    clear TQ
    have O6 := O7
    clear O7
    obtain ⟨i0, hi, hz0, hz1, hz2⟩ := info_parts Try.info5
    have dd := (Still.drew u6).below u6.heap.size
    replace R2 := hid ((dd.block w.heap.size (blk R2.out)).trans R2.out)
    replace R3 := hid ((dd.block (w.heap.size + 1) (blk R3.out)).trans R3.out)
    replace P5 := hid ((dd.block p5 (blk P5.out)).trans P5.out)
    replace P6 := hid ((dd.block p6 (blk P6.out)).trans P6.out)
    replace O5 := hid (owns_below dd (Nat.le_refl _) O5.out)
    replace O6 := hid (owns_below dd (Nat.le_refl _) O6.out)
    replace CU := hid (CU.out.below dd (Nat.le_refl _))
    replace BB := hid (BB.out.trans (dd.mono BB.out.size))
    clear dd
    refine region_K 6 (fun X => X.cell? ⟨p6, 3, none⟩ = some (.slice a3 D1.length c3)) (by kernel_rfl) ?_ (fun hHeld => ?_)
    · exact (row_cells P6.out).2.2.2
    generalize u6.drew = v6 at *
    refine anyK_take (i := 0) (v := ?v3) rfl (by kernel_rfl) (by kernel_rfl) (by kernel_rfl) (by kernel_rfl) (fun _ _ _ h => h) (by rfl) hHeld ?hy3 (some 23) (by rfl) ?rest3
    case hy3 => (intro W hSw; (try dsimp only at hSw); go_simp; (try with_reducible rfl))
    try simp only [Act.put]
    try simp only [List.setIfInBounds_toArray]
    try simp only [List.set_cons_succ, List.set_cons_zero]
    refine anyK_take (i := 1) (v := ?v4) rfl (by kernel_rfl) (by kernel_rfl) (by kernel_rfl) (by kernel_rfl) (fun _ _ _ h => h) (by rfl) hHeld ?hy4 (some 24) (by rfl) ?rest4
    case hy4 => (intro W hSw; (try dsimp only at hSw); go_simp; (try with_reducible rfl))
    try simp only [Act.put]
    try simp only [List.setIfInBounds_toArray]
    try simp only [List.set_cons_succ, List.set_cons_zero]
    refine anyK_take (i := 2) (v := ?v5) rfl (by kernel_rfl) (by kernel_rfl) (by kernel_rfl) (by kernel_rfl) (fun _ _ _ h => h) (by rfl) hHeld ?hy5 (some 25) (by rfl) ?rest5
    case hy5 => (intro W hSw; (try dsimp only at hSw); go_simp; (try with_reducible rfl))
    try simp only [Act.put]
    try simp only [List.setIfInBounds_toArray]
    try simp only [List.set_cons_succ, List.set_cons_zero]
    refine anyK_step (i := 3) (by kernel_rfl) rfl (fun KP hK => ?_)
    go_simp
    refine (l1some2 CU.out hn 2 (by omega) (by omega)).mono ?_
    rintro e w7 ⟨sv, SL, rfl, o8, bd8, hSL, hnl, c, gg⟩
    replace R2 := hid ((gg.block w.heap.size (blk R2.out) (by simp; omega)).trans R2.out)
    replace R3 := hid ((gg.block (w.heap.size + 1) (blk R3.out) (by simp; omega)).trans R3.out)
    replace P5 := hid (tup_cur P5.out g5 gg)
    replace O5 := hid (own_cur O5.out CU.out gg)
    replace P6 := hid (tup_cur P6.out g6 gg)
    replace O6 := hid (own_cur O6.out CU.out gg)
    replace BB := hid (BB.out.grown gg BB.out.size (fun k hk => by cases hk; omega))
    replace CU := hid c
    clear c gg
    have S8 := hid o8
    have HNL := hid hnl
    have BD8 := hid bd8
    clear o8 hnl bd8
    go_wp2_with fail
    refine hK.out _ _ ?_ (fun hH2 => ?_)
    · exact (row_cells P6.out).2.2.2
    clear hK KP hHeld
    have hHeld := hH2
    clear hH2
    try simp only [Act.put]
    try simp only [List.setIfInBounds_toArray]
    try simp only [List.set_cons_succ, List.set_cons_zero]
    by_cases hs0 : SL.length = 0
    · obtain rfl := HNL.out hs0
      refine anyK_step (i := 4) (by kernel_rfl) rfl (fun KP hK => ?_)
      refine step_append_none (by rfl) _ _ _ (by rfl) w.heap.size 5 i0 1 Try.underlying22 hi (.slice a3 D1.length c3) D1.length (bys D1) (by rfl) O6.out (by rfl) ?_
      have z5 := (row_cells P6.out).2.2.2
      have zf : w7.frozen? ⟨p6, 3, none⟩ = false := frozen_of_row _ _ _ _ _ P6.out
      refine hK.out _ _ ?_ (fun hH2 => ?_)
      · exact z5
      clear hK KP hHeld
      have hHeld := hH2
      clear hH2
      try simp only [Act.put]
      try simp only [List.setIfInBounds_toArray]
      try simp only [List.set_cons_succ, List.set_cons_zero]
      refine anyK_step (i := 5) (by kernel_rfl) rfl (fun KP hK => ?_)
      go_simp
      refine hK.out _ _ ?_ (fun hH2 => ?_)
      · exact z5
      clear hK KP hHeld
      have hHeld := hH2
      clear hH2
      try simp only [Act.put]
      try simp only [List.setIfInBounds_toArray]
      try simp only [List.set_cons_succ, List.set_cons_zero]
      have ew : w7.setCell ⟨p6, 3, none⟩ (.slice a3 D1.length c3) = w7.setRow p6 #[.int .i64 K1, .int .i64 N1, .float .f64 f1, .slice a3 D1.length c3] := setCell_eq_setRow w7 p6 3 _ 26 (0, 0) _ P6.out
      refine anyK_last (by kernel_rfl) rfl (fun KP hK => ?_)
      go_simp
      refine hK.out _ _ ?_
      clear hK KP hHeld
      refine anyK_done (by kernel_rfl) ?_ _
      clear z5 zf ew hi hz0 hz1 hz2 S8 HNL BD8
      have TQ := P6
      replace R2 := hid ((setRow_other w7 p6 w.heap.size #[.int .i64 K1, .int .i64 N1, .float .f64 f1, .slice a3 D1.length c3] (by omega)).trans R2.out)
      replace R3 := hid ((setRow_other w7 p6 (w.heap.size + 1) #[.int .i64 K1, .int .i64 N1, .float .f64 f1, .slice a3 D1.length c3] (by omega)).trans R3.out)
      replace P5 := hid ((setRow_other w7 p6 p5 #[.int .i64 K1, .int .i64 N1, .float .f64 f1, .slice a3 D1.length c3] (by omega)).trans P5.out)
      replace O5 := hid (own_rowed O5.out TQ.out (by decide) #[.int .i64 K1, .int .i64 N1, .float .f64 f1, .slice a3 D1.length c3])
      replace O6 := hid (own_rowed O6.out TQ.out (by decide) #[.int .i64 K1, .int .i64 N1, .float .f64 f1, .slice a3 D1.length c3])
      replace P6 := hid (setRow_heap w7 p6 _ #[.int .i64 K1, .int .i64 N1, .float .f64 f1, .slice a3 D1.length c3] _ _ TQ.out)
      replace CU := hid (CU.out.rowed g6 #[.int .i64 K1, .int .i64 N1, .float .f64 f1, .slice a3 D1.length c3])
      replace BB := hid (below_setRow BB.out (show w.heap.size ≤ p6 by omega) #[.int .i64 K1, .int .i64 N1, .float .f64 f1, .slice a3 D1.length c3])
      clear TQ
      go_wp2_with fail
      generalize w7.setRow p6 #[.int .i64 K1, .int .i64 N1, .float .f64 f1, .slice a3 D1.length c3] = u8 at *
      have dd := (Still.drew u8).below u8.heap.size
      replace R2 := hid ((dd.block w.heap.size (blk R2.out)).trans R2.out)
      replace R3 := hid ((dd.block (w.heap.size + 1) (blk R3.out)).trans R3.out)
      replace P5 := hid ((dd.block p5 (blk P5.out)).trans P5.out)
      replace P6 := hid ((dd.block p6 (blk P6.out)).trans P6.out)
      replace O5 := hid (owns_below dd (Nat.le_refl _) O5.out)
      replace O6 := hid (owns_below dd (Nat.le_refl _) O6.out)
      replace BB := hid (BB.out.trans (dd.mono BB.out.size))
      clear dd
      refine region_K 99 (fun W => W.cell? ⟨p5, 0, none⟩ = some (.int .i64 K1) ∧ W.cell? ⟨p5, 1, none⟩ = some (.int .i64 N1) ∧ W.cell? ⟨p5, 2, none⟩ = some (.float .f64 f1) ∧ W.cell? ⟨p5, 3, none⟩ = some (.slice a1 D1.length c1) ∧ W.cell? ⟨p6, 0, none⟩ = some (.int .i64 K1) ∧ W.cell? ⟨p6, 1, none⟩ = some (.int .i64 N1) ∧ W.cell? ⟨p6, 2, none⟩ = some (.float .f64 f1) ∧ W.cell? ⟨p6, 3, none⟩ = some (.slice a3 D1.length c3)) (by kernel_rfl) ?_ (fun hHeld => ?_)
      · exact (by have k5 := row_cells P5.out; have k6 := row_cells P6.out; exact ⟨k5.1, k5.2.1, k5.2.2.1, k5.2.2.2, k6.1, k6.2.1, k6.2.2.1, k6.2.2.2⟩)
      generalize u8.drew = v0 at *
      refine anyK_take2 (i := 0) (v := ?v6) rfl (by kernel_rfl) (by kernel_rfl) (by kernel_rfl) (by rfl) (fun _ _ _ h => h) (by rfl) hHeld ?hy6 (some 35) (by rfl) ?rest6
      case hy6 => (intro W hSw; obtain ⟨x0, x1, x2, x3, y0, y1, y2, y3⟩ := hSw; go_simp; (try with_reducible rfl))
      try simp only [Act.put]
      try simp only [List.setIfInBounds_toArray]
      try simp only [List.set_cons_succ, List.set_cons_zero]
      refine anyK_take2 (i := 1) (v := ?v7) rfl (by kernel_rfl) (by kernel_rfl) (by kernel_rfl) (by rfl) (fun _ _ _ h => h) (by rfl) hHeld ?hy7 (some 36) (by rfl) ?rest7
      case hy7 => (intro W hSw; obtain ⟨x0, x1, x2, x3, y0, y1, y2, y3⟩ := hSw; go_simp; (try with_reducible rfl))
      try simp only [Act.put]
      try simp only [List.setIfInBounds_toArray]
      try simp only [List.set_cons_succ, List.set_cons_zero]
      refine anyK_step (i := 2) (by kernel_rfl) rfl (fun KP hK => ?_)
      rw [if_pos (by rfl)]
      refine wp_store_row 26 (.tmp 2) (.tmp 35) rfl w.heap.size #[.int .i64 K1, .int .i64 N1, .float .f64 f1, .slice a1 D1.length c1] rfl rfl 26 _ R2.out size_it6 rfl (by simp [Value.oneCell']) ?_
      have q5 := (setRow_other v0 w.heap.size p5 #[.int .i64 K1, .int .i64 N1, .float .f64 f1, .slice a1 D1.length c1] (by omega)).trans P5.out
      have q6 := (setRow_other v0 w.heap.size p6 #[.int .i64 K1, .int .i64 N1, .float .f64 f1, .slice a1 D1.length c1] (by omega)).trans P6.out
      have q3 := (setRow_other v0 w.heap.size (w.heap.size + 1) #[.int .i64 K1, .int .i64 N1, .float .f64 f1, .slice a1 D1.length c1] (by omega)).trans R3.out
      have q2 := setRow_heap v0 w.heap.size _ #[.int .i64 K1, .int .i64 N1, .float .f64 f1, .slice a1 D1.length c1] _ _ R2.out
      have o5 := own_rowed O5.out R2.out (by decide) #[.int .i64 K1, .int .i64 N1, .float .f64 f1, .slice a1 D1.length c1]
      have o6 := own_rowed O6.out R2.out (by decide) #[.int .i64 K1, .int .i64 N1, .float .f64 f1, .slice a1 D1.length c1]
      have bb := below_setRow BB.out (Nat.le_refl w.heap.size) #[.int .i64 K1, .int .i64 N1, .float .f64 f1, .slice a1 D1.length c1]
      refine hK.out _ _ ?_ (fun hH2 => ?_)
      · exact (by have k5 := row_cells q5; have k6 := row_cells q6; exact ⟨k5.1, k5.2.1, k5.2.2.1, k5.2.2.2, k6.1, k6.2.1, k6.2.2.1, k6.2.2.2⟩)
      clear hK KP hHeld
      have hHeld := hH2
      clear hH2
      try simp only [Act.put]
      try simp only [List.setIfInBounds_toArray]
      try simp only [List.set_cons_succ, List.set_cons_zero]
      refine anyK_step (i := 3) (by kernel_rfl) rfl (fun KP hK => ?_)
      rw [if_pos (by rfl)]
      refine wp_store_row 26 (.tmp 3) (.tmp 36) rfl (w.heap.size + 1) #[.int .i64 K1, .int .i64 N1, .float .f64 f1, .slice a3 D1.length c3] rfl rfl 26 _ q3 size_it6 rfl (by simp [Value.oneCell']) ?_
      have t5 := (setRow_other _ (w.heap.size + 1) p5 #[.int .i64 K1, .int .i64 N1, .float .f64 f1, .slice a3 D1.length c3] (by omega)).trans q5
      have t6 := (setRow_other _ (w.heap.size + 1) p6 #[.int .i64 K1, .int .i64 N1, .float .f64 f1, .slice a3 D1.length c3] (by omega)).trans q6
      have t2 := (setRow_other _ (w.heap.size + 1) w.heap.size #[.int .i64 K1, .int .i64 N1, .float .f64 f1, .slice a3 D1.length c3] (by omega)).trans q2
      have t3 := setRow_heap _ (w.heap.size + 1) _ #[.int .i64 K1, .int .i64 N1, .float .f64 f1, .slice a3 D1.length c3] _ _ q3
      refine hK.out _ _ ?_ (fun hH2 => ?_)
      · exact (by have k5 := row_cells t5; have k6 := row_cells t6; exact ⟨k5.1, k5.2.1, k5.2.2.1, k5.2.2.2, k6.1, k6.2.1, k6.2.2.1, k6.2.2.2⟩)
      clear hK KP hHeld
      have hHeld := hH2
      clear hH2
      try simp only [Act.put]
      try simp only [List.setIfInBounds_toArray]
      try simp only [List.set_cons_succ, List.set_cons_zero]
      refine anyK_done (by kernel_rfl) ?_ _
      clear hHeld
      have T2 := hid t2
      have T3 := hid t3
      have F5 := hid (own_rowed o5 q3 (by decide) #[.int .i64 K1, .int .i64 N1, .float .f64 f1, .slice a3 D1.length c3])
      have F6 := hid (own_rowed o6 q3 (by decide) #[.int .i64 K1, .int .i64 N1, .float .f64 f1, .slice a3 D1.length c3])
      have FB := hid (below_setRow bb (show w.heap.size ≤ w.heap.size + 1 by omega) #[.int .i64 K1, .int .i64 N1, .float .f64 f1, .slice a3 D1.length c3])
      clear q5 q6 q3 q2 o5 o6 bb t5 t6 t2 t3
      go_wp2_with fail
      exact bodyPost_ret (results_cell2 Try.results9 _ _ w.heap.size (w.heap.size + 1) 26 _ _ (0, 0) _ rfl rfl T2.out T3.out Try.underlying26 rfl size_it6 size_it6) rfl ⟨_, _, _, _, _, _, _, _, _, _, _, _, _, _, rfl, own_ia' F5.out B1.out (by omega) hN1 hf1, own_ia' F6.out B1.out (by omega) hN1 hf1, FB.out⟩
    · obtain ⟨sb, so, sc, rfl⟩ : ∃ b o c, sv = .slice (some ⟨b, o, none⟩) SL.length c := by
        obtain ⟨x1, x2, e, r1, -⟩ := Reads.own S8.out BD8.out
        obtain ⟨b, o, rfl⟩ := r1.pos (by omega)
        exact ⟨b, o, x2, e⟩
      have RS8 : Reads w7 (some ⟨sb, so, none⟩) SL.length SL := by
        obtain ⟨_, _, e, r1, -⟩ := Reads.own S8.out BD8.out
        obtain ⟨rfl, _, rfl⟩ := Value.slice.inj e
        exact r1
      refine anyK_step (i := 4) (by kernel_rfl) rfl (fun KP hK => ?_)
      have eL : D1.length + SL.length = (D1 ++ SL).length := by simp
      refine step_append_lies _ (by rfl) _ _ _ (by rfl) w.heap.size 5 i0 (.int .u8 0) 1 1 Try.underlying22 hi hz0 hz1 hz2 rfl (by omega) (.slice a3 D1.length c3) D1.length (bys D1) (by rfl) O6.out ⟨sb, so, none⟩ SL.length sc (bys SL) (by rfl) (by rw [bys_length]; omega) RS8.news (bys_one _) (by omega) (by unfold maxLen; omega) (by omega) BB.out.size _ rfl ?_
      intro vg vc w9 o9 g9 hat _
      rw [← bys_append] at o9
      rw [eL] at o9 ⊢
      have B9 := hid (bdapp B1.out BD8.out)
      have l9 : (D1 ++ SL).length ≤ 10000 := by rw [List.length_append]; omega
      generalize D1 ++ SL = D9 at *
      obtain ⟨a9, ha9⟩ : ∃ a : Option Addr, some ⟨vg, 0, none⟩ = a := ⟨_, rfl⟩
      rw [ha9] at o9 ⊢
      generalize vc = c9 at *
      replace R2 := hid (row_app O6.out R2.out (by decide) g9)
      replace R3 := hid (row_app O6.out R3.out (by decide) g9)
      replace P5 := hid (row_app O6.out P5.out (by decide) g9)
      replace P6 := hid (row_app O6.out P6.out (by decide) g9)
      replace O5 := hid (O5.out.kept g9 AP.out)
      replace BB := hid (BB.out.grown g9 BB.out.size (fun k hk => (O6.out.lt k hk).1))
      have z5 := (row_cells P6.out).2.2.2
      have zf : w9.frozen? ⟨p6, 3, none⟩ = false := frozen_of_row _ _ _ _ _ P6.out
      replace O6 := hid o9
      clear o9 g9 hat ha9 eL RS8
      refine hK.out _ _ ?_ (fun hH2 => ?_)
      · exact z5
      clear hK KP hHeld
      have hHeld := hH2
      clear hH2
      try simp only [Act.put]
      try simp only [List.setIfInBounds_toArray]
      try simp only [List.set_cons_succ, List.set_cons_zero]
      refine anyK_step (i := 5) (by kernel_rfl) rfl (fun KP hK => ?_)
      go_simp
      refine hK.out _ _ ?_ (fun hH2 => ?_)
      · exact z5
      clear hK KP hHeld
      have hHeld := hH2
      clear hH2
      try simp only [Act.put]
      try simp only [List.setIfInBounds_toArray]
      try simp only [List.set_cons_succ, List.set_cons_zero]
      have ew : w9.setCell ⟨p6, 3, none⟩ (.slice a9 D9.length c9) = w9.setRow p6 #[.int .i64 K1, .int .i64 N1, .float .f64 f1, .slice a9 D9.length c9] := setCell_eq_setRow w9 p6 3 _ 26 (0, 0) _ P6.out
      refine anyK_last (by kernel_rfl) rfl (fun KP hK => ?_)
      go_simp
      refine hK.out _ _ ?_
      clear hK KP hHeld
      refine anyK_done (by kernel_rfl) ?_ _
      clear z5 zf ew hi hz0 hz1 hz2 S8 HNL BD8 CU AP
      have TQ := P6
      replace R2 := hid ((setRow_other w9 p6 w.heap.size #[.int .i64 K1, .int .i64 N1, .float .f64 f1, .slice a9 D9.length c9] (by omega)).trans R2.out)
      replace R3 := hid ((setRow_other w9 p6 (w.heap.size + 1) #[.int .i64 K1, .int .i64 N1, .float .f64 f1, .slice a9 D9.length c9] (by omega)).trans R3.out)
      replace P5 := hid ((setRow_other w9 p6 p5 #[.int .i64 K1, .int .i64 N1, .float .f64 f1, .slice a9 D9.length c9] (by omega)).trans P5.out)
      replace O5 := hid (own_rowed O5.out TQ.out (by decide) #[.int .i64 K1, .int .i64 N1, .float .f64 f1, .slice a9 D9.length c9])
      replace O6 := hid (own_rowed O6.out TQ.out (by decide) #[.int .i64 K1, .int .i64 N1, .float .f64 f1, .slice a9 D9.length c9])
      replace P6 := hid (setRow_heap w9 p6 _ #[.int .i64 K1, .int .i64 N1, .float .f64 f1, .slice a9 D9.length c9] _ _ TQ.out)
      replace BB := hid (below_setRow BB.out (show w.heap.size ≤ p6 by omega) #[.int .i64 K1, .int .i64 N1, .float .f64 f1, .slice a9 D9.length c9])
      clear TQ
      go_wp2_with fail
      generalize w9.setRow p6 #[.int .i64 K1, .int .i64 N1, .float .f64 f1, .slice a9 D9.length c9] = u8 at *
      have dd := (Still.drew u8).below u8.heap.size
      replace R2 := hid ((dd.block w.heap.size (blk R2.out)).trans R2.out)
      replace R3 := hid ((dd.block (w.heap.size + 1) (blk R3.out)).trans R3.out)
      replace P5 := hid ((dd.block p5 (blk P5.out)).trans P5.out)
      replace P6 := hid ((dd.block p6 (blk P6.out)).trans P6.out)
      replace O5 := hid (owns_below dd (Nat.le_refl _) O5.out)
      replace O6 := hid (owns_below dd (Nat.le_refl _) O6.out)
      replace BB := hid (BB.out.trans (dd.mono BB.out.size))
      clear dd
      refine region_K 99 (fun W => W.cell? ⟨p5, 0, none⟩ = some (.int .i64 K1) ∧ W.cell? ⟨p5, 1, none⟩ = some (.int .i64 N1) ∧ W.cell? ⟨p5, 2, none⟩ = some (.float .f64 f1) ∧ W.cell? ⟨p5, 3, none⟩ = some (.slice a1 D1.length c1) ∧ W.cell? ⟨p6, 0, none⟩ = some (.int .i64 K1) ∧ W.cell? ⟨p6, 1, none⟩ = some (.int .i64 N1) ∧ W.cell? ⟨p6, 2, none⟩ = some (.float .f64 f1) ∧ W.cell? ⟨p6, 3, none⟩ = some (.slice a9 D9.length c9)) (by kernel_rfl) ?_ (fun hHeld => ?_)
      · exact (by have k5 := row_cells P5.out; have k6 := row_cells P6.out; exact ⟨k5.1, k5.2.1, k5.2.2.1, k5.2.2.2, k6.1, k6.2.1, k6.2.2.1, k6.2.2.2⟩)
      generalize u8.drew = v0 at *
      refine anyK_take2 (i := 0) (v := ?v8) rfl (by kernel_rfl) (by kernel_rfl) (by kernel_rfl) (by rfl) (fun _ _ _ h => h) (by rfl) hHeld ?hy8 (some 35) (by rfl) ?rest8
      case hy8 => (intro W hSw; obtain ⟨x0, x1, x2, x3, y0, y1, y2, y3⟩ := hSw; go_simp; (try with_reducible rfl))
      try simp only [Act.put]
      try simp only [List.setIfInBounds_toArray]
      try simp only [List.set_cons_succ, List.set_cons_zero]
      refine anyK_take2 (i := 1) (v := ?v9) rfl (by kernel_rfl) (by kernel_rfl) (by kernel_rfl) (by rfl) (fun _ _ _ h => h) (by rfl) hHeld ?hy9 (some 36) (by rfl) ?rest9
      case hy9 => (intro W hSw; obtain ⟨x0, x1, x2, x3, y0, y1, y2, y3⟩ := hSw; go_simp; (try with_reducible rfl))
      try simp only [Act.put]
      try simp only [List.setIfInBounds_toArray]
      try simp only [List.set_cons_succ, List.set_cons_zero]
      refine anyK_step (i := 2) (by kernel_rfl) rfl (fun KP hK => ?_)
      rw [if_pos (by rfl)]
      refine wp_store_row 26 (.tmp 2) (.tmp 35) rfl w.heap.size #[.int .i64 K1, .int .i64 N1, .float .f64 f1, .slice a1 D1.length c1] rfl rfl 26 _ R2.out size_it6 rfl (by simp [Value.oneCell']) ?_
      have q5 := (setRow_other v0 w.heap.size p5 #[.int .i64 K1, .int .i64 N1, .float .f64 f1, .slice a1 D1.length c1] (by omega)).trans P5.out
      have q6 := (setRow_other v0 w.heap.size p6 #[.int .i64 K1, .int .i64 N1, .float .f64 f1, .slice a1 D1.length c1] (by omega)).trans P6.out
      have q3 := (setRow_other v0 w.heap.size (w.heap.size + 1) #[.int .i64 K1, .int .i64 N1, .float .f64 f1, .slice a1 D1.length c1] (by omega)).trans R3.out
      have q2 := setRow_heap v0 w.heap.size _ #[.int .i64 K1, .int .i64 N1, .float .f64 f1, .slice a1 D1.length c1] _ _ R2.out
      have o5 := own_rowed O5.out R2.out (by decide) #[.int .i64 K1, .int .i64 N1, .float .f64 f1, .slice a1 D1.length c1]
      have o6 := own_rowed O6.out R2.out (by decide) #[.int .i64 K1, .int .i64 N1, .float .f64 f1, .slice a1 D1.length c1]
      have bb := below_setRow BB.out (Nat.le_refl w.heap.size) #[.int .i64 K1, .int .i64 N1, .float .f64 f1, .slice a1 D1.length c1]
      refine hK.out _ _ ?_ (fun hH2 => ?_)
      · exact (by have k5 := row_cells q5; have k6 := row_cells q6; exact ⟨k5.1, k5.2.1, k5.2.2.1, k5.2.2.2, k6.1, k6.2.1, k6.2.2.1, k6.2.2.2⟩)
      clear hK KP hHeld
      have hHeld := hH2
      clear hH2
      try simp only [Act.put]
      try simp only [List.setIfInBounds_toArray]
      try simp only [List.set_cons_succ, List.set_cons_zero]
      refine anyK_step (i := 3) (by kernel_rfl) rfl (fun KP hK => ?_)
      rw [if_pos (by rfl)]
      refine wp_store_row 26 (.tmp 3) (.tmp 36) rfl (w.heap.size + 1) #[.int .i64 K1, .int .i64 N1, .float .f64 f1, .slice a9 D9.length c9] rfl rfl 26 _ q3 size_it6 rfl (by simp [Value.oneCell']) ?_
      have t5 := (setRow_other _ (w.heap.size + 1) p5 #[.int .i64 K1, .int .i64 N1, .float .f64 f1, .slice a9 D9.length c9] (by omega)).trans q5
      have t6 := (setRow_other _ (w.heap.size + 1) p6 #[.int .i64 K1, .int .i64 N1, .float .f64 f1, .slice a9 D9.length c9] (by omega)).trans q6
      have t2 := (setRow_other _ (w.heap.size + 1) w.heap.size #[.int .i64 K1, .int .i64 N1, .float .f64 f1, .slice a9 D9.length c9] (by omega)).trans q2
      have t3 := setRow_heap _ (w.heap.size + 1) _ #[.int .i64 K1, .int .i64 N1, .float .f64 f1, .slice a9 D9.length c9] _ _ q3
      refine hK.out _ _ ?_ (fun hH2 => ?_)
      · exact (by have k5 := row_cells t5; have k6 := row_cells t6; exact ⟨k5.1, k5.2.1, k5.2.2.1, k5.2.2.2, k6.1, k6.2.1, k6.2.2.1, k6.2.2.2⟩)
      clear hK KP hHeld
      have hHeld := hH2
      clear hH2
      try simp only [Act.put]
      try simp only [List.setIfInBounds_toArray]
      try simp only [List.set_cons_succ, List.set_cons_zero]
      refine anyK_done (by kernel_rfl) ?_ _
      clear hHeld
      have T2 := hid t2
      have T3 := hid t3
      have F5 := hid (own_rowed o5 q3 (by decide) #[.int .i64 K1, .int .i64 N1, .float .f64 f1, .slice a9 D9.length c9])
      have F6 := hid (own_rowed o6 q3 (by decide) #[.int .i64 K1, .int .i64 N1, .float .f64 f1, .slice a9 D9.length c9])
      have FB := hid (below_setRow bb (show w.heap.size ≤ w.heap.size + 1 by omega) #[.int .i64 K1, .int .i64 N1, .float .f64 f1, .slice a9 D9.length c9])
      clear q5 q6 q3 q2 o5 o6 bb t5 t6 t2 t3
      go_wp2_with fail
      exact bodyPost_ret (results_cell2 Try.results9 _ _ w.heap.size (w.heap.size + 1) 26 _ _ (0, 0) _ rfl rfl T2.out T3.out Try.underlying26 rfl size_it6 size_it6) rfl ⟨_, _, _, _, _, _, _, _, _, _, _, _, _, _, rfl, own_ia' F5.out B1.out (by omega) hN1 hf1, own_ia' F6.out B9.out (by omega) hN1 hf1, FB.out⟩
  · go_wp2_with fail
    refine (l3key CU.out hn).mono ?_
    rintro e w5 ⟨K3, N3, f3, v, D3, rfl, o, bd3, ld3, hN3, hf3, c, gg⟩
    obtain ⟨a3, c3, rfl⟩ := own_form2 o
    have hst3 := fun w a m => run_store Try.prog w a (.float .f64 f3) m rfl
    have O7 := hid (owns_base (base' := w.heap.size) o (by have := BB.out.size; omega))
    have B3 := hid bd3
    clear o bd3
    replace R2 := hid ((gg.block w.heap.size (blk R2.out) (by simp; omega)).trans R2.out)
    replace R3 := hid ((gg.block (w.heap.size + 1) (blk R3.out) (by simp; omega)).trans R3.out)
    replace P5 := hid (tup_cur P5.out g5 gg)
    replace O5 := hid (own_cur O5.out CU.out gg)
    replace P6 := hid (tup_cur P6.out g6 gg)
    replace O6 := hid (own_cur O6.out CU.out gg)
    replace BB := hid (BB.out.grown gg BB.out.size (fun k hk => by cases hk; omega))
    replace CU := hid c
    clear c gg
    clear O5
    have TQ := P5
    replace R2 := hid ((setRow_other w5 p5 w.heap.size #[.int .i64 K3, .int .i64 N3, .float .f64 f3, .slice a3 D3.length c3] (by omega)).trans R2.out)
    replace R3 := hid ((setRow_other w5 p5 (w.heap.size + 1) #[.int .i64 K3, .int .i64 N3, .float .f64 f3, .slice a3 D3.length c3] (by omega)).trans R3.out)
    replace P6 := hid ((setRow_other w5 p5 p6 #[.int .i64 K3, .int .i64 N3, .float .f64 f3, .slice a3 D3.length c3] (by omega)).trans P6.out)
    replace O6 := hid (own_rowed O6.out TQ.out (by decide) #[.int .i64 K3, .int .i64 N3, .float .f64 f3, .slice a3 D3.length c3])
    replace O7 := hid (own_rowed O7.out TQ.out (by decide) #[.int .i64 K3, .int .i64 N3, .float .f64 f3, .slice a3 D3.length c3])
    replace P5 := hid (setRow_heap w5 p5 _ #[.int .i64 K3, .int .i64 N3, .float .f64 f3, .slice a3 D3.length c3] _ _ TQ.out)
    replace CU := hid (CU.out.rowed g5 #[.int .i64 K3, .int .i64 N3, .float .f64 f3, .slice a3 D3.length c3])
    replace BB := hid (below_setRow BB.out (show w.heap.size ≤ p5 by omega) #[.int .i64 K3, .int .i64 N3, .float .f64 f3, .slice a3 D3.length c3])
    go_wp2_with (first
      | (refine wpList_store_row rfl 26 (.tmp 5) (.tmp 32) rfl p5 #[.int .i64 K3, .int .i64 N3, .float .f64 f3, .slice a3 D3.length c3] rfl rfl 26 _ TQ.out ?s1 ?s2 ?s3 ?_))
    case s1 => exact size_it6
    case s2 => rfl
    case s3 => simp [Value.oneCell']
    generalize w5.setRow p5 #[.int .i64 K3, .int .i64 N3, .float .f64 f3, .slice a3 D3.length c3] = u5 at *
    clear TQ
    have O5 := O7
    clear O7
    refine (l3key CU.out hn).mono ?_
    rintro e w6 ⟨K4, N4, f4, v, D4, rfl, o, bd4, ld4, hN4, hf4, c, gg⟩
    obtain ⟨a4, c4, rfl⟩ := own_form2 o
    have hst4 := fun w a m => run_store Try.prog w a (.float .f64 f4) m rfl
    have O7 := hid (owns_base (base' := w.heap.size) o (by have := BB.out.size; omega))
    have B4 := hid bd4
    clear o bd4
    replace R2 := hid ((gg.block w.heap.size (blk R2.out) (by simp; omega)).trans R2.out)
    replace R3 := hid ((gg.block (w.heap.size + 1) (blk R3.out) (by simp; omega)).trans R3.out)
    replace P5 := hid (tup_cur P5.out g5 gg)
    replace O5 := hid (own_cur O5.out CU.out gg)
    replace P6 := hid (tup_cur P6.out g6 gg)
    replace O6 := hid (own_cur O6.out CU.out gg)
    replace BB := hid (BB.out.grown gg BB.out.size (fun k hk => by cases hk; omega))
    replace CU := hid c
    clear c gg
    clear O6
    have TQ := P6
    replace R2 := hid ((setRow_other w6 p6 w.heap.size #[.int .i64 K4, .int .i64 N4, .float .f64 f4, .slice a4 D4.length c4] (by omega)).trans R2.out)
    replace R3 := hid ((setRow_other w6 p6 (w.heap.size + 1) #[.int .i64 K4, .int .i64 N4, .float .f64 f4, .slice a4 D4.length c4] (by omega)).trans R3.out)
    replace P5 := hid ((setRow_other w6 p6 p5 #[.int .i64 K4, .int .i64 N4, .float .f64 f4, .slice a4 D4.length c4] (by omega)).trans P5.out)
    replace O5 := hid (own_rowed O5.out TQ.out (by decide) #[.int .i64 K4, .int .i64 N4, .float .f64 f4, .slice a4 D4.length c4])
    replace O7 := hid (own_rowed O7.out TQ.out (by decide) #[.int .i64 K4, .int .i64 N4, .float .f64 f4, .slice a4 D4.length c4])
    replace P6 := hid (setRow_heap w6 p6 _ #[.int .i64 K4, .int .i64 N4, .float .f64 f4, .slice a4 D4.length c4] _ _ TQ.out)
    replace CU := hid (CU.out.rowed g6 #[.int .i64 K4, .int .i64 N4, .float .f64 f4, .slice a4 D4.length c4])
    replace BB := hid (below_setRow BB.out (show w.heap.size ≤ p6 by omega) #[.int .i64 K4, .int .i64 N4, .float .f64 f4, .slice a4 D4.length c4])
    go_wp2_with (first
      | (refine wpList_store_row rfl 26 (.tmp 6) (.tmp 34) rfl p6 #[.int .i64 K4, .int .i64 N4, .float .f64 f4, .slice a4 D4.length c4] rfl rfl 26 _ TQ.out ?s4 ?s5 ?s6 ?_))
    case s4 => exact size_it6
    case s5 => rfl
    case s6 => simp [Value.oneCell']
    generalize w6.setRow p6 #[.int .i64 K4, .int .i64 N4, .float .f64 f4, .slice a4 D4.length c4] = u6 at *
    clear TQ
    have O6 := O7
    clear O7
    have dd := (Still.drew u6).below u6.heap.size
    replace R2 := hid ((dd.block w.heap.size (blk R2.out)).trans R2.out)
    replace R3 := hid ((dd.block (w.heap.size + 1) (blk R3.out)).trans R3.out)
    replace P5 := hid ((dd.block p5 (blk P5.out)).trans P5.out)
    replace P6 := hid ((dd.block p6 (blk P6.out)).trans P6.out)
    replace O5 := hid (owns_below dd (Nat.le_refl _) O5.out)
    replace O6 := hid (owns_below dd (Nat.le_refl _) O6.out)
    replace BB := hid (BB.out.trans (dd.mono BB.out.size))
    clear dd
    refine region_K 99 (fun W => W.cell? ⟨p5, 0, none⟩ = some (.int .i64 K3) ∧ W.cell? ⟨p5, 1, none⟩ = some (.int .i64 N3) ∧ W.cell? ⟨p5, 2, none⟩ = some (.float .f64 f3) ∧ W.cell? ⟨p5, 3, none⟩ = some (.slice a3 D3.length c3) ∧ W.cell? ⟨p6, 0, none⟩ = some (.int .i64 K4) ∧ W.cell? ⟨p6, 1, none⟩ = some (.int .i64 N4) ∧ W.cell? ⟨p6, 2, none⟩ = some (.float .f64 f4) ∧ W.cell? ⟨p6, 3, none⟩ = some (.slice a4 D4.length c4)) (by kernel_rfl) ?_ (fun hHeld => ?_)
    · exact (by have k5 := row_cells P5.out; have k6 := row_cells P6.out; exact ⟨k5.1, k5.2.1, k5.2.2.1, k5.2.2.2, k6.1, k6.2.1, k6.2.2.1, k6.2.2.2⟩)
    generalize u6.drew = v0 at *
    refine anyK_take2 (i := 0) (v := ?v10) rfl (by kernel_rfl) (by kernel_rfl) (by kernel_rfl) (by rfl) (fun _ _ _ h => h) (by rfl) hHeld ?hy10 (some 35) (by rfl) ?rest10
    case hy10 => (intro W hSw; obtain ⟨x0, x1, x2, x3, y0, y1, y2, y3⟩ := hSw; go_simp; (try with_reducible rfl))
    try simp only [Act.put]
    try simp only [List.setIfInBounds_toArray]
    try simp only [List.set_cons_succ, List.set_cons_zero]
    refine anyK_take2 (i := 1) (v := ?v11) rfl (by kernel_rfl) (by kernel_rfl) (by kernel_rfl) (by rfl) (fun _ _ _ h => h) (by rfl) hHeld ?hy11 (some 36) (by rfl) ?rest11
    case hy11 => (intro W hSw; obtain ⟨x0, x1, x2, x3, y0, y1, y2, y3⟩ := hSw; go_simp; (try with_reducible rfl))
    try simp only [Act.put]
    try simp only [List.setIfInBounds_toArray]
    try simp only [List.set_cons_succ, List.set_cons_zero]
    refine anyK_step (i := 2) (by kernel_rfl) rfl (fun KP hK => ?_)
    rw [if_pos (by rfl)]
    refine wp_store_row 26 (.tmp 2) (.tmp 35) rfl w.heap.size #[.int .i64 K3, .int .i64 N3, .float .f64 f3, .slice a3 D3.length c3] rfl rfl 26 _ R2.out size_it6 rfl (by simp [Value.oneCell']) ?_
    have q5 := (setRow_other v0 w.heap.size p5 #[.int .i64 K3, .int .i64 N3, .float .f64 f3, .slice a3 D3.length c3] (by omega)).trans P5.out
    have q6 := (setRow_other v0 w.heap.size p6 #[.int .i64 K3, .int .i64 N3, .float .f64 f3, .slice a3 D3.length c3] (by omega)).trans P6.out
    have q3 := (setRow_other v0 w.heap.size (w.heap.size + 1) #[.int .i64 K3, .int .i64 N3, .float .f64 f3, .slice a3 D3.length c3] (by omega)).trans R3.out
    have q2 := setRow_heap v0 w.heap.size _ #[.int .i64 K3, .int .i64 N3, .float .f64 f3, .slice a3 D3.length c3] _ _ R2.out
    have o5 := own_rowed O5.out R2.out (by decide) #[.int .i64 K3, .int .i64 N3, .float .f64 f3, .slice a3 D3.length c3]
    have o6 := own_rowed O6.out R2.out (by decide) #[.int .i64 K3, .int .i64 N3, .float .f64 f3, .slice a3 D3.length c3]
    have bb := below_setRow BB.out (Nat.le_refl w.heap.size) #[.int .i64 K3, .int .i64 N3, .float .f64 f3, .slice a3 D3.length c3]
    refine hK.out _ _ ?_ (fun hH2 => ?_)
    · exact (by have k5 := row_cells q5; have k6 := row_cells q6; exact ⟨k5.1, k5.2.1, k5.2.2.1, k5.2.2.2, k6.1, k6.2.1, k6.2.2.1, k6.2.2.2⟩)
    clear hK KP hHeld
    have hHeld := hH2
    clear hH2
    try simp only [Act.put]
    try simp only [List.setIfInBounds_toArray]
    try simp only [List.set_cons_succ, List.set_cons_zero]
    refine anyK_step (i := 3) (by kernel_rfl) rfl (fun KP hK => ?_)
    rw [if_pos (by rfl)]
    refine wp_store_row 26 (.tmp 3) (.tmp 36) rfl (w.heap.size + 1) #[.int .i64 K4, .int .i64 N4, .float .f64 f4, .slice a4 D4.length c4] rfl rfl 26 _ q3 size_it6 rfl (by simp [Value.oneCell']) ?_
    have t5 := (setRow_other _ (w.heap.size + 1) p5 #[.int .i64 K4, .int .i64 N4, .float .f64 f4, .slice a4 D4.length c4] (by omega)).trans q5
    have t6 := (setRow_other _ (w.heap.size + 1) p6 #[.int .i64 K4, .int .i64 N4, .float .f64 f4, .slice a4 D4.length c4] (by omega)).trans q6
    have t2 := (setRow_other _ (w.heap.size + 1) w.heap.size #[.int .i64 K4, .int .i64 N4, .float .f64 f4, .slice a4 D4.length c4] (by omega)).trans q2
    have t3 := setRow_heap _ (w.heap.size + 1) _ #[.int .i64 K4, .int .i64 N4, .float .f64 f4, .slice a4 D4.length c4] _ _ q3
    refine hK.out _ _ ?_ (fun hH2 => ?_)
    · exact (by have k5 := row_cells t5; have k6 := row_cells t6; exact ⟨k5.1, k5.2.1, k5.2.2.1, k5.2.2.2, k6.1, k6.2.1, k6.2.2.1, k6.2.2.2⟩)
    clear hK KP hHeld
    have hHeld := hH2
    clear hH2
    try simp only [Act.put]
    try simp only [List.setIfInBounds_toArray]
    try simp only [List.set_cons_succ, List.set_cons_zero]
    refine anyK_done (by kernel_rfl) ?_ _
    clear hHeld
    have T2 := hid t2
    have T3 := hid t3
    have F5 := hid (own_rowed o5 q3 (by decide) #[.int .i64 K4, .int .i64 N4, .float .f64 f4, .slice a4 D4.length c4])
    have F6 := hid (own_rowed o6 q3 (by decide) #[.int .i64 K4, .int .i64 N4, .float .f64 f4, .slice a4 D4.length c4])
    have FB := hid (below_setRow bb (show w.heap.size ≤ w.heap.size + 1 by omega) #[.int .i64 K4, .int .i64 N4, .float .f64 f4, .slice a4 D4.length c4])
    clear q5 q6 q3 q2 o5 o6 bb t5 t6 t2 t3
    go_wp2_with fail
    exact bodyPost_ret (results_cell2 Try.results9 _ _ w.heap.size (w.heap.size + 1) 26 _ _ (0, 0) _ rfl rfl T2.out T3.out Try.underlying26 rfl size_it6 size_it6) rfl ⟨_, _, _, _, _, _, _, _, _, _, _, _, _, _, rfl, own_ia' F5.out B3.out (by omega) hN3 hf3, own_ia' F6.out B4.out (by omega) hN4 hf4, FB.out⟩
  · go_wp2_with fail
    have dd := (Still.drew w4).below w4.heap.size
    replace R2 := hid ((dd.block w.heap.size (blk R2.out)).trans R2.out)
    replace R3 := hid ((dd.block (w.heap.size + 1) (blk R3.out)).trans R3.out)
    replace P5 := hid ((dd.block p5 (blk P5.out)).trans P5.out)
    replace P6 := hid ((dd.block p6 (blk P6.out)).trans P6.out)
    replace O5 := hid (owns_below dd (Nat.le_refl _) O5.out)
    replace O6 := hid (owns_below dd (Nat.le_refl _) O6.out)
    replace BB := hid (BB.out.trans (dd.mono BB.out.size))
    clear dd
    refine region_K 99 (fun W => W.cell? ⟨p5, 0, none⟩ = some (.int .i64 K1) ∧ W.cell? ⟨p5, 1, none⟩ = some (.int .i64 N1) ∧ W.cell? ⟨p5, 2, none⟩ = some (.float .f64 f1) ∧ W.cell? ⟨p5, 3, none⟩ = some (.slice a1 D1.length c1) ∧ W.cell? ⟨p6, 0, none⟩ = some (.int .i64 K2) ∧ W.cell? ⟨p6, 1, none⟩ = some (.int .i64 N2) ∧ W.cell? ⟨p6, 2, none⟩ = some (.float .f64 f2) ∧ W.cell? ⟨p6, 3, none⟩ = some (.slice a2 D2.length c2)) (by kernel_rfl) ?_ (fun hHeld => ?_)
    · exact (by have k5 := row_cells P5.out; have k6 := row_cells P6.out; exact ⟨k5.1, k5.2.1, k5.2.2.1, k5.2.2.2, k6.1, k6.2.1, k6.2.2.1, k6.2.2.2⟩)
    generalize w4.drew = v0 at *
    refine anyK_take2 (i := 0) (v := ?v12) rfl (by kernel_rfl) (by kernel_rfl) (by kernel_rfl) (by rfl) (fun _ _ _ h => h) (by rfl) hHeld ?hy12 (some 35) (by rfl) ?rest12
    case hy12 => (intro W hSw; obtain ⟨x0, x1, x2, x3, y0, y1, y2, y3⟩ := hSw; go_simp; (try with_reducible rfl))
    try simp only [Act.put]
    try simp only [List.setIfInBounds_toArray]
    try simp only [List.set_cons_succ, List.set_cons_zero]
    refine anyK_take2 (i := 1) (v := ?v13) rfl (by kernel_rfl) (by kernel_rfl) (by kernel_rfl) (by rfl) (fun _ _ _ h => h) (by rfl) hHeld ?hy13 (some 36) (by rfl) ?rest13
    case hy13 => (intro W hSw; obtain ⟨x0, x1, x2, x3, y0, y1, y2, y3⟩ := hSw; go_simp; (try with_reducible rfl))
    try simp only [Act.put]
    try simp only [List.setIfInBounds_toArray]
    try simp only [List.set_cons_succ, List.set_cons_zero]
    refine anyK_step (i := 2) (by kernel_rfl) rfl (fun KP hK => ?_)
    rw [if_pos (by rfl)]
    refine wp_store_row 26 (.tmp 2) (.tmp 35) rfl w.heap.size #[.int .i64 K1, .int .i64 N1, .float .f64 f1, .slice a1 D1.length c1] rfl rfl 26 _ R2.out size_it6 rfl (by simp [Value.oneCell']) ?_
    have q5 := (setRow_other v0 w.heap.size p5 #[.int .i64 K1, .int .i64 N1, .float .f64 f1, .slice a1 D1.length c1] (by omega)).trans P5.out
    have q6 := (setRow_other v0 w.heap.size p6 #[.int .i64 K1, .int .i64 N1, .float .f64 f1, .slice a1 D1.length c1] (by omega)).trans P6.out
    have q3 := (setRow_other v0 w.heap.size (w.heap.size + 1) #[.int .i64 K1, .int .i64 N1, .float .f64 f1, .slice a1 D1.length c1] (by omega)).trans R3.out
    have q2 := setRow_heap v0 w.heap.size _ #[.int .i64 K1, .int .i64 N1, .float .f64 f1, .slice a1 D1.length c1] _ _ R2.out
    have o5 := own_rowed O5.out R2.out (by decide) #[.int .i64 K1, .int .i64 N1, .float .f64 f1, .slice a1 D1.length c1]
    have o6 := own_rowed O6.out R2.out (by decide) #[.int .i64 K1, .int .i64 N1, .float .f64 f1, .slice a1 D1.length c1]
    have bb := below_setRow BB.out (Nat.le_refl w.heap.size) #[.int .i64 K1, .int .i64 N1, .float .f64 f1, .slice a1 D1.length c1]
    refine hK.out _ _ ?_ (fun hH2 => ?_)
    · exact (by have k5 := row_cells q5; have k6 := row_cells q6; exact ⟨k5.1, k5.2.1, k5.2.2.1, k5.2.2.2, k6.1, k6.2.1, k6.2.2.1, k6.2.2.2⟩)
    clear hK KP hHeld
    have hHeld := hH2
    clear hH2
    try simp only [Act.put]
    try simp only [List.setIfInBounds_toArray]
    try simp only [List.set_cons_succ, List.set_cons_zero]
    refine anyK_step (i := 3) (by kernel_rfl) rfl (fun KP hK => ?_)
    rw [if_pos (by rfl)]
    refine wp_store_row 26 (.tmp 3) (.tmp 36) rfl (w.heap.size + 1) #[.int .i64 K2, .int .i64 N2, .float .f64 f2, .slice a2 D2.length c2] rfl rfl 26 _ q3 size_it6 rfl (by simp [Value.oneCell']) ?_
    have t5 := (setRow_other _ (w.heap.size + 1) p5 #[.int .i64 K2, .int .i64 N2, .float .f64 f2, .slice a2 D2.length c2] (by omega)).trans q5
    have t6 := (setRow_other _ (w.heap.size + 1) p6 #[.int .i64 K2, .int .i64 N2, .float .f64 f2, .slice a2 D2.length c2] (by omega)).trans q6
    have t2 := (setRow_other _ (w.heap.size + 1) w.heap.size #[.int .i64 K2, .int .i64 N2, .float .f64 f2, .slice a2 D2.length c2] (by omega)).trans q2
    have t3 := setRow_heap _ (w.heap.size + 1) _ #[.int .i64 K2, .int .i64 N2, .float .f64 f2, .slice a2 D2.length c2] _ _ q3
    refine hK.out _ _ ?_ (fun hH2 => ?_)
    · exact (by have k5 := row_cells t5; have k6 := row_cells t6; exact ⟨k5.1, k5.2.1, k5.2.2.1, k5.2.2.2, k6.1, k6.2.1, k6.2.2.1, k6.2.2.2⟩)
    clear hK KP hHeld
    have hHeld := hH2
    clear hH2
    try simp only [Act.put]
    try simp only [List.setIfInBounds_toArray]
    try simp only [List.set_cons_succ, List.set_cons_zero]
    refine anyK_done (by kernel_rfl) ?_ _
    clear hHeld
    have T2 := hid t2
    have T3 := hid t3
    have F5 := hid (own_rowed o5 q3 (by decide) #[.int .i64 K2, .int .i64 N2, .float .f64 f2, .slice a2 D2.length c2])
    have F6 := hid (own_rowed o6 q3 (by decide) #[.int .i64 K2, .int .i64 N2, .float .f64 f2, .slice a2 D2.length c2])
    have FB := hid (below_setRow bb (show w.heap.size ≤ w.heap.size + 1 by omega) #[.int .i64 K2, .int .i64 N2, .float .f64 f2, .slice a2 D2.length c2])
    clear q5 q6 q3 q2 o5 o6 bb t5 t6 t2 t3
    go_wp2_with fail
    exact bodyPost_ret (results_cell2 Try.results9 _ _ w.heap.size (w.heap.size + 1) 26 _ _ (0, 0) _ rfl rfl T2.out T3.out Try.underlying26 rfl size_it6 size_it6) rfl ⟨_, _, _, _, _, _, _, _, _, _, _, _, _, _, rfl, own_ia' F5.out B1.out (by omega) hN1 hf1, own_ia' F6.out B2.out (by omega) hN2 hf2, FB.out⟩
end Go.Proofs.Ytlapfmfaammheaa
