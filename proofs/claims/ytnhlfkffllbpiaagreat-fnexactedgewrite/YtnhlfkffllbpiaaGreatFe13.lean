/- The contracts of the program's copiedItem, copiedSpan and its copies of lists of them. Conditions: at most 2^20 of them, texts of at most 2^21 bytes. -/
import Derived.Test.YtnhlfkffllbpiaaGreatFa13
import Derived.Test.YtnhlfkffllbpiaaGreatCli
import Derived.Test.YtnhlfkffllbpiaaGreatEf13
namespace Go.Proofs.YtnhlfkffllbpiaaGreat
open Go.RowKit
set_option maxRecDepth 100000
section
variable {P : Program} {ops : Array Oper} {o : Oper} {a : Act} {w : World} {K : Act → World → Prop} {Q : Exit → Act → World → Prop} {E : Prop}
theorem step_store_row13 (hgd : o.guard = none) (ty : TypeId) (x y : Operand) (ho : o.op = .store ty x y)
 (g : Nat) (cells : Array Value) (hx : a.eval x = .pointer (some ⟨g, 0, none⟩)) (hy : a.eval y = .agg cells)
 (t : TypeId) (old : Array Value) (hg : w.heap[g]? = some (.cells old t (0, 0))) (hi : (P.info? ty).map (·.size) = some cells.size)
 (hold : old.size = cells.size) (h1 : cells.all (·.oneCell') = true)
 (h : K (a.put o.dst undef) (w.setRow g cells)) : if Region.wanted o (yielded ops a.tmps) = true then Oper.wp P o a w K Q else E := by
 have hw : Region.wanted o (yielded ops a.tmps) = true := by simp [Region.wanted, hgd]
 rw [if_pos hw]
 exact wp_store_row ty x y ho g cells hx hy t old hg hi hold h1 h
end
set_option maxHeartbeats 3200000 in
theorem impl_copiedItem (K N : Int) (F : Nat) {p1 : Option Addr} {m : Nat} (c1 : Nat) {Z : List Int} {w : World} (h : Reads w p1 m Z) (hn : m ≤ 2097152) :
 Calls Tryz.prog 63 #[.agg #[.int .i64 K, .int .i64 N, .float .f64 F, .slice p1 m c1]] w fun e w' => ∃ v, e = .returned (.agg #[.int .i64 K, .int .i64 N, .float .f64 F, v]) ∧ w'.ownsRow w.heap.size 5 1 v m (bys Z) ∧ Below w.heap.size w w' := by
 have hst := fun w a m => run_store Tryz.prog w a (.float .f64 F) m rfl
 have hB := two w (.cells #[.int .i64 K, .int .i64 N, .float .f64 F, .slice p1 m c1] 33) (.cells #[.int .i64 0, .int .i64 0, .float .f64 0, .slice none 0 0] 33)
 obtain ⟨R1, R2, z⟩ := two_rows13 w (.cells #[.int .i64 K, .int .i64 N, .float .f64 F, .slice p1 m c1] 33) (.cells #[.int .i64 0, .int .i64 0, .float .f64 0, .slice none 0 0] 33)
 have HB := hid hB
 have HR1 := hid R1
 have HR2 := hid R2
 have HZ := hid z
 have H2 := hid (h.below hB (Nat.le_refl _))
 clear hB R1 R2 z h
 go_enter Tryz.func63, Tryz.ntmps63
 go_wp2_with fail
 refine (bytes_clone c1 H2.out hn).mono ?_
 rintro e w1 ⟨v, rfl, o, b⟩
 obtain ⟨pv, cv, rfl⟩ := own_sl o
 have z := HZ.out
 have S0 := (b.block w.heap.size (by omega)).trans HR1.out
 have S1 := (b.block (w.heap.size + 1) (by omega)).trans HR2.out
 have B1 := hid ((HB.out.trans (b.mono HB.out.size)).setCell (p := ⟨w.heap.size, 3, none⟩) (Nat.le_refl _) (.slice pv m cv))
 have T1 := hid ((heap_setCell_other w1 ⟨w.heap.size, 3, none⟩ (w.heap.size + 1) (.slice pv m cv) (by simp)).trans S1)
 have q0 := cell_of_row _ _ 0 _ _ _ S0
 have q1 := cell_of_row _ _ 1 _ _ _ S0
 have q2 := cell_of_row _ _ 2 _ _ _ S0
 have q3 := cell_of_row _ _ 3 _ _ _ S0
 have fz : w1.frozen? ⟨w.heap.size, 3, none⟩ = false := frozen_of_row _ _ _ _ _ S0
 rw [z] at o
 have O := hid o
 clear S0 S1 b z HZ HB HR1 HR2 o H2
 go_wp2_with (refine wpList_store_row rfl 33 (.tmp 2) (.tmp 7) rfl (w.heap.size + 1) #[.int .i64 K, .int .i64 N, .float .f64 F, .slice pv m cv] rfl rfl 33 _ T1.out ?s1 ?s2 ?s3 ?_)
 case s1 => exact size33
 case s2 => rfl
 case s3 => simp [Value.oneCell']
 refine bodyPost_ret (results_cell_row Tryz.results63 _ _ (w.heap.size + 1) 33 _ (0, 0) _ rfl (setRow_heap _ _ _ _ _ _ T1.out) Tryz.underlying33 rfl size33) rfl ⟨_, rfl, owns_base (owns_at O.out fun k hk => ?_) (by omega), below_setRow B1.out (by omega) _⟩
 rw [setRow_other _ _ _ _ (by omega), heap_setCell_other _ _ _ _ (by simp; omega)]
set_option maxHeartbeats 3200000 in
theorem impl_copiedSpan (K N : Int) (F : Nat) {p1 : Option Addr} {m : Nat} (c1 : Nat) (K2 N2 : Int) (F2 : Nat) {p2 : Option Addr} {m2 : Nat} (c2 : Nat) {Z Z2 : List Int} {w : World} (h : Reads w p1 m Z) (h2 : Reads w p2 m2 Z2) (hn : m ≤ 2097152) (hn2 : m2 ≤ 2097152) :
 Calls Tryz.prog 61 #[.agg #[.int .i64 K, .int .i64 N, .float .f64 F, .slice p1 m c1, .int .i64 K2, .int .i64 N2, .float .f64 F2, .slice p2 m2 c2]] w fun e w' => ∃ pv cv pv2 cv2, e = .returned (.agg #[.int .i64 K, .int .i64 N, .float .f64 F, .slice pv m cv, .int .i64 K2, .int .i64 N2, .float .f64 F2, .slice pv2 m2 cv2]) ∧ Bands w' w.heap.size w'.heap.size [.slice pv m cv, .slice pv2 m2 cv2] [Z, Z2] ∧ Below w.heap.size w w' := by
 have hst := fun w a m => run_store Tryz.prog w a (.float .f64 F) m rfl
 have hst2 := fun w a m => run_store Tryz.prog w a (.float .f64 F2) m rfl
 have hB := (two w (.cells #[.int .i64 K, .int .i64 N, .float .f64 F, .slice p1 m c1, .int .i64 K2, .int .i64 N2, .float .f64 F2, .slice p2 m2 c2] 78) (.cells #[.int .i64 0, .int .i64 0, .float .f64 0, .slice none 0 0, .int .i64 0, .int .i64 0, .float .f64 0, .slice none 0 0] 78)).drew
 obtain ⟨R1, R2, z⟩ := two_rows13 w (.cells #[.int .i64 K, .int .i64 N, .float .f64 F, .slice p1 m c1, .int .i64 K2, .int .i64 N2, .float .f64 F2, .slice p2 m2 c2] 78) (.cells #[.int .i64 0, .int .i64 0, .float .f64 0, .slice none 0 0, .int .i64 0, .int .i64 0, .float .f64 0, .slice none 0 0] 78)
 have HB := hid hB
 have HX := hid (show BoxS ((w.alloc (.cells #[.int .i64 K, .int .i64 N, .float .f64 F, .slice p1 m c1, .int .i64 K2, .int .i64 N2, .float .f64 F2, .slice p2 m2 c2] 78)).alloc (.cells #[.int .i64 0, .int .i64 0, .float .f64 0, .slice none 0 0, .int .i64 0, .int .i64 0, .float .f64 0, .slice none 0 0] 78)).drew w.heap.size K N F (.slice p1 m c1) K2 N2 F2 (.slice p2 m2 c2) from (BoxS.row R1).below ((Below.refl _ _).drew) (Nat.le_refl _))
 have HR2 := hid (show ((w.alloc (.cells #[.int .i64 K, .int .i64 N, .float .f64 F, .slice p1 m c1, .int .i64 K2, .int .i64 N2, .float .f64 F2, .slice p2 m2 c2] 78)).alloc (.cells #[.int .i64 0, .int .i64 0, .float .f64 0, .slice none 0 0, .int .i64 0, .int .i64 0, .float .f64 0, .slice none 0 0] 78)).drew.heap[w.heap.size + 1]? = _ from R2)
 have HZ := hid (show ((w.alloc (.cells #[.int .i64 K, .int .i64 N, .float .f64 F, .slice p1 m c1, .int .i64 K2, .int .i64 N2, .float .f64 F2, .slice p2 m2 c2] 78)).alloc (.cells #[.int .i64 0, .int .i64 0, .float .f64 0, .slice none 0 0, .int .i64 0, .int .i64 0, .float .f64 0, .slice none 0 0] 78)).drew.heap.size = w.heap.size + 2 from z)
 have H1 := hid (h.below hB (Nat.le_refl _))
 have H2 := hid (h2.below hB (Nat.le_refl _))
 have HLE := hid (And.intro h.len h2.len)
 have HBD := hid (And.intro h.bd h2.bd)
 clear hB R1 R2 z h h2
 go_enter Tryz.func61, Tryz.ntmps61
 go_wp2
 refine region_K 99 (fun W => BoxS W w.heap.size K N F (.slice p1 m c1) K2 N2 F2 (.slice p2 m2 c2)) (by kernel_rfl) ?_ (fun hHeld => ?_)
 · exact HX.out
 generalize ((w.alloc (.cells #[.int .i64 K, .int .i64 N, .float .f64 F, .slice p1 m c1, .int .i64 K2, .int .i64 N2, .float .f64 F2, .slice p2 m2 c2] 78)).alloc (.cells #[.int .i64 0, .int .i64 0, .float .f64 0, .slice none 0 0, .int .i64 0, .int .i64 0, .float .f64 0, .slice none 0 0] 78)).drew = v0 at *
 refine anyK_take2 (i := 0) (v := ?v0_1) rfl (by kernel_rfl) (by kernel_rfl) (by kernel_rfl) (by rfl) (fun _ _ _ h => h) (by rfl) hHeld ?hy0_1 (some 3) (by rfl) ?rest0_1
 case hy0_1 => (intro W hSw; obtain ⟨x0, x1, x2, x3, x4, x5, x6, x7⟩ := hSw; go_simp; (try with_reducible rfl))
 try simp only [Act.put, List.setIfInBounds_toArray, List.set_cons_succ, List.set_cons_zero]
 refine anyK_take2 (i := 1) (v := ?v1_2) rfl (by kernel_rfl) (by kernel_rfl) (by kernel_rfl) (by rfl) (fun _ _ _ h => h) (by rfl) hHeld ?hy1_2 (some 4) (by rfl) ?rest1_2
 case hy1_2 => (intro W hSw; obtain ⟨x0, x1, x2, x3, x4, x5, x6, x7⟩ := hSw; go_simp; (try with_reducible rfl))
 try simp only [Act.put, List.setIfInBounds_toArray, List.set_cons_succ, List.set_cons_zero]
 refine anyK_take2 (i := 3) (v := ?v3_3) rfl (by kernel_rfl) (by kernel_rfl) (by kernel_rfl) (by rfl) (fun _ _ _ h => h) (by rfl) hHeld ?hy3_3 (some 6) (by rfl) ?rest3_3
 case hy3_3 => (intro W hSw; obtain ⟨x0, x1, x2, x3, x4, x5, x6, x7⟩ := hSw; go_simp; (try with_reducible rfl))
 try simp only [Act.put, List.setIfInBounds_toArray, List.set_cons_succ, List.set_cons_zero]
 refine anyK_take2 (i := 4) (v := ?v4_4) rfl (by kernel_rfl) (by kernel_rfl) (by kernel_rfl) (by rfl) (fun _ _ _ h => h) (by rfl) hHeld ?hy4_4 (some 7) (by rfl) ?rest4_4
 case hy4_4 => (intro W hSw; obtain ⟨x0, x1, x2, x3, x4, x5, x6, x7⟩ := hSw; go_simp; (try with_reducible rfl))
 try simp only [Act.put, List.setIfInBounds_toArray, List.set_cons_succ, List.set_cons_zero]
 refine anyK_step (i := 2) (by kernel_rfl) rfl (fun KP hK => ?_)
 go_simp
 refine (impl_copiedItem K N F c1 H1.out hn).mono ?_
 rintro e w1 ⟨v, rfl, o1, b1⟩
 obtain ⟨pv, cv, rfl⟩ := own_sl o1
 have HO1 := hid o1
 have ht1 := hid (fun g e => (o1.lt g e).2)
 replace HX := hid (HX.out.below b1 (Nat.le_refl _))
 replace HB := hid (HB.out.trans (b1.mono HB.out.size))
 replace HR2 := hid ((b1.block (w.heap.size + 1) (by have := HZ.out; omega)).trans HR2.out)
 replace H2 := hid (H2.out.below b1 (Nat.le_refl _))
 have HS1 := hid b1.size
 clear o1 b1
 go_wp2_with fail
 clear hHeld
 refine hK.out _ _ HX.out (fun hHeld => ?_)
 clear hK KP
 try simp only [Act.put, List.setIfInBounds_toArray, List.set_cons_succ, List.set_cons_zero]
 refine anyK_step (i := 5) (by kernel_rfl) rfl (fun KP hK => ?_)
 go_simp
 refine (impl_copiedItem K2 N2 F2 c2 H2.out hn2).mono ?_
 rintro e w2 ⟨v, rfl, o2, b2⟩
 obtain ⟨pv2, cv2, rfl⟩ := own_sl o2
 have HO2 := hid o2
 have ht2 := hid (fun g e => (o2.lt g e).2)
 replace HO1 := hid (owns_below b2 (Nat.le_refl _) HO1.out)
 replace HX := hid (HX.out.below b2 (Nat.le_refl _))
 replace HB := hid (HB.out.trans (b2.mono HB.out.size))
 have HS2 := hid b2.size
 replace HR2 := hid ((b2.block (w.heap.size + 1) (by have := HZ.out; have := HS1.out; omega)).trans HR2.out)
 clear o2 b2
 go_wp2_with fail
 clear hHeld
 refine hK.out _ _ HX.out (fun hHeld => ?_)
 clear hK KP
 try simp only [Act.put, List.setIfInBounds_toArray, List.set_cons_succ, List.set_cons_zero]
 refine anyK_take2 (i := 6) (v := ?v6_5) rfl (by kernel_rfl) (by kernel_rfl) (by kernel_rfl) (by rfl) (fun _ _ _ h => h) (by rfl) hHeld ?hy6_5 (some 9) (by rfl) ?rest6_5
 case hy6_5 => (intro W hSw; obtain ⟨x0, x1, x2, x3, x4, x5, x6, x7⟩ := hSw; go_simp; (try with_reducible rfl))
 try simp only [Act.put, List.setIfInBounds_toArray, List.set_cons_succ, List.set_cons_zero]
 refine anyK_step (i := 7) (by kernel_rfl) rfl (fun KP hK => ?_)
 refine step_store_row13 rfl 78 (.tmp 2) (.tmp 9) rfl (w.heap.size + 1) #[.int .i64 K, .int .i64 N, .float .f64 F, .slice pv m cv, .int .i64 K2, .int .i64 N2, .float .f64 F2, .slice pv2 m2 cv2] rfl rfl 78 _ HR2.out size_sp rfl ?_ ?_
 · simp [Value.oneCell']
 have hXS : BoxS (w2.setRow (w.heap.size + 1) #[.int .i64 K, .int .i64 N, .float .f64 F, .slice pv m cv, .int .i64 K2, .int .i64 N2, .float .f64 F2, .slice pv2 m2 cv2]) w.heap.size K N F (.slice p1 m c1) K2 N2 F2 (.slice p2 m2 c2) := by
  have e := setRow_other w2 (w.heap.size + 1) w.heap.size #[.int .i64 K, .int .i64 N, .float .f64 F, .slice pv m cv, .int .i64 K2, .int .i64 N2, .float .f64 F2, .slice pv2 m2 cv2] (by omega)
  have q := HX.out
  exact ⟨(World.cell?_of_block (w := w2) (a := ⟨w.heap.size, 0, none⟩) e).trans q.c0, (World.cell?_of_block (w := w2) (a := ⟨w.heap.size, 1, none⟩) e).trans q.c1, (World.cell?_of_block (w := w2) (a := ⟨w.heap.size, 2, none⟩) e).trans q.c2, (World.cell?_of_block (w := w2) (a := ⟨w.heap.size, 3, none⟩) e).trans q.c3, (World.cell?_of_block (w := w2) (a := ⟨w.heap.size, 4, none⟩) e).trans q.c4, (World.cell?_of_block (w := w2) (a := ⟨w.heap.size, 5, none⟩) e).trans q.c5, (World.cell?_of_block (w := w2) (a := ⟨w.heap.size, 6, none⟩) e).trans q.c6, (World.cell?_of_block (w := w2) (a := ⟨w.heap.size, 7, none⟩) e).trans q.c7⟩
 have HF2 := hid (setRow_heap w2 (w.heap.size + 1) _ #[.int .i64 K, .int .i64 N, .float .f64 F, .slice pv m cv, .int .i64 K2, .int .i64 N2, .float .f64 F2, .slice pv2 m2 cv2] _ _ HR2.out)
 have HBF := hid (below_setRow HB.out (show w.heap.size ≤ w.heap.size + 1 by omega) #[.int .i64 K, .int .i64 N, .float .f64 F, .slice pv m cv, .int .i64 K2, .int .i64 N2, .float .f64 F2, .slice pv2 m2 cv2])
 have HZF := hid (setRow_size w2 (w.heap.size + 1) #[.int .i64 K, .int .i64 N, .float .f64 F, .slice pv m cv, .int .i64 K2, .int .i64 N2, .float .f64 F2, .slice pv2 m2 cv2])
 have hOF : ∀ k, v0.heap.size ≤ k → (w2.setRow (w.heap.size + 1) #[.int .i64 K, .int .i64 N, .float .f64 F, .slice pv m cv, .int .i64 K2, .int .i64 N2, .float .f64 F2, .slice pv2 m2 cv2]).heap[k]? = w2.heap[k]? := fun k hk => setRow_other _ _ _ _ (by have := HZ.out; omega)
 have HBn := hid (show Bands (w2.setRow (w.heap.size + 1) #[.int .i64 K, .int .i64 N, .float .f64 F, .slice pv m cv, .int .i64 K2, .int .i64 N2, .float .f64 F2, .slice pv2 m2 cv2]) w.heap.size (w2.setRow (w.heap.size + 1) #[.int .i64 K, .int .i64 N, .float .f64 F, .slice pv m cv, .int .i64 K2, .int .i64 N2, .float .f64 F2, .slice pv2 m2 cv2]).heap.size [.slice pv m cv, .slice pv2 m2 cv2] [Z, Z2] by
  have hle := HLE.out
  have hz := HZ.out
  have hs1 := HS1.out
  have hs2 := HS2.out
  have O1 := owns_at HO1.out (fun k hk => hOF k hk)
  have O2 := owns_at HO2.out (fun k hk => hOF k (by omega))
  have B1 : Bands (w2.setRow (w.heap.size + 1) #[.int .i64 K, .int .i64 N, .float .f64 F, .slice pv m cv, .int .i64 K2, .int .i64 N2, .float .f64 F2, .slice pv2 m2 cv2]) v0.heap.size w1.heap.size [.slice pv m cv] [Z] := Bands.one_top (by rw [hle.1]; exact O1) HBD.out.1 (fun g e => ht1.out g e)
  have B2 : Bands (w2.setRow (w.heap.size + 1) #[.int .i64 K, .int .i64 N, .float .f64 F, .slice pv m cv, .int .i64 K2, .int .i64 N2, .float .f64 F2, .slice pv2 m2 cv2]) w1.heap.size (w2.setRow (w.heap.size + 1) #[.int .i64 K, .int .i64 N, .float .f64 F, .slice pv m cv, .int .i64 K2, .int .i64 N2, .float .f64 F2, .slice pv2 m2 cv2]).heap.size [.slice pv2 m2 cv2] [Z2] := Bands.one_top (by rw [hle.2]; exact O2) HBD.out.2 (fun g e => by rw [HZF.out]; exact ht2.out g e)
  exact (B1.append B2 (by omega) (by rw [HZF.out]; omega)).mono (by omega) (Nat.le_refl _))
 have HXS := hid hXS
 clear hXS hOF hHeld
 refine hK.out _ _ HXS.out (fun hHeld => ?_)
 clear hK KP
 try simp only [Act.put]
 try simp only [List.setIfInBounds_toArray]
 refine anyK_done (by kernel_rfl) ?_ _
 clear hHeld
 go_wp2_with fail
 refine bodyPost_ret (results_cell_row Tryz.results61 _ _ (w.heap.size + 1) 78 _ (0, 0) _ rfl HF2.out Tryz.underlying78 rfl size_sp) rfl ⟨_, _, _, _, rfl, HBn.out, HBF.out⟩
set_option maxHeartbeats 6400000 in
theorem impl_copiedItems {ad : Option Addr} {n : Nat} (cap : Nat) {es : List Im} {w : World} (h : ReadsM w ad es) (hl : es.length = n) (hn : n ≤ 1048576) (hs : ∀ j, (es.getD j im0).Z.length ≤ 2097152) :
 Calls Tryz.prog 62 #[.slice ad n cap, .func (.func 63) #[] #[]] w fun e w' => ∃ v, e = .returned v ∧ OwnM 33 4 w' w.heap.size w'.heap.size v n es ∧ Below w.heap.size w w' := by
 obtain ⟨i0, hi, hz0, hz1, hz2⟩ := info_parts Tryz.infoIm
 go_enter Tryz.func62, Tryz.ntmps62
 go_wp2_with fail
 go_loopw [5, 10] (fun s3 i wr => ∃ (k : Nat) (a : Option Addr) (c : Nat), k ≤ n ∧ i = .int .i64 k ∧ s3 = .slice a k c ∧ Hid (OwnM 33 4 wr w.heap.size wr.heap.size (.slice a k c) k (es.take k)) ∧ Hid (Below w.heap.size w wr)) (fun _ i _ => n - (intOf i).toNat)
 case atStart => exact ⟨0, none, 0, Nat.zero_le _, rfl, rfl, hid (OwnM.nil _ _ _ _ _), hid (Below.refl _ _)⟩
 case round =>
  obtain ⟨k, a, c, hk, rfl, rfl, HO, HB⟩ := hrel
  by_cases hlt : k < n
  · have hlt' : (k : Int) < (n : Int) := by omega
    have hk0 : (0 : Int) ≤ (k : Int) := by omega
    obtain ⟨b, off, p1, c1, rfl, bx0, r0, _, _, hf⟩ := h.at (k := k) (by omega)
    obtain ⟨x0, x1, x2, x3⟩ := bx0.below HB.out (Nat.le_refl _)
    have hz := hs k
    have HT := hid (take_snocI es k (by omega))
    have HBD := hid r0.bd
    have HF := hid hf
    generalize es.getD k im0 = e at *
    obtain ⟨K, N, F, Z⟩ := e
    obtain ⟨m, hm⟩ : ∃ m, Z.length = m := ⟨_, rfl⟩
    simp only at x0 x1 x2 x3 r0 hz HBD HF
    rw [hm] at x3 r0 hz
    have HM := hid hm
    have hst := fun w a m => run_store Tryz.prog w a (.float .f64 F) m rfl
    have b0 := Below.alloc1 wr (.cells #[.int .i64 K, .int .i64 N, .float .f64 F, .slice p1 m c1] 33)
    have z0 := alloc_size wr (.cells #[.int .i64 K, .int .i64 N, .float .f64 F, .slice p1 m c1] 33)
    have HBA := hid (HB.out.trans (b0.mono HB.out.size))
    have R0 := hid (r0.below HBA.out (Nat.le_refl _))
    have HO0 := hid (HO.out.below b0 (Nat.le_refl _))
    have HS0 := hid (And.intro HB.out.size z0)
    clear bx0 r0 hm hf
    clear b0 z0 HO
    go_wp2_with fail
    clear x0 x1 x2 x3
    refine (impl_copiedItem K N F c1 R0.out hz).mono ?_
    rintro e w1 ⟨v, rfl, o1, b1⟩
    obtain ⟨pv, cv, rfl⟩ := own_sl o1
    have HOT := hid (show Bands w1 (wr.alloc (.cells #[.int .i64 K, .int .i64 N, .float .f64 F, .slice p1 m c1] 33)).heap.size w1.heap.size [.slice pv m cv] [Z] from Bands.one (by rw [HM.out]; exact o1) HBD.out (Nat.le_refl _))
    have hs0 := HS0.out
    have hs1 := b1.size
    have oM := HO0.out.below b1 (by omega)
    have bA := Below.alloc1 w1 (.cells #[.int .i64 K, .int .i64 N, .float .f64 F, .slice pv m cv] 33)
    have zA := alloc_size w1 (.cells #[.int .i64 K, .int .i64 N, .float .f64 F, .slice pv m cv] 33)
    have HN := hid (heap_alloc_new w1 (.cells #[.int .i64 K, .int .i64 N, .float .f64 F, .slice pv m cv] 33))
    obtain ⟨xs, oR, oB⟩ := (oM.below bA (by omega)).own
    have HOR := hid oR
    have HOB := hid oB
    have HOTA := hid (HOT.out.agree (Agree.below bA (Nat.le_refl _)))
    have HFL := hid oM.fl
    have HLN := hid oM.len
    have HBB := hid ((HBA.out.trans (b1.mono HBA.out.size)).trans (bA.mono (by omega)))
    have HSS := hid (show w.heap.size ≤ wr.heap.size ∧ wr.heap.size + 1 ≤ w1.heap.size ∧ (wr.alloc (.cells #[.int .i64 K, .int .i64 N, .float .f64 F, .slice p1 m c1] 33)).heap.size = wr.heap.size + 1 ∧ (w1.alloc (.cells #[.int .i64 K, .int .i64 N, .float .f64 F, .slice pv m cv] 33)).heap.size = w1.heap.size + 1 from ⟨hs0.1, by omega, hs0.2, zA⟩)
    clear oM bA zA oR oB hs0 hs1 HO0
    clear o1 b1
    go_wp2_with (at_builtin; refine wpList_append_row rfl _ _ 50 rfl w.heap.size 33 i0 (.agg #[.int .i64 0, .int .i64 0, .float .f64 0, .slice none 0 0]) 4 48 Tryz.underlying50 hi hz0 hz1 hz2 rfl (by decide) _ k (cellsI (es.take k) xs) rfl HOR.out (some ⟨w1.heap.size, 0, none⟩) 1 1 [.int .i64 K, .int .i64 N, .float .f64 F, .slice pv m cv] rfl rfl (.inr ⟨_, rfl, World.news_of_block HN.out⟩) (fun e => by cases e) ?m1 ?m2 ?m3 ?m4 ?_)
    case m1 => intro z hz; simp only [List.mem_cons, List.not_mem_nil, or_false] at hz; rcases hz with rfl | rfl | rfl | rfl <;> rfl
    case m2 => unfold maxLen; omega
    case m3 => omega
    case m4 => have := HSS.out; omega
    intro a2 c2 w5 o5 g5
    have N1 := hid (show OwnM 33 4 w5 w.heap.size w5.heap.size (.slice a2 (k + 1) c2) (k + 1) (es.take (k + 1)) by
     rw [HT.out]
     have hss := HSS.out
     exact OwnM.push (mid := wr.heap.size) HOR.out HLN.out HOB.out HFL.out hss.1 (by omega) (by decide) (fs := [⟨K, N, F, Z⟩]) (ys := [.slice pv m cv]) (HOTA.out.mono (by omega) (by omega)) rfl (fun i => by
      cases i with
      | zero => exact HF.out
      | succ i => simp [im0]) o5 g5)
    have N2 := hid (HBB.out.grown g5 HBB.out.size (fun r e => (HOR.out.lt r e).1))
    clear o5 g5 HOR HOB HOT HN HSS HBB
    go_wp2_with fail
    go_roundw
    case rel => exact ⟨k + 1, a2, c2, by omega, by go_num, rfl, N1, N2⟩
    case measure => simp [intOf]; omega
  · have hlt' : ¬ (k : Int) < (n : Int) := by omega
    have hkn : k = n := by omega
    subst hkn
    go_wp2_with fail
    go_ret
    have e1 := HO.out
    rw [List.take_of_length_le (by omega)] at e1
    exact ⟨_, rfl, e1, HB.out⟩
set_option maxHeartbeats 6400000 in
theorem impl_copiedSpans {ad : Option Addr} {n : Nat} (cap : Nat) {es : List Im} {w : World} (h : ReadsM w ad es) (hl : es.length = n * 2) (hn : n ≤ 1048576) (hs : ∀ j, (es.getD j im0).Z.length ≤ 2097152) :
 Calls Tryz.prog 60 #[.slice ad n cap, .func (.func 61) #[] #[]] w fun e w' => ∃ v, e = .returned v ∧ OwnM 78 8 w' w.heap.size w'.heap.size v n es ∧ Below w.heap.size w w' := by
 obtain ⟨i0, hi, hz0, hz1, hz2⟩ := info_parts Tryz.infoSp
 go_enter Tryz.func60, Tryz.ntmps60
 go_wp2_with fail
 go_loopw [5, 10] (fun s3 i wr => ∃ (k : Nat) (a : Option Addr) (c : Nat), k ≤ n ∧ i = .int .i64 k ∧ s3 = .slice a k c ∧ Hid (OwnM 78 8 wr w.heap.size wr.heap.size (.slice a k c) k (es.take (k * 2))) ∧ Hid (Below w.heap.size w wr)) (fun _ i _ => n - (intOf i).toNat)
 case atStart => exact ⟨0, none, 0, Nat.zero_le _, rfl, rfl, hid (OwnM.nil _ _ _ _ _), hid (Below.refl _ _)⟩
 case round =>
  obtain ⟨k, a, c, hk, rfl, rfl, HO, HB⟩ := hrel
  by_cases hlt : k < n
  · have hlt' : (k : Int) < (n : Int) := by omega
    have hk0 : (0 : Int) ≤ (k : Int) := by omega
    obtain ⟨b, off, p1, c1, rfl, bx0, r0, _, _, hf⟩ := h.at (k := k * 2) (by omega)
    obtain ⟨b', off', p2, c2, e', bx1, r1, _, _, hf2⟩ := h.at (k := k * 2 + 1) (by omega)
    obtain ⟨rfl, rfl⟩ : b = b' ∧ off = off' := by simpa using e'
    rw [show off + k * 2 * 4 = off + k * 8 by omega] at bx0
    rw [show off + (k * 2 + 1) * 4 = off + k * 8 + 4 by omega] at bx1
    obtain ⟨x0, x1, x2, x3⟩ := bx0.below HB.out (Nat.le_refl _)
    obtain ⟨x4, x5, x6, x7⟩ := bx1.below HB.out (Nat.le_refl _)
    have hz := hs (k * 2)
    have hzb := hs (k * 2 + 1)
    have HT := hid (take_snocI2 es k (by omega))
    have HF := hid (And.intro hf hf2)
    generalize es.getD (k * 2) im0 = e at *
    generalize es.getD (k * 2 + 1) im0 = e2 at *
    obtain ⟨K, N, F, Z⟩ := e
    obtain ⟨K2, N2, F2, Z2⟩ := e2
    obtain ⟨m, hm⟩ : ∃ m, Z.length = m := ⟨_, rfl⟩
    obtain ⟨m2, hm2⟩ : ∃ m, Z2.length = m := ⟨_, rfl⟩
    simp only at x0 x1 x2 x3 x4 x5 x6 x7 r0 r1 hz hzb HF
    rw [hm] at x3 r0 hz
    rw [hm2] at x7 r1 hzb
    have hst := fun w a m => run_store Tryz.prog w a (.float .f64 F) m rfl
    have hst2 := fun w a m => run_store Tryz.prog w a (.float .f64 F2) m rfl
    have b0 := Below.alloc1 wr (.cells #[.int .i64 K, .int .i64 N, .float .f64 F, .slice p1 m c1, .int .i64 K2, .int .i64 N2, .float .f64 F2, .slice p2 m2 c2] 78)
    have z0 := alloc_size wr (.cells #[.int .i64 K, .int .i64 N, .float .f64 F, .slice p1 m c1, .int .i64 K2, .int .i64 N2, .float .f64 F2, .slice p2 m2 c2] 78)
    have HBA := hid (HB.out.trans (b0.mono HB.out.size))
    have R0 := hid (r0.below HBA.out (Nat.le_refl _))
    have R1 := hid (r1.below HBA.out (Nat.le_refl _))
    have HO0 := hid (HO.out.below b0 (Nat.le_refl _))
    have HS0 := hid (And.intro HB.out.size z0)
    clear bx0 r0 bx1 r1 hm hm2 hf hf2 e'
    clear b0 z0 HO
    go_wp2_with fail
    clear x0 x1 x2 x3 x4 x5 x6 x7
    refine (impl_copiedSpan K N F c1 K2 N2 F2 c2 R0.out R1.out hz hzb).mono ?_
    rintro e w1 ⟨pv, cv, pv2, cv2, rfl, oB1, b1⟩
    have HOT := hid oB1
    have hs0 := HS0.out
    have hs1 := b1.size
    have oM := HO0.out.below b1 (by omega)
    have bA := Below.alloc1 w1 (.cells #[.int .i64 K, .int .i64 N, .float .f64 F, .slice pv m cv, .int .i64 K2, .int .i64 N2, .float .f64 F2, .slice pv2 m2 cv2] 78)
    have zA := alloc_size w1 (.cells #[.int .i64 K, .int .i64 N, .float .f64 F, .slice pv m cv, .int .i64 K2, .int .i64 N2, .float .f64 F2, .slice pv2 m2 cv2] 78)
    have HN := hid (heap_alloc_new w1 (.cells #[.int .i64 K, .int .i64 N, .float .f64 F, .slice pv m cv, .int .i64 K2, .int .i64 N2, .float .f64 F2, .slice pv2 m2 cv2] 78))
    obtain ⟨xs, oR, oB⟩ := (oM.below bA (by omega)).own
    have HOR := hid oR
    have HOB := hid oB
    have HOTA := hid (HOT.out.agree (Agree.below bA (Nat.le_refl _)))
    have HFL := hid oM.fl
    have HLN := hid oM.len
    have HBB := hid ((HBA.out.trans (b1.mono HBA.out.size)).trans (bA.mono (by omega)))
    have HSS := hid (show w.heap.size ≤ wr.heap.size ∧ wr.heap.size + 1 ≤ w1.heap.size ∧ (wr.alloc (.cells #[.int .i64 K, .int .i64 N, .float .f64 F, .slice p1 m c1, .int .i64 K2, .int .i64 N2, .float .f64 F2, .slice p2 m2 c2] 78)).heap.size = wr.heap.size + 1 ∧ (w1.alloc (.cells #[.int .i64 K, .int .i64 N, .float .f64 F, .slice pv m cv, .int .i64 K2, .int .i64 N2, .float .f64 F2, .slice pv2 m2 cv2] 78)).heap.size = w1.heap.size + 1 from ⟨hs0.1, by omega, hs0.2, zA⟩)
    clear oM bA zA oR oB hs0 hs1 HO0
    clear oB1 b1
    go_wp2_with (at_builtin; refine wpList_append_row rfl _ _ 49 rfl w.heap.size 78 i0 (.agg #[.int .i64 0, .int .i64 0, .float .f64 0, .slice none 0 0, .int .i64 0, .int .i64 0, .float .f64 0, .slice none 0 0]) 8 96 Tryz.underlying49 hi hz0 hz1 hz2 rfl (by decide) _ k (cellsI (es.take (k * 2)) xs) rfl HOR.out (some ⟨w1.heap.size, 0, none⟩) 1 1 [.int .i64 K, .int .i64 N, .float .f64 F, .slice pv m cv, .int .i64 K2, .int .i64 N2, .float .f64 F2, .slice pv2 m2 cv2] rfl rfl (.inr ⟨_, rfl, World.news_of_block HN.out⟩) (fun e => by cases e) ?m1 ?m2 ?m3 ?m4 ?_)
    case m1 => intro z hz; simp only [List.mem_cons, List.not_mem_nil, or_false] at hz; rcases hz with rfl | rfl | rfl | rfl | rfl | rfl | rfl | rfl <;> rfl
    case m2 => unfold maxLen; omega
    case m3 => omega
    case m4 => have := HSS.out; omega
    intro a2 c2 w5 o5 g5
    have N1 := hid (show OwnM 78 8 w5 w.heap.size w5.heap.size (.slice a2 (k + 1) c2) (k + 1) (es.take ((k + 1) * 2)) by
     rw [HT.out]
     have hss := HSS.out
     exact OwnM.push (mid := wr.heap.size) HOR.out HLN.out HOB.out HFL.out hss.1 (by omega) (by decide) (fs := [⟨K, N, F, Z⟩, ⟨K2, N2, F2, Z2⟩]) (ys := [.slice pv m cv, .slice pv2 m2 cv2]) (HOTA.out.mono (by omega) (by omega)) rfl (fun i => by
      cases i with
      | zero => exact HF.out.1
      | succ i =>
       cases i with
       | zero => exact HF.out.2
       | succ i => simp [im0]) o5 g5)
    have N2 := hid (HBB.out.grown g5 HBB.out.size (fun r e => (HOR.out.lt r e).1))
    clear o5 g5 HOR HOB HOT HN HSS HBB
    go_wp2_with fail
    go_roundw
    case rel => exact ⟨k + 1, a2, c2, by omega, by go_num, rfl, N1, N2⟩
    case measure => simp [intOf]; omega
  · have hlt' : ¬ (k : Int) < (n : Int) := by omega
    have hkn : k = n := by omega
    subst hkn
    go_wp2_with fail
    go_ret
    have e1 := HO.out
    rw [List.take_of_length_le (by omega)] at e1
    exact ⟨_, rfl, e1, HB.out⟩
end Go.Proofs.YtnhlfkffllbpiaaGreat
