/- FnExactOpOk's walk. Conditions: none but what the arguments' types say. -/
import Derived.Test.YtnbpblephmjfnaaQd15
import Derived.Test.YtnbpblephmjfnaaEm13
namespace Go.Proofs.Ytnbpblephmjfnaa
open Go.RowKit
set_option maxRecDepth 100000
theorem size_lop : (Try.prog.info? 28).map (·.size) = some 17 := by kernel_rfl
structure RowO (w : World) (g : Nat) (xs : Array Value) (t : TypeId) : Prop where
 h : w.heap[g]? = some (.cells xs t)
theorem RowO.below {w w' : World} {g : Nat} {xs : Array Value} {t : TypeId} (q : RowO w g xs t) {B : Nat} (hb : Below B w w') (hB : w.heap.size ≤ B) : RowO w' g xs t := ⟨(hb.block g (by have := (Array.getElem?_eq_some_iff.1 q.h).1; omega)).trans q.h⟩
theorem exec_load_row {P : Program} {o : Oper} {a : Act} {w : World} (ty : TypeId) (x : Operand) (ho : o.op = .load ty x)
 (g : Nat) (hx : a.eval x = .pointer (some ⟨g, 0, none⟩)) (t : TypeId) (cs : Array Value) (fr : Nat × Nat) (d : TypeDesc) (hg : w.heap[g]? = some (.cells cs t fr))
 (hu : P.underlying ty = some d) (hd : (match d with | .struct _ | .array _ _ => true | _ => false) = true) (hi : (P.info? ty).map (·.size) = some cs.size) :
 (execOp a.eval o).run P w = .ok (.value (.agg cs)) w := by
 unfold execOp
 simp only [ho, hx, Instr.loadAt, Instr.sureAddr, Sem.run_bind, Sem.run_pure, Result.andThen_ok, run_loadVar_row w g t ty cs fr d hg hu hd hi]
set_option maxHeartbeats 12800000 in
theorem exactOpOk (kd se le nn : Int) (K1 N1 : Int) (f1 : Nat) {ad1 : Option Addr} {n1 : Nat} (c1 : Nat) (K2 N2 : Int) (f2 : Nat) {ad2 : Option Addr} {n2 : Nat} (c2 : Nat) (K3 N3 : Int) (f3 : Nat) {ad3 : Option Addr} {n3 : Nat} (c3 : Nat) {ab : Option Addr} {nb : Nat} (cb : Nat) {z1 z2 z3 : List Int} {bs : List Bool} {w : World} (r1 : Reads w ad1 n1 z1) (r2 : Reads w ad2 n2 z2) (r3 : Reads w ad3 n3 z3) (rb : ReadsB w ab nb bs) (hf1 : f1 < 18446744073709551616) (hf2 : f2 < 18446744073709551616) (hf3 : f3 < 18446744073709551616) (hm1 : n1 ≤ maxLen) (hm2 : n2 ≤ maxLen) (hm3 : n3 ≤ maxLen) (hmb : nb ≤ maxLen) :
 Calls Try.prog 3 #[.agg #[.int .i64 kd, .int .i64 se, .int .i64 le, .int .i64 nn, .int .i64 K1, .int .i64 N1, .float .f64 f1, .slice ad1 n1 c1, .int .i64 K2, .int .i64 N2, .float .f64 f2, .slice ad2 n2 c2, .int .i64 K3, .int .i64 N3, .float .f64 f3, .slice ad3 n3 c3, .slice ab nb cb]] w fun e w' => e = .returned (.bool true) ∧ Below w.heap.size w w' := by
 unfold maxLen at hm1 hm2 hm3 hmb
 have hst1 := fun w a m => run_store Try.prog w a (.float .f64 f1) m rfl
 have hst2 := fun w a m => run_store Try.prog w a (.float .f64 f2) m rfl
 have hst3 := fun w a m => run_store Try.prog w a (.float .f64 f3) m rfl
 have hB := Below.alloc1 w (.cells #[.int .i64 kd, .int .i64 se, .int .i64 le, .int .i64 nn, .int .i64 K1, .int .i64 N1, .float .f64 f1, .slice ad1 n1 c1, .int .i64 K2, .int .i64 N2, .float .f64 f2, .slice ad2 n2 c2, .int .i64 K3, .int .i64 N3, .float .f64 f3, .slice ad3 n3 c3, .slice ab nb cb] 28)
 have HB := hid hB
 have HA := hid (RowO.mk (heap_alloc_new w (.cells #[.int .i64 kd, .int .i64 se, .int .i64 le, .int .i64 nn, .int .i64 K1, .int .i64 N1, .float .f64 f1, .slice ad1 n1 c1, .int .i64 K2, .int .i64 N2, .float .f64 f2, .slice ad2 n2 c2, .int .i64 K3, .int .i64 N3, .float .f64 f3, .slice ad3 n3 c3, .slice ab nb cb] 28)))
 have R1 := hid (r1.below hB (Nat.le_refl _))
 have R2 := hid (r2.below hB (Nat.le_refl _))
 have R3 := hid (r3.below hB (Nat.le_refl _))
 have RB := hid (rb.below hB (Nat.le_refl _))
 clear hB r1 r2 r3 rb
 go_enter Try.func3, Try.ntmps3
 go_wp2_with (refine wpList_load_row rfl 28 (.tmp 1) rfl w.heap.size rfl 28 _ (0, 0) _ HA.out.h Try.underlying28 rfl size_lop ?_)
 generalize w.alloc (.cells #[.int .i64 kd, .int .i64 se, .int .i64 le, .int .i64 nn, .int .i64 K1, .int .i64 N1, .float .f64 f1, .slice ad1 n1 c1, .int .i64 K2, .int .i64 N2, .float .f64 f2, .slice ad2 n2 c2, .int .i64 K3, .int .i64 N3, .float .f64 f3, .slice ad3 n3 c3, .slice ab nb cb] 28) = W0 at *
 refine (szOp kd se le nn K1 N1 f1 ad1 n1 c1 K2 N2 f2 ad2 n2 c2 K3 N3 f3 ad3 n3 c3 ab nb cb 1048576 (by omega) (by omega) (by omega) (by omega) (by omega) (by omega) _).mono ?_
 rintro e w1 ⟨rfl, b⟩
 replace HA := hid (HA.out.below b (Nat.le_refl _))
 replace R1 := hid (R1.out.below b (Nat.le_refl _))
 replace R2 := hid (R2.out.below b (Nat.le_refl _))
 replace R3 := hid (R3.out.below b (Nat.le_refl _))
 replace RB := hid (RB.out.below b (Nat.le_refl _))
 replace HB := hid (HB.out.trans (b.mono HB.out.size))
 clear b
 by_cases hbig : (1048576 : Int) < ((n1 + n2 + n3 + nb : Nat) : Int)
 · rw [show lft13 1048576 (n1 + n2 + n3 + nb) = -1 by unfold lft13; rw [if_pos hbig]]
   go_wp2_with fail
   go_ret
   exact ⟨rfl, HB.out⟩
 obtain ⟨LF, hLF⟩ : ∃ LF : Int, (1048576 : Int) - ((n1 + n2 + n3 + nb : Nat) : Int) = LF := ⟨_, rfl⟩
 rw [show lft13 1048576 (n1 + n2 + n3 + nb) = LF by unfold lft13; rw [if_neg hbig, hLF]]
 have hq0 : ¬ LF < 0 := by omega
 have hn1 : n1 ≤ 1048576 := by omega
 have hn2 : n2 ≤ 1048576 := by omega
 have hn3 : n3 ≤ 1048576 := by omega
 have hnb : nb ≤ 1048576 := by omega
 clear hbig hLF hm1 hm2 hm3 hmb
 go_wp2_with (refine wpList_load_row rfl 28 (.tmp 1) rfl w.heap.size rfl 28 _ (0, 0) _ HA.out.h Try.underlying28 rfl size_lop ?_)
 clear hq0
 refine (toOp kd se le nn K1 N1 f1 c1 K2 N2 f2 c2 K3 N3 f3 c3 cb R1.out R2.out R3.out RB.out (by omega) (by omega) (by omega) (by omega)).mono ?_
 rintro e w2 ⟨p1, p2, p3, p4, rfl, P1, P2, -, -, b⟩
 replace HA := hid (HA.out.below b (Nat.le_refl _))
 replace R1 := hid (R1.out.below b (Nat.le_refl _))
 replace R2 := hid (R2.out.below b (Nat.le_refl _))
 replace R3 := hid (R3.out.below b (Nat.le_refl _))
 replace RB := hid (RB.out.below b (Nat.le_refl _))
 replace HB := hid (HB.out.trans (b.mono HB.out.size))
 clear b
 go_wp2_with fail
 refine (show Calls _ _ #[OpV kd se le nn K1 N1 f1 (some ⟨p1, 0, none⟩) n1 n1 K2 N2 f2 (some ⟨p2, 0, none⟩) n2 n2 K3 N3 f3 (some ⟨p3, 0, none⟩) n3 n3 (some ⟨p4, 0, none⟩) nb nb] _ _ from spec_OpOk P1 P2 hf1 hf2 hf3 (by omega) (by omega) (by omega) (fun q => by cases q) (fun q => by cases q)).mono ?_
 clear P1 P2
 rintro e w3 ⟨rfl, b⟩
 replace HA := hid (HA.out.below b (Nat.le_refl _))
 replace R1 := hid (R1.out.below b (Nat.le_refl _))
 replace R2 := hid (R2.out.below b (Nat.le_refl _))
 replace R3 := hid (R3.out.below b (Nat.le_refl _))
 replace RB := hid (RB.out.below b (Nat.le_refl _))
 replace HB := hid (HB.out.trans (b.mono HB.out.size))
 clear b
 obtain ⟨S, hS⟩ : ∃ S, opB kd se le nn (cKey K1 N1 f1 n1) (cKey K2 N2 f2 n2) (cKey K3 N3 f3 n3) nb = S := ⟨_, rfl⟩
 rw [hS]
 have HS := hid hS
 have q2 : (S != S) = false := by simp
 clear hS
 go_wp2_with (refine wpList_load_row rfl 28 (.tmp 1) rfl w.heap.size rfl 28 _ (0, 0) _ HA.out.h Try.underlying28 rfl size_lop ?_)
 refine (toOp kd se le nn K1 N1 f1 c1 K2 N2 f2 c2 K3 N3 f3 c3 cb R1.out R2.out R3.out RB.out (by omega) (by omega) (by omega) (by omega)).mono ?_
 rintro e w4 ⟨x1, x2, x3, x4, rfl, o1, o2, o3, o4, b⟩
 replace HA := hid (HA.out.below b (Nat.le_refl _))
 replace R1 := hid (R1.out.below b (Nat.le_refl _))
 replace R2 := hid (R2.out.below b (Nat.le_refl _))
 replace R3 := hid (R3.out.below b (Nat.le_refl _))
 replace RB := hid (RB.out.below b (Nat.le_refl _))
 replace HB := hid (HB.out.trans (b.mono HB.out.size))
 clear b
 have X1 := hid o1
 have X2 := hid o2
 have X3 := hid o3
 have X4 := hid o4
 clear o1 o2 o3 o4
 have BX := hid (RowO.mk (heap_alloc_new w4 (.cells #[.int .i64 kd, .int .i64 se, .int .i64 le, .int .i64 nn, .int .i64 K1, .int .i64 N1, .float .f64 f1, .slice (some ⟨x1, 0, none⟩) n1 n1, .int .i64 K2, .int .i64 N2, .float .f64 f2, .slice (some ⟨x2, 0, none⟩) n2 n2, .int .i64 K3, .int .i64 N3, .float .f64 f3, .slice (some ⟨x3, 0, none⟩) n3 n3, .slice (some ⟨x4, 0, none⟩) nb nb] 33)))
 have b := Below.alloc1 w4 (.cells #[.int .i64 kd, .int .i64 se, .int .i64 le, .int .i64 nn, .int .i64 K1, .int .i64 N1, .float .f64 f1, .slice (some ⟨x1, 0, none⟩) n1 n1, .int .i64 K2, .int .i64 N2, .float .f64 f2, .slice (some ⟨x2, 0, none⟩) n2 n2, .int .i64 K3, .int .i64 N3, .float .f64 f3, .slice (some ⟨x3, 0, none⟩) n3 n3, .slice (some ⟨x4, 0, none⟩) nb nb] 33)
 replace HA := hid (HA.out.below b (Nat.le_refl _))
 replace R1 := hid (R1.out.below b (Nat.le_refl _))
 replace R2 := hid (R2.out.below b (Nat.le_refl _))
 replace R3 := hid (R3.out.below b (Nat.le_refl _))
 replace RB := hid (RB.out.below b (Nat.le_refl _))
 replace X1 := hid (X1.out.below b (Nat.le_refl _))
 replace X2 := hid (X2.out.below b (Nat.le_refl _))
 replace X3 := hid (X3.out.below b (Nat.le_refl _))
 replace X4 := hid (X4.out.below b (Nat.le_refl _))
 replace HB := hid (HB.out.trans (b.mono HB.out.size))
 clear b
 go_wp2_with (refine wpList_load_row rfl 33 (.tmp 5) rfl w4.heap.size rfl 33 _ (0, 0) _ BX.out.h Try.underlying33 rfl size_op ?_)
 generalize w4.alloc (.cells #[.int .i64 kd, .int .i64 se, .int .i64 le, .int .i64 nn, .int .i64 K1, .int .i64 N1, .float .f64 f1, .slice (some ⟨x1, 0, none⟩) n1 n1, .int .i64 K2, .int .i64 N2, .float .f64 f2, .slice (some ⟨x2, 0, none⟩) n2 n2, .int .i64 K3, .int .i64 N3, .float .f64 f3, .slice (some ⟨x3, 0, none⟩) n3 n3, .slice (some ⟨x4, 0, none⟩) nb nb] 33) = W1 at *
 obtain ⟨gx, hgx⟩ : ∃ gx, w4.heap.size = gx := ⟨_, rfl⟩
 rw [hgx] at BX
 try simp only [hgx]
 clear hgx
 refine (show Calls _ _ #[OpV kd se le nn K1 N1 f1 (some ⟨x1, 0, none⟩) n1 n1 K2 N2 f2 (some ⟨x2, 0, none⟩) n2 n2 K3 N3 f3 (some ⟨x3, 0, none⟩) n3 n3 (some ⟨x4, 0, none⟩) nb nb] _ _ from impl_OpOk X1.out X2.out hf1 hf2 hf3 (by omega) (by omega) (by omega) (fun q => by cases q) (fun q => by cases q)).mono ?_
 rintro e w5 ⟨rfl, b⟩
 replace HA := hid (HA.out.below b (Nat.le_refl _))
 replace R1 := hid (R1.out.below b (Nat.le_refl _))
 replace R2 := hid (R2.out.below b (Nat.le_refl _))
 replace R3 := hid (R3.out.below b (Nat.le_refl _))
 replace RB := hid (RB.out.below b (Nat.le_refl _))
 replace X1 := hid (X1.out.below b (Nat.le_refl _))
 replace X2 := hid (X2.out.below b (Nat.le_refl _))
 replace X3 := hid (X3.out.below b (Nat.le_refl _))
 replace X4 := hid (X4.out.below b (Nat.le_refl _))
 replace BX := hid (BX.out.below b (Nat.le_refl _))
 replace HB := hid (HB.out.trans (b.mono HB.out.size))
 clear b
 rw [HS.out]
 go_wp2_with fail
 have b := (Still.drew w5).below w5.heap.size
 replace HA := hid (HA.out.below b (Nat.le_refl _))
 replace R1 := hid (R1.out.below b (Nat.le_refl _))
 replace R2 := hid (R2.out.below b (Nat.le_refl _))
 replace R3 := hid (R3.out.below b (Nat.le_refl _))
 replace RB := hid (RB.out.below b (Nat.le_refl _))
 replace X1 := hid (X1.out.below b (Nat.le_refl _))
 replace X2 := hid (X2.out.below b (Nat.le_refl _))
 replace X3 := hid (X3.out.below b (Nat.le_refl _))
 replace X4 := hid (X4.out.below b (Nat.le_refl _))
 replace BX := hid (BX.out.below b (Nat.le_refl _))
 replace HB := hid (HB.out.trans (b.mono HB.out.size))
 clear b
 refine region_K 99 (fun W => RowO W w.heap.size #[.int .i64 kd, .int .i64 se, .int .i64 le, .int .i64 nn, .int .i64 K1, .int .i64 N1, .float .f64 f1, .slice ad1 n1 c1, .int .i64 K2, .int .i64 N2, .float .f64 f2, .slice ad2 n2 c2, .int .i64 K3, .int .i64 N3, .float .f64 f3, .slice ad3 n3 c3, .slice ab nb cb] 28 ∧ RowO W gx #[.int .i64 kd, .int .i64 se, .int .i64 le, .int .i64 nn, .int .i64 K1, .int .i64 N1, .float .f64 f1, .slice (some ⟨x1, 0, none⟩) n1 n1, .int .i64 K2, .int .i64 N2, .float .f64 f2, .slice (some ⟨x2, 0, none⟩) n2 n2, .int .i64 K3, .int .i64 N3, .float .f64 f3, .slice (some ⟨x3, 0, none⟩) n3 n3, .slice (some ⟨x4, 0, none⟩) nb nb] 33) (by kernel_rfl) ?_ (fun hHeld => ?_)
 · exact ⟨HA.out, BX.out⟩
 generalize w5.drew = v1 at *
 refine anyK_take2 (i := 0) (v := .agg #[.int .i64 kd, .int .i64 se, .int .i64 le, .int .i64 nn, .int .i64 K1, .int .i64 N1, .float .f64 f1, .slice (some ⟨x1, 0, none⟩) n1 n1, .int .i64 K2, .int .i64 N2, .float .f64 f2, .slice (some ⟨x2, 0, none⟩) n2 n2, .int .i64 K3, .int .i64 N3, .float .f64 f3, .slice (some ⟨x3, 0, none⟩) n3 n3, .slice (some ⟨x4, 0, none⟩) nb nb]) rfl (by kernel_rfl) (by kernel_rfl) (by kernel_rfl) (by rfl) (fun _ _ _ h => h) (by rfl) hHeld ?hy0 (some 22) (by rfl) ?rest0
 case hy0 => exact fun W hSw => exec_load_row 33 (.tmp 5) rfl gx rfl 33 _ (0, 0) _ hSw.2.h Try.underlying33 rfl size_op
 try simp only [Act.put]
 try simp only [List.setIfInBounds_toArray]
 try simp only [List.set_cons_succ, List.set_cons_zero]
 refine anyK_take2 (i := 1) (v := .agg #[.int .i64 kd, .int .i64 se, .int .i64 le, .int .i64 nn, .int .i64 K1, .int .i64 N1, .float .f64 f1, .slice ad1 n1 c1, .int .i64 K2, .int .i64 N2, .float .f64 f2, .slice ad2 n2 c2, .int .i64 K3, .int .i64 N3, .float .f64 f3, .slice ad3 n3 c3, .slice ab nb cb]) rfl (by kernel_rfl) (by kernel_rfl) (by kernel_rfl) (by rfl) (fun _ _ _ h => h) (by rfl) hHeld ?hy1 (some 23) (by rfl) ?rest1
 case hy1 => exact fun W hSw => exec_load_row 28 (.tmp 1) rfl w.heap.size rfl 28 _ (0, 0) _ hSw.1.h Try.underlying28 rfl size_lop
 try simp only [Act.put]
 try simp only [List.setIfInBounds_toArray]
 try simp only [List.set_cons_succ, List.set_cons_zero]
 refine anyK_step (i := 2) (by kernel_rfl) rfl (fun KP hK => ?_)
 go_simp
 refine (toOp kd se le nn K1 N1 f1 c1 K2 N2 f2 c2 K3 N3 f3 c3 cb R1.out R2.out R3.out RB.out (by omega) (by omega) (by omega) (by omega)).mono ?_
 rintro e w6 ⟨y1, y2, y3, y4, rfl, o1, o2, o3, o4, b⟩
 replace HA := hid (HA.out.below b (Nat.le_refl _))
 replace R1 := hid (R1.out.below b (Nat.le_refl _))
 replace R2 := hid (R2.out.below b (Nat.le_refl _))
 replace R3 := hid (R3.out.below b (Nat.le_refl _))
 replace RB := hid (RB.out.below b (Nat.le_refl _))
 replace X1 := hid (X1.out.below b (Nat.le_refl _))
 replace X2 := hid (X2.out.below b (Nat.le_refl _))
 replace X3 := hid (X3.out.below b (Nat.le_refl _))
 replace X4 := hid (X4.out.below b (Nat.le_refl _))
 replace BX := hid (BX.out.below b (Nat.le_refl _))
 replace HB := hid (HB.out.trans (b.mono HB.out.size))
 clear b
 have Y1 := hid o1
 have Y2 := hid o2
 have Y3 := hid o3
 have Y4 := hid o4
 clear o1 o2 o3 o4
 go_wp2_with fail
 refine hK.out _ _ ?_ (fun hH2 => ?_)
 · exact ⟨HA.out, BX.out⟩
 clear hK KP hHeld
 have hHeld := hH2
 clear hH2
 try simp only [Act.put]
 try simp only [List.setIfInBounds_toArray]
 try simp only [List.set_cons_succ, List.set_cons_zero]
 refine anyK_step (i := 3) (by kernel_rfl) rfl (fun KP hK => ?_)
 go_simp
 refine (eqOp kd se le nn K1 N1 f1 n1 n1 K2 N2 f2 n2 n2 K3 N3 f3 n3 n3 nb nb hf1 hf2 hf3 X1.out Y1.out X2.out Y2.out X3.out Y3.out X4.out Y4.out (by omega) (by omega) (by omega) (by omega)).mono ?_
 rintro e w7 ⟨rfl, b⟩
 replace HA := hid (HA.out.below b (Nat.le_refl _))
 replace R1 := hid (R1.out.below b (Nat.le_refl _))
 replace R2 := hid (R2.out.below b (Nat.le_refl _))
 replace R3 := hid (R3.out.below b (Nat.le_refl _))
 replace RB := hid (RB.out.below b (Nat.le_refl _))
 replace X1 := hid (X1.out.below b (Nat.le_refl _))
 replace X2 := hid (X2.out.below b (Nat.le_refl _))
 replace X3 := hid (X3.out.below b (Nat.le_refl _))
 replace X4 := hid (X4.out.below b (Nat.le_refl _))
 replace BX := hid (BX.out.below b (Nat.le_refl _))
 replace HB := hid (HB.out.trans (b.mono HB.out.size))
 clear b
 clear Y1 Y2 Y3 Y4
 go_wp2_with fail
 refine hK.out _ _ ?_ (fun hH2 => ?_)
 · exact ⟨HA.out, BX.out⟩
 clear hK KP hHeld
 have hHeld := hH2
 clear hH2
 try simp only [Act.put]
 try simp only [List.setIfInBounds_toArray]
 try simp only [List.set_cons_succ, List.set_cons_zero]
 refine anyK_step (i := 4) (by kernel_rfl) rfl (fun KP hK => ?_)
 go_simp
 refine hK.out _ _ ?_ (fun hH2 => ?_)
 · exact ⟨HA.out, BX.out⟩
 clear hK KP hHeld
 have hHeld := hH2
 clear hH2
 try simp only [Act.put]
 try simp only [List.setIfInBounds_toArray]
 try simp only [List.set_cons_succ, List.set_cons_zero]
 refine anyK_done (by kernel_rfl) ?_ _
 clear hHeld
 go_wp2_with fail
 go_ret
 exact ⟨rfl, HB.out⟩
end Go.Proofs.Ytnbpblephmjfnaa
