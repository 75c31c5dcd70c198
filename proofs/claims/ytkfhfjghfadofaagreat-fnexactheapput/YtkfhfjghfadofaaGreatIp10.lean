/- The change that withTuple makes in a page; the contract of withTuple. Conditions: what the types say. -/
import Derived.Test.YtkfhfjghfadofaaGreatMgc
import Derived.Test.YtkfhfjghfadofaaGreatIm10
import Derived.Test.YtkfhfjghfadofaaGreatTbi
import Derived.Test.YtkfhfjghfadofaaGreatMga
import Derived.Deep.RegionHeld3
namespace Go.Proofs.YtkfhfjghfadofaaGreat
open Go.RowKit
set_option maxRecDepth 100000
theorem own_nil10 {w : World} {base n : Nat} {a : Option Addr} {c : Nat} {xs : List Value} (h : w.ownsRow base 5 1 (.slice a n c) n xs) : a = none → c = 0 := by
 rintro rfl
 rcases h.2 with ⟨e, _⟩ | ⟨g, cap, cur, e, _⟩
 · cases e; rfl
 · cases e
theorem reads_of10 {w : World} {base n : Nat} {a : Option Addr} {c : Nat} {zs : List Int} (h : w.ownsRow base 5 1 (.slice a n c) n (bys zs)) (hbd : ∀ i, 0 ≤ zs.getD i 0 ∧ zs.getD i 0 ≤ 255) : Reads w a n zs := by
 obtain ⟨_, _, e, r, _⟩ := Reads.own h hbd
 obtain ⟨rfl, _, _⟩ := Value.slice.inj e
 exact r
structure PgB (w : World) (g : Nat) (A : Int) (v : Value) : Prop where
 c0 : w.cell? ⟨g, 0, none⟩ = some (.int .i64 A)
 c1 : w.cell? ⟨g, 1, none⟩ = some v
set_option maxHeartbeats 6400000 in
theorem tuple_change (Bs Bt Bn : Nat) (PA : Int) {a : Option Addr} {mm : Nat} (cc : Nat) {ss : List (List Int)} (y lsn : Int) (A B K N : Int) {f : Nat} {ta : Option Addr} {tn : Nat} (tc : Nat) (L M : Int) {h2 : Nat} {tb : Option Addr} {tm : Nat} (td : Nat) {zs ys : List Int} {W : World} (h : ReadsS W a ss) (hl : ss.length = mm) (hmm : mm ≤ 140737488355328) (h1 : W.cell? ⟨Bs, 0, none⟩ = some (.int .i64 y)) (hT : BoxT W Bt A B K N f ta tn tc L M h2 tb tm td) (h3 : W.cell? ⟨Bn, 0, none⟩ = some (.int .i64 lsn)) (rk : Reads W ta tn zs) (rv : Reads W tb tm ys) (hnil : ta = none → tc = 0) (hnil' : tb = none → td = 0) (htn : tn ≤ 2097152) (htm : tm ≤ 2097152) (hN : -9223372036854775808 ≤ N ∧ N ≤ 9223372036854775807) (hM : -9223372036854775808 ≤ M ∧ M ≤ 9223372036854775807) (hf : f < 18446744073709551616) (hh : h2 < 18446744073709551616) {RL : Int} {RS : List (List Int)} {ok : Bool} {m : Nat} (hR : putP PA ss y (bytesT A B K N f tn zs L M h2 tm ys) lsn = (RL, RS)) (hk : putOk PA ss y (bytesT A B K N f tn zs L M h2 tm ys) lsn = ok) (hm : RS.length = m) :
 Calls Tryz.prog 105 #[.agg #[.int .i64 PA, .slice a mm cc], .pointer (some ⟨Bs, 0, none⟩), .pointer (some ⟨Bt, 0, none⟩), .pointer (some ⟨Bn, 0, none⟩)] W fun e W' => ∃ a' c', e = .returned (.tuple #[.agg #[.int .i64 RL, .slice a' m c'], .bool ok]) ∧ OwnP W' W.heap.size W'.heap.size (.slice a' m c') RS ∧ Below W.heap.size W W' := by
 obtain ⟨R1, R2, z⟩ := two_rows W (.cells #[.int .i64 PA, .slice a mm cc] 87) (.cells #[.int .i64 0, .slice none 0 0] 87)
 have hB := two W (.cells #[.int .i64 PA, .slice a mm cc] 87) (.cells #[.int .i64 0, .slice none 0 0] 87)
 have HB := hid hB
 have S1 := hid R1
 have S2 := hid R2
 have ZZ := hid z
 have K1 := hid h1
 have K2 := hid hT
 have K3 := hid h3
 have HKp := hid (show ∀ X, Below ((W.alloc (.cells #[.int .i64 PA, .slice a mm cc] 87)).alloc (.cells #[.int .i64 0, .slice none 0 0] 87)).heap.size ((W.alloc (.cells #[.int .i64 PA, .slice a mm cc] 87)).alloc (.cells #[.int .i64 0, .slice none 0 0] 87)) X → PgB X W.heap.size PA (.slice a mm cc) ∧ X.cell? ⟨Bs, 0, none⟩ = some (.int .i64 y) ∧ BoxT X Bt A B K N f ta tn tc L M h2 tb tm td ∧ X.cell? ⟨Bn, 0, none⟩ = some (.int .i64 lsn) from fun X bX => by
  have bW := hB.trans (bX.mono hB.size)
  have r1 := (bX.block W.heap.size (by omega)).trans R1
  exact ⟨⟨cell_of_row _ _ 0 _ _ _ r1, cell_of_row _ _ 1 _ _ _ r1⟩, (bW.cell (p := ⟨Bs, 0, none⟩) (World.block_lt_of_cell? W _ h1)).trans h1, hT.below bW (Nat.le_refl _), (bW.cell (p := ⟨Bn, 0, none⟩) (World.block_lt_of_cell? W _ h3)).trans h3⟩)
 have HLT := hid (show Bs < W.heap.size ∧ Bt < W.heap.size ∧ Bn < W.heap.size from ⟨World.block_lt_of_cell? W _ h1, hT.lt, World.block_lt_of_cell? W _ h3⟩)
 have HH := hid (h.below hB (Nat.le_refl _))
 have RK := hid (rk.below hB (Nat.le_refl _))
 have RV := hid (rv.below hB (Nat.le_refl _))
 have HBY := hid (bytesT_bd (A := A) (B := B) (K := K) (N := N) (f := f) (L := L) (M := M) (h := h2) rk.bd rv.bd rk.len rv.len)
 have HR := hid hR
 have HK := hid hk
 have HM := hid hm
 have HN0 := hid hnil
 have HN1 := hid hnil'
 clear h h1 hT h3 hB R1 R2 z hR hk hm rk rv K1 K2 K3 S1 hnil hnil'
 go_enter Tryz.func105, Tryz.ntmps105
 go_wp2_with fail
 generalize (W.alloc (.cells #[.int .i64 PA, .slice a mm cc] 87)).alloc (.cells #[.int .i64 0, .slice none 0 0] 87) = W0 at *
 have BD := hid ((Still.drew W0).below W0.heap.size)
 refine region_K 99 (fun X => PgB X W.heap.size PA (.slice a mm cc) ∧ X.cell? ⟨Bs, 0, none⟩ = some (.int .i64 y) ∧ BoxT X Bt A B K N f ta tn tc L M h2 tb tm td ∧ X.cell? ⟨Bn, 0, none⟩ = some (.int .i64 lsn)) (by kernel_rfl) ?_ (fun hHeld => ?_)
 · exact HKp.out _ BD.out
 generalize W0.drew = v0 at *
 refine anyK_take2 (i := 0) (v := ?v1) rfl (by kernel_rfl) (by kernel_rfl) (by kernel_rfl) (by rfl) (fun _ _ _ h => h) (by rfl) hHeld ?hy1 (some 7) (by rfl) ?rest1
 case hy1 => (intro W hSw; obtain ⟨⟨x0, x1⟩, y0, ⟨u0, u1, u2, u3, u4, u5, u6, u7, u8, u9⟩, z0⟩ := hSw; go_simp; (try with_reducible rfl))
 try simp only [Act.put]
 try simp only [List.setIfInBounds_toArray]
 try simp only [List.set_cons_succ, List.set_cons_zero]
 refine anyK_take2 (i := 1) (v := ?v2) rfl (by kernel_rfl) (by kernel_rfl) (by kernel_rfl) (by rfl) (fun _ _ _ h => h) (by rfl) hHeld ?hy2 (some 8) (by rfl) ?rest2
 case hy2 => (intro W hSw; obtain ⟨⟨x0, x1⟩, y0, ⟨u0, u1, u2, u3, u4, u5, u6, u7, u8, u9⟩, z0⟩ := hSw; go_simp; (try with_reducible rfl))
 try simp only [Act.put]
 try simp only [List.setIfInBounds_toArray]
 try simp only [List.set_cons_succ, List.set_cons_zero]
 refine anyK_take2 (i := 2) (v := ?v3) rfl (by kernel_rfl) (by kernel_rfl) (by kernel_rfl) (by rfl) (fun _ _ _ h => h) (by rfl) hHeld ?hy3 (some 9) (by rfl) ?rest3
 case hy3 => (intro W hSw; obtain ⟨⟨x0, x1⟩, y0, ⟨u0, u1, u2, u3, u4, u5, u6, u7, u8, u9⟩, z0⟩ := hSw; go_simp; (try with_reducible rfl))
 try simp only [Act.put]
 try simp only [List.setIfInBounds_toArray]
 try simp only [List.set_cons_succ, List.set_cons_zero]
 refine anyK_take2 (i := 4) (v := ?v4) rfl (by kernel_rfl) (by kernel_rfl) (by kernel_rfl) (by rfl) (fun _ _ _ h => h) (by rfl) hHeld ?hy4 (some 11) (by rfl) ?rest4
 case hy4 => (intro W hSw; obtain ⟨⟨x0, x1⟩, y0, ⟨u0, u1, u2, u3, u4, u5, u6, u7, u8, u9⟩, z0⟩ := hSw; go_simp; (try with_reducible rfl))
 try simp only [Act.put]
 try simp only [List.setIfInBounds_toArray]
 try simp only [List.set_cons_succ, List.set_cons_zero]
 refine anyK_step (i := 3) (by kernel_rfl) rfl (fun KP hK => ?_)
 go_simp
 refine (impl_TupleBytes A B K N f tc L M h2 td (RK.out.below BD.out (Nat.le_refl _)) (RV.out.below BD.out (Nat.le_refl _)) HN0.out HN1.out htn htm hN hM hf hh).mono ?_
 rintro e w7 ⟨v7, rfl, o7, b7⟩
 have BY := hid HBY.out
 generalize bytesT A B K N f tn zs L M h2 tm ys = bz at *
 obtain ⟨a7, c7, rfl⟩ := own_sl o7
 have RD7 := hid (reads_of10 o7 BY.out)
 have NL7 := hid (own_nil10 o7)
 have B7 := hid (BD.out.trans (b7.mono BD.out.size))
 clear o7 b7
 go_wp2_with fail
 refine hK.out _ _ ?_ (fun hH2 => ?_)
 · exact HKp.out _ B7.out
 clear hK KP hHeld
 have hHeld := hH2
 clear hH2
 try simp only [Act.put]
 try simp only [List.setIfInBounds_toArray]
 try simp only [List.set_cons_succ, List.set_cons_zero]
 refine anyK_step (i := 5) (by kernel_rfl) rfl (fun KP hK => ?_)
 go_simp
 refine (impl_PagePut PA cc y c7 lsn (HH.out.below B7.out (Nat.le_refl _)) hl hmm RD7.out NL7.out HR.out HK.out HM.out).mono ?_
 rintro e w9 ⟨a', c', rfl, op, b9⟩
 have B9 := hid (B7.out.trans (b9.mono B7.out.size))
 have OP := hid op
 have HSZ := hid (show W.heap.size + 2 ≤ w7.heap.size by have := ZZ.out; have := B7.out.size; omega)
 clear op b9
 go_wp2_with fail
 refine hK.out _ _ ?_ (fun hH2 => ?_)
 · exact HKp.out _ B9.out
 clear hK KP hHeld
 have hHeld := hH2
 clear hH2
 try simp only [Act.put]
 try simp only [List.setIfInBounds_toArray]
 try simp only [List.set_cons_succ, List.set_cons_zero]
 refine anyK_take2 (i := 6) (v := ?v5) rfl (by kernel_rfl) (by kernel_rfl) (by kernel_rfl) (by rfl) (fun _ _ _ h => h) (by rfl) hHeld ?hy5 (some 13) (by rfl) ?rest5
 case hy5 => (intro W hSw; obtain ⟨⟨x0, x1⟩, y0, ⟨u0, u1, u2, u3, u4, u5, u6, u7, u8, u9⟩, z0⟩ := hSw; go_simp; (try with_reducible rfl))
 try simp only [Act.put]
 try simp only [List.setIfInBounds_toArray]
 try simp only [List.set_cons_succ, List.set_cons_zero]
 refine anyK_take2 (i := 7) (v := ?v6) rfl (by kernel_rfl) (by kernel_rfl) (by kernel_rfl) (by rfl) (fun _ _ _ h => h) (by rfl) hHeld ?hy6 (some 14) (by rfl) ?rest6
 case hy6 => (intro W hSw; obtain ⟨⟨x0, x1⟩, y0, ⟨u0, u1, u2, u3, u4, u5, u6, u7, u8, u9⟩, z0⟩ := hSw; go_simp; (try with_reducible rfl))
 try simp only [Act.put]
 try simp only [List.setIfInBounds_toArray]
 try simp only [List.set_cons_succ, List.set_cons_zero]
 have T2 := hid ((B9.out.block (W.heap.size + 1) (by have := ZZ.out; omega)).trans S2.out)
 have r0 : w9.cell? ⟨W.heap.size + 1, 0, none⟩ = some (.int .i64 0) := cell_of_row _ _ 0 _ _ _ T2.out
 have r1 : w9.cell? ⟨W.heap.size + 1, 1, none⟩ = some (.slice none 0 0) := cell_of_row _ _ 1 _ _ _ T2.out
 have rf0 : w9.frozen? ⟨W.heap.size + 1, 0, none⟩ = false := frozen_of_row _ _ _ _ _ T2.out
 have rf1 : w9.frozen? ⟨W.heap.size + 1, 1, none⟩ = false := frozen_of_row _ _ _ _ _ T2.out
 have U1 := heap_setCell_same w9 (W.heap.size + 1) 0 _ 87 (.int .i64 RL) T2.out
 have U2 := hid (heap_setCell_same _ (W.heap.size + 1) 1 _ 87 (.slice a' m c') U1)
 have BF := hid (((HB.out.trans (B9.out.mono HB.out.size)).setCell (p := ⟨W.heap.size + 1, 0, none⟩) (by simp) (.int .i64 RL)).setCell (p := ⟨W.heap.size + 1, 1, none⟩) (by simp) (.slice a' m c'))
 have OF := hid (OP.out.agree (w' := (w9.setCell ⟨W.heap.size + 1, 0, none⟩ (.int .i64 RL)).setCell ⟨W.heap.size + 1, 1, none⟩ (.slice a' m c')) (fun k h1 _ => (heap_set_ne _ _ _ _ _ (by have := HSZ.out; omega)).trans (heap_set_ne _ _ _ _ _ (by have := HSZ.out; omega))))
 have KF : ∀ b, b ≠ W.heap.size + 1 → ((w9.setCell ⟨W.heap.size + 1, 0, none⟩ (.int .i64 RL)).setCell ⟨W.heap.size + 1, 1, none⟩ (.slice a' m c')).heap[b]? = w9.heap[b]? := fun b hb => (heap_set_ne _ (W.heap.size + 1) 1 b (.slice a' m c') hb).trans (heap_set_ne w9 (W.heap.size + 1) 0 b (.int .i64 RL) hb)
 obtain ⟨⟨p0, p1⟩, p2, p3, p4⟩ := HKp.out _ B9.out
 have hlt := HLT.out
 have e0 := (World.cell?_of_block (a := ⟨W.heap.size, 0, none⟩) (KF W.heap.size (by omega))).trans p0
 have e1 := (World.cell?_of_block (a := ⟨W.heap.size, 1, none⟩) (KF W.heap.size (by omega))).trans p1
 have e2 := (World.cell?_of_block (a := ⟨Bs, 0, none⟩) (KF Bs (by omega))).trans p2
 have e3 := p3.agree (KF Bt (by omega))
 have e4 := (World.cell?_of_block (a := ⟨Bn, 0, none⟩) (KF Bn (by omega))).trans p4
 have HE := hid (And.intro (PgB.mk e0 e1) (And.intro e2 (And.intro e3 e4)))
 clear KF p0 p1 p2 p3 p4 hlt e0 e1 e2 e3 e4
 clear U1
 refine anyK_step (i := 8) (by kernel_rfl) rfl (fun KP hK => ?_)
 go_simp
 refine hK.out _ _ ?_ (fun hH2 => ?_)
 · exact HE.out
 clear hK KP hHeld
 have hHeld := hH2
 clear hH2
 try simp only [Act.put]
 try simp only [List.setIfInBounds_toArray]
 try simp only [List.set_cons_succ, List.set_cons_zero]
 refine anyK_step (i := 9) (by kernel_rfl) rfl (fun KP hK => ?_)
 go_simp
 refine hK.out _ _ ?_ (fun hH2 => ?_)
 · exact HE.out
 clear hK KP hHeld
 have hHeld := hH2
 clear hH2
 try simp only [Act.put]
 try simp only [List.setIfInBounds_toArray]
 try simp only [List.set_cons_succ, List.set_cons_zero]
 refine anyK_done (by kernel_rfl) ?_ _
 clear hHeld r0 r1 rf0 rf1
 go_wp2_with fail
 refine bodyPost_ret (results_cell_tmp Tryz.results105 _ _ (W.heap.size + 1) 87 #[.int .i64 RL, .slice a' m c'] (0, 0) _ rfl U2.out Tryz.underlying87 rfl size_pg) rfl ?_
 have hsz := HSZ.out
 exact ⟨a', c', rfl, OF.out.mono (by omega) (by simp), BF.out⟩
end Go.Proofs.YtkfhfjghfadofaaGreat
