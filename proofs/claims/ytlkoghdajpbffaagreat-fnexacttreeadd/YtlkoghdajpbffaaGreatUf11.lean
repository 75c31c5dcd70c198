/- A node split: split. Conditions: five entries, at most a thousand nodes. -/
import Derived.Test.YtlkoghdajpbffaaGreatMgv
import Derived.Test.YtlkoghdajpbffaaGreatMgr
namespace Go.Proofs.YtlkoghdajpbffaaGreat
open Go.RowKit
set_option maxRecDepth 100000
theorem size_en11 : (Tryz.prog.info? 48).map (·.size) = some 5 := by kernel_rfl
structure SplitP (w w' : World) (q lo N g : Nat) (nv gp : Value) (L : List Value) (x : Int) (lf : Bool) (ev kv ev' kv' : Value) (gn : Nat) : Prop where
 pos : w.heap.size ≤ gn
 ex : ∃ nv', w'.heap[q]? = some (.cells #[nv', gp] 77) ∧ w'.ownsRow lo 70 1 nv' (N + 1) (L ++ [.pointer (some ⟨gn, 0, none⟩)]) ∧ (nv'.ownBlock = nv.ownBlock ∨ ∀ b, nv'.ownBlock = some b → w.heap.size ≤ b)
 new : w'.heap[gn]? = some (.cells #[.int .i64 N, .bool lf, ev', kv'] 112)
 old : w'.heap[g]? = some (.cells #[.int .i64 x, .bool lf, ev, kv] 112)
 kept : Kept (fun b => b = q ∨ nv.ownBlock = some b ∨ b = g) w w'
set_option maxHeartbeats 12800000 in
theorem impl_split_leaf {q lo N g : Nat} {nv gp : Value} {L : List Value} {x : Int} {b off o2 c : Nat} {ak : Option Addr} {nk ck : Nat} {K N0 id : Int} {F : Nat} {ax : Option Addr} {nx cx : Nat} {w : World} (hq : w.heap[q]? = some (.cells #[nv, gp] 77)) (hown : w.ownsRow lo 70 1 nv N L) (hN : N ≤ 1000) (hlo : lo ≤ w.heap.size) (hg : w.heap[g]? = some (.cells #[.int .i64 x, .bool true, .slice (some ⟨b, off, none⟩) 5 c, .slice ak nk ck] 112)) (ho2 : off + 10 = o2) (hc : 5 ≤ c ∧ c ≤ maxLen) (h5 : w.cell? ⟨b, o2, none⟩ = some (.int .i64 K) ∧ w.cell? ⟨b, o2 + 1, none⟩ = some (.int .i64 N0) ∧ w.cell? ⟨b, o2 + 2, none⟩ = some (.float .f64 F) ∧ w.cell? ⟨b, o2 + 3, none⟩ = some (.slice ax nx cx) ∧ w.cell? ⟨b, o2 + 4, none⟩ = some (.int .i64 id)) :
 Calls Tryz.prog 59 #[.pointer (some ⟨q, 0, none⟩), .pointer (some ⟨g, 0, none⟩)] w fun e w' => ∃ gn, e = .returned (.tuple #[.agg #[.int .i64 K, .int .i64 N0, .float .f64 F, .slice ax nx cx, .int .i64 id], .pointer (some ⟨gn, 0, none⟩)]) ∧ SplitP w w' q lo N g nv gp L x true (.slice (some ⟨b, off, none⟩) 2 c) (.slice ak nk ck) (.slice (some ⟨b, o2, none⟩) 3 (c - 2)) (.slice none 0 0) gn := by
 have hst := fun w a m => run_store Tryz.prog w a (.float .f64 F) m rfl
 have HQ := hid hq
 have HOw := hid hown
 have HG := hid hg
 have H5 := hid h5
 have HO2 := hid ho2
 have HQl := hid (qL hq)
 have HGl := hid (qL hg)
 have HNe := hid (show g ≠ q from fun e => by rw [e, hq] at hg; simp at hg)
 have hc5 : (5 : Int) ≤ (c : Int) := by omega
 have hc2 : ¬ c = 2 := by omega
 have hc3 : ¬ c = 3 := by omega
 have hmx := hc.2
 unfold maxLen at hmx
 have HB1 := hid (Below.alloc1 w (.cells #[.int .i64 0, .int .i64 0, .float .f64 0, .slice none 0 0, .int .i64 0] 48))
 have HR0 := hid (heap_alloc_new w (.cells #[.int .i64 0, .int .i64 0, .float .f64 0, .slice none 0 0, .int .i64 0] 48))
 have HZ0 := hid (alloc_size w (.cells #[.int .i64 0, .int .i64 0, .float .f64 0, .slice none 0 0, .int .i64 0] 48))
 clear hq hown hg h5 ho2
 go_enter Tryz.func59, Tryz.ntmps59
 go_upto_region 1 with fail
 generalize w.alloc (.cells #[.int .i64 0, .int .i64 0, .float .f64 0, .slice none 0 0, .int .i64 0] 48) = w1 at *
 obtain ⟨r0, hr0⟩ : ∃ r0, w.heap.size = r0 := ⟨_, rfl⟩
 have HP0 := hid hr0
 rw [hr0] at HR0 HZ0
 try simp only [hr0]
 clear hr0
 have HKp := hid (show ∀ W, Below w1.heap.size w1 W → W.cell? ⟨g, 2, none⟩ = some (.slice (some ⟨b, off, none⟩) 5 c) ∧ W.cell? ⟨b, o2, none⟩ = some (.int .i64 K) ∧ W.cell? ⟨b, o2 + 1, none⟩ = some (.int .i64 N0) ∧ W.cell? ⟨b, o2 + 2, none⟩ = some (.float .f64 F) ∧ W.cell? ⟨b, o2 + 3, none⟩ = some (.slice ax nx cx) ∧ W.cell? ⟨b, o2 + 4, none⟩ = some (.int .i64 id) from fun W bb => by
  have hb := HB1.out.trans (bb.mono HB1.out.size)
  have cc : ∀ {p : Addr} {v : Value}, w.cell? p = some v → W.cell? p = some v := fun e => (hb.cell (World.block_lt_of_cell? w _ e)).trans e
  obtain ⟨y0, y1, y2, y3, y4⟩ := H5.out
  exact ⟨cc (qC HG.out), cc y0, cc y1, cc y2, cc y3, cc y4⟩)
 have BC := hid ((Still.drew w1).below w1.heap.size)
 refine region_K 99 (fun W => W.cell? ⟨g, 2, none⟩ = some (.slice (some ⟨b, off, none⟩) 5 c) ∧ W.cell? ⟨b, o2, none⟩ = some (.int .i64 K) ∧ W.cell? ⟨b, o2 + 1, none⟩ = some (.int .i64 N0) ∧ W.cell? ⟨b, o2 + 2, none⟩ = some (.float .f64 F) ∧ W.cell? ⟨b, o2 + 3, none⟩ = some (.slice ax nx cx) ∧ W.cell? ⟨b, o2 + 4, none⟩ = some (.int .i64 id)) (by kernel_rfl) (HKp.out _ BC.out) (fun hHeld => ?_)
 generalize w1.drew = vd at *
 refine qT 0 rfl hHeld 9 rfl ?_
 refine qT 1 rfl hHeld 10 rfl ?_
 refine qT 2 rfl hHeld 11 rfl ?_
 refine qT 3 rfl hHeld 12 rfl ?_
 refine anyK_take2 (i := 4) (v := .pointer (some ⟨b, o2, none⟩)) rfl (by kernel_rfl) (by kernel_rfl) (by kernel_rfl) (by rfl) (fun _ _ _ h => h) (by rfl) hHeld ?hq1 (some 13) (by rfl) ?rq1
 case hq1 => (intro W hSw; obtain ⟨x0, x1, x2, x3, x4, x5⟩ := hSw; go_simp; exact HO2.out)
 try simp only [qP]
 refine qT 5 rfl hHeld 14 rfl ?_
 refine qT 6 rfl hHeld 15 rfl ?_
 refine qT 7 rfl hHeld 16 rfl ?_
 refine qT 8 rfl hHeld 17 rfl ?_
 refine qT 9 rfl hHeld 18 rfl ?_
 refine anyK_take2 (i := 10) (v := .slice (some ⟨b, o2, none⟩) 3 (c - 2)) rfl (by kernel_rfl) (by kernel_rfl) (by kernel_rfl) (by rfl) (fun _ _ _ h => h) (by rfl) hHeld ?hq2 (some 19) (by rfl) ?rq2
 case hq2 => (intro W hSw; obtain ⟨x0, x1, x2, x3, x4, x5⟩ := hSw; go_simp; exact HO2.out)
 try simp only [qP]
 refine qS 11 rfl fun KP hK => ?_
 go_simp
 have HBA := hid (Below.alloc1 vd (.cells #[.int .i64 0, .int .i64 0, .float .f64 0, .slice none 0 0, .int .i64 0] 48))
 have HBx := hid (heap_alloc_new vd (.cells #[.int .i64 0, .int .i64 0, .float .f64 0, .slice none 0 0, .int .i64 0] 48))
 have HPz := hid (show w1.heap.size ≤ vd.heap.size from BC.out.size)
 replace BC := hid (BC.out.trans (HBA.out.mono BC.out.size))
 clear hHeld
 refine hK.out _ _ (HKp.out _ BC.out) (fun hHeld => ?_)
 clear hK KP
 try simp only [qP]
 generalize vd.alloc (.cells #[.int .i64 0, .int .i64 0, .float .f64 0, .slice none 0 0, .int .i64 0] 48) = v1 at *
 obtain ⟨p6, hp6⟩ : ∃ p6, vd.heap.size = p6 := ⟨_, rfl⟩
 rw [hp6] at HBx HPz
 try simp only [hp6]
 clear hp6
 refine qS 12 rfl fun KP hK => ?_
 refine wp_store_row 48 (.tmp 6) (.tmp 14) rfl p6 #[.int .i64 K, .int .i64 N0, .float .f64 F, .slice ax nx cx, .int .i64 id] rfl rfl 48 _ HBx.out size_en11 rfl (by simp [Value.oneCell']) ?_
 have HR6 := hid (setRow_heap _ _ _ #[.int .i64 K, .int .i64 N0, .float .f64 F, .slice ax nx cx, .int .i64 id] _ _ HBx.out)
 have BD := hid (below_setRow BC.out HPz.out #[.int .i64 K, .int .i64 N0, .float .f64 F, .slice ax nx cx, .int .i64 id])
 clear hHeld
 refine hK.out _ _ (HKp.out _ BD.out) (fun hHeld => ?_)
 clear hK KP
 try simp only [Act.put]
 generalize v1.setRow p6 #[.int .i64 K, .int .i64 N0, .float .f64 F, .slice ax nx cx, .int .i64 id] = v2 at *
 refine qS 13 rfl fun KP hK => ?_
 go_simp
 clear hHeld
 refine hK.out _ _ (HKp.out _ BD.out) (fun hHeld => ?_)
 clear hK KP
 try simp only [qP]
 refine anyK_done (by kernel_rfl) ?_ _
 clear hHeld HBx HBA BC
 have BW := hid (HB1.out.trans (BD.out.mono HB1.out.size))
 have HG2 := hid ((BW.out.block g HGl.out).trans HG.out)
 have HR02 := hid ((BD.out.block r0 (by have := HZ0.out; omega)).trans HR0.out)
 have HSz := hid (show r0 < p6 ∧ p6 < v2.heap.size by have := HZ0.out; have := HPz.out; have := (qL HR6.out); omega)
 have n1 : v2.cell? ⟨g, 1, none⟩ = some (.bool true) := qC HG2.out
 have n2 : v2.cell? ⟨g, 2, none⟩ = some (.slice (some ⟨b, off, none⟩) 5 c) := qC HG2.out
 have f2 : v2.frozen? ⟨g, 2, none⟩ = false := frozen_of_row _ _ 2 _ _ HG2.out
 go_upto_region 7 with fail
 clear n1 n2 f2
 have HG3 := hid (show (v2.setCell ⟨g, 2, none⟩ (.slice (some ⟨b, off, none⟩) 2 c)).heap[g]? = some (.cells #[.int .i64 x, .bool true, .slice (some ⟨b, off, none⟩) 2 c, .slice ak nk ck] 112) by rw [heap_setCell_same _ _ _ _ _ _ HG2.out]; rfl)
 have HKs := hid (Kept.set (X := fun b => b = g) v2 (p := ⟨g, 2, none⟩) rfl (.slice (some ⟨b, off, none⟩) 2 c))
 have HO3w := hid (owns_other (j := 2) (owns_below BW.out qN HOw.out) HG2.out (by decide) (.slice (some ⟨b, off, none⟩) 2 c))
 generalize v2.setCell ⟨g, 2, none⟩ (.slice (some ⟨b, off, none⟩) 2 c) = v3 at *
 have HR63 := hid ((HKs.out.block p6 HSz.out.2 (by have := HGl.out; have := HP0.out; have := HSz.out; omega)).trans HR6.out)
 have HR03 := hid ((HKs.out.block r0 (by have := HSz.out; omega) (by have := HGl.out; have := HP0.out; omega)).trans HR02.out)
 have HQ3 := hid ((HKs.out.block q (by have := HQl.out; have := HP0.out; have := HSz.out; omega) (fun e => HNe.out e.symm)).trans ((BW.out.block q HQl.out).trans HQ.out))
 have HKq := hid (show ∀ W : World, W.heap[p6]? = v3.heap[p6]? → W.heap[g]? = v3.heap[g]? → (W.cell? ⟨p6, 0, none⟩ = some (.int .i64 K) ∧ W.cell? ⟨p6, 1, none⟩ = some (.int .i64 N0) ∧ W.cell? ⟨p6, 2, none⟩ = some (.float .f64 F) ∧ W.cell? ⟨p6, 3, none⟩ = some (.slice ax nx cx) ∧ W.cell? ⟨p6, 4, none⟩ = some (.int .i64 id)) ∧ W.cell? ⟨g, 1, none⟩ = some (.bool true) from fun W e6 eg => by
  have r6 := e6.trans HR63.out
  have rg := eg.trans HG3.out
  exact ⟨⟨qC r6, qC r6, qC r6, qC r6, qC r6⟩, qC rg⟩)
 have HBd := hid ((Still.drew v3).below v3.heap.size)
 refine region_K 99 (fun W => (W.cell? ⟨p6, 0, none⟩ = some (.int .i64 K) ∧ W.cell? ⟨p6, 1, none⟩ = some (.int .i64 N0) ∧ W.cell? ⟨p6, 2, none⟩ = some (.float .f64 F) ∧ W.cell? ⟨p6, 3, none⟩ = some (.slice ax nx cx) ∧ W.cell? ⟨p6, 4, none⟩ = some (.int .i64 id)) ∧ W.cell? ⟨g, 1, none⟩ = some (.bool true)) (by kernel_rfl) (HKq.out _ rfl rfl) (fun hHeld => ?_)
 have HZs := hid (show r0 < v3.heap.size ∧ p6 < v3.heap.size ∧ g < v3.heap.size by have := HSz.out; have := HKs.out.size; have := (qL HG3.out); omega)
 generalize v3.drew = v4 at *
 refine qT 0 rfl hHeld 51 rfl ?_
 refine qT 1 rfl hHeld 52 rfl ?_
 refine qT 2 rfl hHeld 53 rfl ?_
 refine qT 3 rfl hHeld 54 rfl ?_
 refine qT 4 rfl hHeld 55 rfl ?_
 refine qT 5 rfl hHeld 56 rfl ?_
 refine qT 6 rfl hHeld 57 rfl ?_
 refine qT 7 rfl hHeld 58 rfl ?_
 refine qT 8 rfl hHeld 59 rfl ?_
 have HQ4 := hid ((HBd.out.block q (qL HQ3.out)).trans HQ3.out)
 have HG4 := hid ((HBd.out.block g HZs.out.2.2).trans HG3.out)
 have HO4 := hid (owns_below HBd.out qN HO3w.out)
 have HZ4 := hid HBd.out.size
 refine qS 9 rfl fun KP hK => ?_
 go_simp
 refine (impl_grow HQ4.out HO4.out hN (by have := HP0.out; have := HZs.out; have := HZ4.out; omega)).mono ?_
 rintro e v5 ⟨rfl, hgr⟩
 have HGr := hid hgr
 have HK5 := hid hgr.kept
 have HnB := hid (show ∀ i, w.heap.size ≤ i → ¬ (i = q ∨ nv.ownBlock = some i) from fun i hi e => by
  have := HQl.out
  rcases e with e | e
  · omega
  · have := (HOw.out.lt i e).2; omega)
 have HnG := hid (show ¬ (g = q ∨ nv.ownBlock = some g) from fun e => by
  rcases e with e | e
  · exact HNe.out e
  · exact owns_block_ne HOw.out HG.out (by decide) e)
 have HR65 := hid ((HK5.out.block p6 (by have := HZs.out; have := HZ4.out; omega) (HnB.out p6 (by have := HP0.out; have := HSz.out; omega))).trans ((HBd.out.block p6 HZs.out.2.1).trans HR63.out))
 have HR05 := hid ((HK5.out.block r0 (by have := HZs.out; have := HZ4.out; omega) (HnB.out r0 (by have := HP0.out; omega))).trans ((HBd.out.block r0 HZs.out.1).trans HR03.out))
 have HG5 := hid ((HK5.out.block g (by have := HZs.out; have := HZ4.out; omega) HnG.out).trans HG4.out)
 clear hgr hHeld
 go_wp2_with fail
 refine hK.out _ _ (HKq.out _ (HR65.out.trans HR63.out.symm) (HG5.out.trans HG3.out.symm)) (fun hHeld => ?_)
 clear hK KP
 try simp only [qP]
 obtain ⟨gn, hgn⟩ : ∃ gn, v4.heap.size = gn := ⟨_, rfl⟩
 have HGn := hid hgn
 try simp only [hgn]
 have g2 := row_grown11 v5 r0 #[.int .i64 K, .int .i64 N0, .float .f64 F, .slice ax nx cx, .int .i64 id]
 have HG6 := hid g2
 have HR06 := hid (setRow_heap _ _ _ #[.int .i64 K, .int .i64 N0, .float .f64 F, .slice ax nx cx, .int .i64 id] _ _ HR05.out)
 have hz5 := HK5.out.size
 have HR66 := hid ((g2.block p6 (by have := HZs.out; have := HZ4.out; omega) (by have := HSz.out; simp; omega)).trans HR65.out)
 have HG66 := hid ((g2.block g (by have := HZs.out; have := HZ4.out; omega) (by have := HGl.out; have := HP0.out; simp; omega)).trans HG5.out)
 clear g2 hgn
 refine qS 10 rfl fun KP hK => ?_
 refine wp_store_row 48 (.tmp 4) (.tmp 51) rfl r0 #[.int .i64 K, .int .i64 N0, .float .f64 F, .slice ax nx cx, .int .i64 id] rfl rfl 48 _ HR05.out size_en11 rfl (by simp [Value.oneCell']) ?_
 clear hHeld
 refine hK.out _ _ (HKq.out _ (HR66.out.trans HR63.out.symm) (HG66.out.trans HG3.out.symm)) (fun hHeld => ?_)
 clear hK KP
 try simp only [Act.put]
 refine qS 11 rfl fun KP hK => ?_
 go_simp
 clear hHeld
 refine hK.out _ _ (HKq.out _ (HR66.out.trans HR63.out.symm) (HG66.out.trans HG3.out.symm)) (fun hHeld => ?_)
 clear hK KP
 try simp only [qP]
 refine anyK_done (by kernel_rfl) ?_ _
 clear hHeld
 go_wp2_with fail
 refine bodyPost_ret (results_cell_tmp11 Tryz.results59 _ _ r0 48 #[.int .i64 K, .int .i64 N0, .float .f64 F, .slice ax nx cx, .int .i64 id] (0, 0) _ rfl HR06.out Tryz.underlying48 rfl size_en11) rfl ⟨gn, rfl, ?_⟩
 obtain ⟨nv', e1, o1, nb1⟩ := HGr.out.ex
 have e2 := HGr.out.new
 rw [HGn.out] at o1 e2

 have hq5 := (qL e1)
 have hn5 := (qL e2)
 refine ⟨by have := HGn.out; have := HZs.out; have := HZ4.out; have := HP0.out; omega, ⟨nv', (HG6.out.block q hq5 (by have := HQl.out; have := HP0.out; simp; omega)).trans e1, ?_, nb1.imp (fun h => h) (fun h b hb => by have := h b hb; have := HGn.out; have := HZs.out; have := HZ4.out; have := HP0.out; omega)⟩, (HG6.out.block gn hn5 (by have := HGn.out; have := HZs.out; have := HZ4.out; simp; omega)).trans e2, HG66.out, ?_⟩
 · exact o1.kept HG6.out (.inr (fun e => owns_block_ne o1 HR05.out (by decide) e))
 · exact ((((Kept.of_below (X := fun b => b = q ∨ nv.ownBlock = some b ∨ b = g) BW.out).trans HKs.out (fun _ _ h => .inr (.inr h))).trans (Kept.of_below (X := fun _ => False) HBd.out) (fun _ _ h => h.elim)).trans HK5.out (fun _ _ h => h.elim .inl (fun h => .inr (.inl h)))).trans (Kept.of_grown HG6.out) (fun i hi h => by have := HP0.out; have h9 := Option.some.inj h; exfalso; omega)
set_option maxHeartbeats 12800000 in
theorem impl_split_inner {q lo N g : Nat} {nv gp : Value} {L : List Value} {x : Int} {b off o2 c : Nat} {kb ko k3 ck o3 : Nat} {K N0 id : Int} {F : Nat} {ax : Option Addr} {nx cx : Nat} {w : World} (hq : w.heap[q]? = some (.cells #[nv, gp] 77)) (hown : w.ownsRow lo 70 1 nv N L) (hN : N ≤ 1000) (hlo : lo ≤ w.heap.size) (hg : w.heap[g]? = some (.cells #[.int .i64 x, .bool false, .slice (some ⟨b, off, none⟩) 5 c, .slice (some ⟨kb, ko, none⟩) 6 ck] 112)) (ho2 : off + 10 = o2) (hc : 5 ≤ c ∧ c ≤ maxLen) (ho3 : off + 15 = o3) (hk3 : ko + 3 = k3) (hck : 6 ≤ ck ∧ ck ≤ maxLen) (h5 : w.cell? ⟨b, o2, none⟩ = some (.int .i64 K) ∧ w.cell? ⟨b, o2 + 1, none⟩ = some (.int .i64 N0) ∧ w.cell? ⟨b, o2 + 2, none⟩ = some (.float .f64 F) ∧ w.cell? ⟨b, o2 + 3, none⟩ = some (.slice ax nx cx) ∧ w.cell? ⟨b, o2 + 4, none⟩ = some (.int .i64 id)) :
 Calls Tryz.prog 59 #[.pointer (some ⟨q, 0, none⟩), .pointer (some ⟨g, 0, none⟩)] w fun e w' => ∃ gn, e = .returned (.tuple #[.agg #[.int .i64 K, .int .i64 N0, .float .f64 F, .slice ax nx cx, .int .i64 id], .pointer (some ⟨gn, 0, none⟩)]) ∧ SplitP w w' q lo N g nv gp L x false (.slice (some ⟨b, off, none⟩) 2 c) (.slice (some ⟨kb, ko, none⟩) 3 ck) (.slice (some ⟨b, o3, none⟩) 2 (c - 3)) (.slice (some ⟨kb, k3, none⟩) 3 (ck - 3)) gn := by
 have hst := fun w a m => run_store Tryz.prog w a (.float .f64 F) m rfl
 have HQ := hid hq
 have HOw := hid hown
 have HG := hid hg
 have H5 := hid h5
 have HO2 := hid ho2
 have HQl := hid (qL hq)
 have HGl := hid (qL hg)
 have HNe := hid (show g ≠ q from fun e => by rw [e, hq] at hg; simp at hg)
 have hc5 : (5 : Int) ≤ (c : Int) := by omega
 have hc2 : ¬ c = 2 := by omega
 have hc3 : ¬ c = 3 := by omega
 have hmx := hc.2
 unfold maxLen at hmx
 have HB1 := hid (Below.alloc1 w (.cells #[.int .i64 0, .int .i64 0, .float .f64 0, .slice none 0 0, .int .i64 0] 48))
 have HR0 := hid (heap_alloc_new w (.cells #[.int .i64 0, .int .i64 0, .float .f64 0, .slice none 0 0, .int .i64 0] 48))
 have HZ0 := hid (alloc_size w (.cells #[.int .i64 0, .int .i64 0, .float .f64 0, .slice none 0 0, .int .i64 0] 48))
 have HO3 := hid ho3
 have HK3 := hid hk3
 have hck6 : (6 : Int) ≤ (ck : Int) := by omega
 have hck3 : ¬ ck = 3 := by omega
 have hckm := hck.2
 unfold maxLen at hckm
 clear hq hown hg h5 ho2 ho3 hk3
 go_enter Tryz.func59, Tryz.ntmps59
 go_upto_region 1 with fail
 generalize w.alloc (.cells #[.int .i64 0, .int .i64 0, .float .f64 0, .slice none 0 0, .int .i64 0] 48) = w1 at *
 obtain ⟨r0, hr0⟩ : ∃ r0, w.heap.size = r0 := ⟨_, rfl⟩
 have HP0 := hid hr0
 rw [hr0] at HR0 HZ0
 try simp only [hr0]
 clear hr0
 have HKp := hid (show ∀ W, Below w1.heap.size w1 W → W.cell? ⟨g, 2, none⟩ = some (.slice (some ⟨b, off, none⟩) 5 c) ∧ W.cell? ⟨b, o2, none⟩ = some (.int .i64 K) ∧ W.cell? ⟨b, o2 + 1, none⟩ = some (.int .i64 N0) ∧ W.cell? ⟨b, o2 + 2, none⟩ = some (.float .f64 F) ∧ W.cell? ⟨b, o2 + 3, none⟩ = some (.slice ax nx cx) ∧ W.cell? ⟨b, o2 + 4, none⟩ = some (.int .i64 id) from fun W bb => by
  have hb := HB1.out.trans (bb.mono HB1.out.size)
  have cc : ∀ {p : Addr} {v : Value}, w.cell? p = some v → W.cell? p = some v := fun e => (hb.cell (World.block_lt_of_cell? w _ e)).trans e
  obtain ⟨y0, y1, y2, y3, y4⟩ := H5.out
  exact ⟨cc (qC HG.out), cc y0, cc y1, cc y2, cc y3, cc y4⟩)
 have BC := hid ((Still.drew w1).below w1.heap.size)
 refine region_K 99 (fun W => W.cell? ⟨g, 2, none⟩ = some (.slice (some ⟨b, off, none⟩) 5 c) ∧ W.cell? ⟨b, o2, none⟩ = some (.int .i64 K) ∧ W.cell? ⟨b, o2 + 1, none⟩ = some (.int .i64 N0) ∧ W.cell? ⟨b, o2 + 2, none⟩ = some (.float .f64 F) ∧ W.cell? ⟨b, o2 + 3, none⟩ = some (.slice ax nx cx) ∧ W.cell? ⟨b, o2 + 4, none⟩ = some (.int .i64 id)) (by kernel_rfl) (HKp.out _ BC.out) (fun hHeld => ?_)
 generalize w1.drew = vd at *
 refine qT 0 rfl hHeld 9 rfl ?_
 refine qT 1 rfl hHeld 10 rfl ?_
 refine qT 2 rfl hHeld 11 rfl ?_
 refine qT 3 rfl hHeld 12 rfl ?_
 refine anyK_take2 (i := 4) (v := .pointer (some ⟨b, o2, none⟩)) rfl (by kernel_rfl) (by kernel_rfl) (by kernel_rfl) (by rfl) (fun _ _ _ h => h) (by rfl) hHeld ?hq3 (some 13) (by rfl) ?rq3
 case hq3 => (intro W hSw; obtain ⟨x0, x1, x2, x3, x4, x5⟩ := hSw; go_simp; exact HO2.out)
 try simp only [qP]
 refine qT 5 rfl hHeld 14 rfl ?_
 refine qT 6 rfl hHeld 15 rfl ?_
 refine qT 7 rfl hHeld 16 rfl ?_
 refine qT 8 rfl hHeld 17 rfl ?_
 refine qT 9 rfl hHeld 18 rfl ?_
 refine anyK_take2 (i := 10) (v := .slice (some ⟨b, o2, none⟩) 3 (c - 2)) rfl (by kernel_rfl) (by kernel_rfl) (by kernel_rfl) (by rfl) (fun _ _ _ h => h) (by rfl) hHeld ?hq4 (some 19) (by rfl) ?rq4
 case hq4 => (intro W hSw; obtain ⟨x0, x1, x2, x3, x4, x5⟩ := hSw; go_simp; exact HO2.out)
 try simp only [qP]
 refine qS 11 rfl fun KP hK => ?_
 go_simp
 have HBA := hid (Below.alloc1 vd (.cells #[.int .i64 0, .int .i64 0, .float .f64 0, .slice none 0 0, .int .i64 0] 48))
 have HBx := hid (heap_alloc_new vd (.cells #[.int .i64 0, .int .i64 0, .float .f64 0, .slice none 0 0, .int .i64 0] 48))
 have HPz := hid (show w1.heap.size ≤ vd.heap.size from BC.out.size)
 replace BC := hid (BC.out.trans (HBA.out.mono BC.out.size))
 clear hHeld
 refine hK.out _ _ (HKp.out _ BC.out) (fun hHeld => ?_)
 clear hK KP
 try simp only [qP]
 generalize vd.alloc (.cells #[.int .i64 0, .int .i64 0, .float .f64 0, .slice none 0 0, .int .i64 0] 48) = v1 at *
 obtain ⟨p6, hp6⟩ : ∃ p6, vd.heap.size = p6 := ⟨_, rfl⟩
 rw [hp6] at HBx HPz
 try simp only [hp6]
 clear hp6
 refine qS 12 rfl fun KP hK => ?_
 refine wp_store_row 48 (.tmp 6) (.tmp 14) rfl p6 #[.int .i64 K, .int .i64 N0, .float .f64 F, .slice ax nx cx, .int .i64 id] rfl rfl 48 _ HBx.out size_en11 rfl (by simp [Value.oneCell']) ?_
 have HR6 := hid (setRow_heap _ _ _ #[.int .i64 K, .int .i64 N0, .float .f64 F, .slice ax nx cx, .int .i64 id] _ _ HBx.out)
 have BD := hid (below_setRow BC.out HPz.out #[.int .i64 K, .int .i64 N0, .float .f64 F, .slice ax nx cx, .int .i64 id])
 clear hHeld
 refine hK.out _ _ (HKp.out _ BD.out) (fun hHeld => ?_)
 clear hK KP
 try simp only [Act.put]
 generalize v1.setRow p6 #[.int .i64 K, .int .i64 N0, .float .f64 F, .slice ax nx cx, .int .i64 id] = v2 at *
 refine qS 13 rfl fun KP hK => ?_
 go_simp
 clear hHeld
 refine hK.out _ _ (HKp.out _ BD.out) (fun hHeld => ?_)
 clear hK KP
 try simp only [qP]
 refine anyK_done (by kernel_rfl) ?_ _
 clear hHeld HBx HBA BC
 have BW := hid (HB1.out.trans (BD.out.mono HB1.out.size))
 have HG2 := hid ((BW.out.block g HGl.out).trans HG.out)
 have HR02 := hid ((BD.out.block r0 (by have := HZ0.out; omega)).trans HR0.out)
 have HSz := hid (show r0 < p6 ∧ p6 < v2.heap.size by have := HZ0.out; have := HPz.out; have := (qL HR6.out); omega)
 have n1 : v2.cell? ⟨g, 1, none⟩ = some (.bool false) := qC HG2.out
 have n2 : v2.cell? ⟨g, 2, none⟩ = some (.slice (some ⟨b, off, none⟩) 5 c) := qC HG2.out
 go_upto_region 5 with (first | (rw [if_neg hc3, HO3.out]) | fail)
 clear n1 n2
 have HKd := hid ((Still.drew v2).below v2.heap.size)
 have HGd := hid (show v2.drew.heap[g]? = some (.cells #[.int .i64 x, .bool false, .slice (some ⟨b, off, none⟩) 5 c, .slice (some ⟨kb, ko, none⟩) 6 ck] 112) from HG2.out)
 refine region_U 13 (fun W => W.cell? ⟨g, 3, none⟩ = some (.slice (some ⟨kb, ko, none⟩) 6 ck)) (by kernel_rfl) (qC HGd.out) (fun hHeld => ?_)
 generalize v2.drew = ve at *
 refine anyU_take (i := 0) (v := ?vq5) rfl (by kernel_rfl) (by kernel_rfl) (by kernel_rfl) (by rfl) (fun _ _ _ h => h) (by rfl) (.inr hHeld) ?hq5 (some 30) (by rfl) ?rq5
 case hq5 => (intro W; go_simp; (try with_reducible rfl))
 try simp only [qP]
 refine anyU_take (i := 1) (v := ?vq6) rfl (by kernel_rfl) (by kernel_rfl) (by kernel_rfl) (by rfl) (fun _ _ _ h => h) (by rfl) (.inr hHeld) ?hq6 (some 31) (by rfl) ?rq6
 case hq6 => (intro W; go_simp; (try with_reducible rfl))
 try simp only [qP]
 refine anyU_take (i := 2) (v := ?vq7) rfl (by kernel_rfl) (by kernel_rfl) (by kernel_rfl) (by rfl) (fun _ _ _ h => h) (by rfl) (.inr hHeld) ?hq7 (some 32) (by rfl) ?rq7
 case hq7 => (intro W; go_simp; (try with_reducible rfl))
 try simp only [qP]
 refine anyU_take (i := 3) (v := ?vq8) rfl (by kernel_rfl) (by kernel_rfl) (by kernel_rfl) (by rfl) (fun _ _ _ h => h) (by rfl) (.inr hHeld) ?hq8 (some 33) (by rfl) ?rq8
 case hq8 => (intro W; go_simp; (try with_reducible rfl))
 try simp only [qP]
 refine anyU_read (i := 4) (v := ?vq9) rfl (by kernel_rfl) (by kernel_rfl) (by kernel_rfl) (by kernel_rfl) (by rfl) (fun _ _ _ h => h) (by rfl) hHeld ?hq9 (some 34) (by rfl) ?rq9
 case hq9 => (intro W hSw; obtain x0 := hSw; go_simp; (try with_reducible rfl))
 try simp only [qP]
 refine anyU_take (i := 5) (v := .slice (some ⟨kb, ko, none⟩) 3 ck) rfl (by kernel_rfl) (by kernel_rfl) (by kernel_rfl) (by rfl) (fun _ _ _ h => h) (by rfl) (.inr hHeld) ?hq10 (some 35) (by rfl) ?rq10
 case hq10 => (intro W; go_simp; (intro hh; exfalso; omega))
 try simp only [qP]
 refine anyU_take (i := 6) (v := ?vq11) rfl (by kernel_rfl) (by kernel_rfl) (by kernel_rfl) (by rfl) (fun _ _ _ h => h) (by rfl) (.inr hHeld) ?hq11 (some 36) (by rfl) ?rq11
 case hq11 => (intro W; go_simp; (try with_reducible rfl))
 try simp only [qP]
 refine anyU_take (i := 7) (v := ?vq12) rfl (by kernel_rfl) (by kernel_rfl) (by kernel_rfl) (by rfl) (fun _ _ _ h => h) (by rfl) (.inr hHeld) ?hq12 (some 37) (by rfl) ?rq12
 case hq12 => (intro W; go_simp; (try with_reducible rfl))
 try simp only [qP]
 refine anyU_take (i := 8) (v := ?vq13) rfl (by kernel_rfl) (by kernel_rfl) (by kernel_rfl) (by rfl) (fun _ _ _ h => h) (by rfl) (.inr hHeld) ?hq13 (some 38) (by rfl) ?rq13
 case hq13 => (intro W; go_simp; (try with_reducible rfl))
 try simp only [qP]
 refine anyU_read (i := 9) (v := ?vq14) rfl (by kernel_rfl) (by kernel_rfl) (by kernel_rfl) (by kernel_rfl) (by rfl) (fun _ _ _ h => h) (by rfl) hHeld ?hq14 (some 39) (by rfl) ?rq14
 case hq14 => (intro W hSw; obtain x0 := hSw; go_simp; (try with_reducible rfl))
 try simp only [qP]
 refine anyU_take (i := 10) (v := .slice (some ⟨kb, k3, none⟩) 3 (ck - 3)) rfl (by kernel_rfl) (by kernel_rfl) (by kernel_rfl) (by rfl) (fun _ _ _ h => h) (by rfl) (.inr hHeld) ?hq15 (some 40) (by rfl) ?rq15
 case hq15 => (intro W; go_simp; exact HK3.out)
 try simp only [qP]
 refine anyU_take (i := 11) (v := ?vq16) rfl (by kernel_rfl) (by kernel_rfl) (by kernel_rfl) (by rfl) (fun _ _ _ h => h) (by rfl) (.inr hHeld) ?hq16 (some 41) (by rfl) ?rq16
 case hq16 => (intro W; go_simp; (try with_reducible rfl))
 try simp only [qP]
 refine anyU_take (i := 12) (v := ?vq17) rfl (by kernel_rfl) (by kernel_rfl) (by kernel_rfl) (by rfl) (fun _ _ _ h => h) (by rfl) (.inr hHeld) ?hq17 (some 42) (by rfl) ?rq17
 case hq17 => (intro W; go_simp; (try with_reducible rfl))
 try simp only [qP]
 have f3 : ve.frozen? ⟨g, 3, none⟩ = false := frozen_of_row _ _ 3 _ _ HGd.out
 have n3 : ve.cell? ⟨g, 3, none⟩ = some (.slice (some ⟨kb, ko, none⟩) 6 ck) := qC HGd.out
 refine anyU_last (by kernel_rfl) rfl (fun KP hK => ?_)
 go_simp
 refine hK.out _ _ ?_
 clear hK KP hHeld f3 n3
 try simp only [qP]
 refine anyU_tail (i := 14) (by kernel_rfl) rfl (fun KP hK => ?_)
 go_simp
 refine hK.out _ _ ?_
 clear hK KP
 try simp only [qP]
 refine anyU_done (by kernel_rfl) ?_ _
 have HGe := hid (show (ve.setCell ⟨g, 3, none⟩ (.slice (some ⟨kb, ko, none⟩) 3 ck)).heap[g]? = some (.cells #[.int .i64 x, .bool false, .slice (some ⟨b, off, none⟩) 5 c, .slice (some ⟨kb, ko, none⟩) 3 ck] 112) by rw [heap_setCell_same _ _ _ _ _ _ HGd.out]; rfl)
 have HKe := hid ((Kept.of_below (X := fun b => b = g) HKd.out).trans (Kept.set (X := fun b => b = g) ve (p := ⟨g, 3, none⟩) rfl (.slice (some ⟨kb, ko, none⟩) 3 ck)) (fun _ _ h => h))
 have HOe := hid (owns_other (j := 3) (owns_below HKd.out qN (owns_below BW.out qN HOw.out)) HGd.out (by decide) (.slice (some ⟨kb, ko, none⟩) 3 ck))
 generalize ve.setCell ⟨g, 3, none⟩ (.slice (some ⟨kb, ko, none⟩) 3 ck) = vf at *
 have n2 : vf.cell? ⟨g, 2, none⟩ = some (.slice (some ⟨b, off, none⟩) 5 c) := qC HGe.out
 have f2 : vf.frozen? ⟨g, 2, none⟩ = false := frozen_of_row _ _ 2 _ _ HGe.out
 go_upto_region 7 with fail
 clear n2 f2
 have HG3 := hid (show (vf.setCell ⟨g, 2, none⟩ (.slice (some ⟨b, off, none⟩) 2 c)).heap[g]? = some (.cells #[.int .i64 x, .bool false, .slice (some ⟨b, off, none⟩) 2 c, .slice (some ⟨kb, ko, none⟩) 3 ck] 112) by rw [heap_setCell_same _ _ _ _ _ _ HGe.out]; rfl)
 have HKs := hid (HKe.out.trans (Kept.set (X := fun b => b = g) vf (p := ⟨g, 2, none⟩) rfl (.slice (some ⟨b, off, none⟩) 2 c)) (fun _ _ h => h))
 have HO3w := hid (owns_other (j := 2) HOe.out HGe.out (by decide) (.slice (some ⟨b, off, none⟩) 2 c))
 generalize vf.setCell ⟨g, 2, none⟩ (.slice (some ⟨b, off, none⟩) 2 c) = v3 at *
 have HR63 := hid ((HKs.out.block p6 HSz.out.2 (by have := HGl.out; have := HP0.out; have := HSz.out; omega)).trans HR6.out)
 have HR03 := hid ((HKs.out.block r0 (by have := HSz.out; omega) (by have := HGl.out; have := HP0.out; omega)).trans HR02.out)
 have HQ3 := hid ((HKs.out.block q (by have := HQl.out; have := HP0.out; have := HSz.out; omega) (fun e => HNe.out e.symm)).trans ((BW.out.block q HQl.out).trans HQ.out))
 have HKq := hid (show ∀ W : World, W.heap[p6]? = v3.heap[p6]? → W.heap[g]? = v3.heap[g]? → (W.cell? ⟨p6, 0, none⟩ = some (.int .i64 K) ∧ W.cell? ⟨p6, 1, none⟩ = some (.int .i64 N0) ∧ W.cell? ⟨p6, 2, none⟩ = some (.float .f64 F) ∧ W.cell? ⟨p6, 3, none⟩ = some (.slice ax nx cx) ∧ W.cell? ⟨p6, 4, none⟩ = some (.int .i64 id)) ∧ W.cell? ⟨g, 1, none⟩ = some (.bool false) from fun W e6 eg => by
  have r6 := e6.trans HR63.out
  have rg := eg.trans HG3.out
  exact ⟨⟨qC r6, qC r6, qC r6, qC r6, qC r6⟩, qC rg⟩)
 have HBd := hid ((Still.drew v3).below v3.heap.size)
 refine region_K 99 (fun W => (W.cell? ⟨p6, 0, none⟩ = some (.int .i64 K) ∧ W.cell? ⟨p6, 1, none⟩ = some (.int .i64 N0) ∧ W.cell? ⟨p6, 2, none⟩ = some (.float .f64 F) ∧ W.cell? ⟨p6, 3, none⟩ = some (.slice ax nx cx) ∧ W.cell? ⟨p6, 4, none⟩ = some (.int .i64 id)) ∧ W.cell? ⟨g, 1, none⟩ = some (.bool false)) (by kernel_rfl) (HKq.out _ rfl rfl) (fun hHeld => ?_)
 have HZs := hid (show r0 < v3.heap.size ∧ p6 < v3.heap.size ∧ g < v3.heap.size by have := HSz.out; have := HKs.out.size; have := (qL HG3.out); omega)
 generalize v3.drew = v4 at *
 refine qT 0 rfl hHeld 51 rfl ?_
 refine qT 1 rfl hHeld 52 rfl ?_
 refine qT 2 rfl hHeld 53 rfl ?_
 refine qT 3 rfl hHeld 54 rfl ?_
 refine qT 4 rfl hHeld 55 rfl ?_
 refine qT 5 rfl hHeld 56 rfl ?_
 refine qT 6 rfl hHeld 57 rfl ?_
 refine qT 7 rfl hHeld 58 rfl ?_
 refine qT 8 rfl hHeld 59 rfl ?_
 have HQ4 := hid ((HBd.out.block q (qL HQ3.out)).trans HQ3.out)
 have HG4 := hid ((HBd.out.block g HZs.out.2.2).trans HG3.out)
 have HO4 := hid (owns_below HBd.out qN HO3w.out)
 have HZ4 := hid HBd.out.size
 refine qS 9 rfl fun KP hK => ?_
 go_simp
 refine (impl_grow HQ4.out HO4.out hN (by have := HP0.out; have := HZs.out; have := HZ4.out; omega)).mono ?_
 rintro e v5 ⟨rfl, hgr⟩
 have HGr := hid hgr
 have HK5 := hid hgr.kept
 have HnB := hid (show ∀ i, w.heap.size ≤ i → ¬ (i = q ∨ nv.ownBlock = some i) from fun i hi e => by
  have := HQl.out
  rcases e with e | e
  · omega
  · have := (HOw.out.lt i e).2; omega)
 have HnG := hid (show ¬ (g = q ∨ nv.ownBlock = some g) from fun e => by
  rcases e with e | e
  · exact HNe.out e
  · exact owns_block_ne HOw.out HG.out (by decide) e)
 have HR65 := hid ((HK5.out.block p6 (by have := HZs.out; have := HZ4.out; omega) (HnB.out p6 (by have := HP0.out; have := HSz.out; omega))).trans ((HBd.out.block p6 HZs.out.2.1).trans HR63.out))
 have HR05 := hid ((HK5.out.block r0 (by have := HZs.out; have := HZ4.out; omega) (HnB.out r0 (by have := HP0.out; omega))).trans ((HBd.out.block r0 HZs.out.1).trans HR03.out))
 have HG5 := hid ((HK5.out.block g (by have := HZs.out; have := HZ4.out; omega) HnG.out).trans HG4.out)
 clear hgr hHeld
 go_wp2_with fail
 refine hK.out _ _ (HKq.out _ (HR65.out.trans HR63.out.symm) (HG5.out.trans HG3.out.symm)) (fun hHeld => ?_)
 clear hK KP
 try simp only [qP]
 obtain ⟨gn, hgn⟩ : ∃ gn, v4.heap.size = gn := ⟨_, rfl⟩
 have HGn := hid hgn
 try simp only [hgn]
 have g2 := row_grown11 v5 r0 #[.int .i64 K, .int .i64 N0, .float .f64 F, .slice ax nx cx, .int .i64 id]
 have HG6 := hid g2
 have HR06 := hid (setRow_heap _ _ _ #[.int .i64 K, .int .i64 N0, .float .f64 F, .slice ax nx cx, .int .i64 id] _ _ HR05.out)
 have hz5 := HK5.out.size
 have HR66 := hid ((g2.block p6 (by have := HZs.out; have := HZ4.out; omega) (by have := HSz.out; simp; omega)).trans HR65.out)
 have HG66 := hid ((g2.block g (by have := HZs.out; have := HZ4.out; omega) (by have := HGl.out; have := HP0.out; simp; omega)).trans HG5.out)
 clear g2 hgn
 refine qS 10 rfl fun KP hK => ?_
 refine wp_store_row 48 (.tmp 4) (.tmp 51) rfl r0 #[.int .i64 K, .int .i64 N0, .float .f64 F, .slice ax nx cx, .int .i64 id] rfl rfl 48 _ HR05.out size_en11 rfl (by simp [Value.oneCell']) ?_
 clear hHeld
 refine hK.out _ _ (HKq.out _ (HR66.out.trans HR63.out.symm) (HG66.out.trans HG3.out.symm)) (fun hHeld => ?_)
 clear hK KP
 try simp only [Act.put]
 refine qS 11 rfl fun KP hK => ?_
 go_simp
 clear hHeld
 refine hK.out _ _ (HKq.out _ (HR66.out.trans HR63.out.symm) (HG66.out.trans HG3.out.symm)) (fun hHeld => ?_)
 clear hK KP
 try simp only [qP]
 refine anyK_done (by kernel_rfl) ?_ _
 clear hHeld
 go_wp2_with fail
 refine bodyPost_ret (results_cell_tmp11 Tryz.results59 _ _ r0 48 #[.int .i64 K, .int .i64 N0, .float .f64 F, .slice ax nx cx, .int .i64 id] (0, 0) _ rfl HR06.out Tryz.underlying48 rfl size_en11) rfl ⟨gn, rfl, ?_⟩
 obtain ⟨nv', e1, o1, nb1⟩ := HGr.out.ex
 have e2 := HGr.out.new
 rw [HGn.out] at o1 e2
 rw [HO3.out] at e2
 have hq5 := (qL e1)
 have hn5 := (qL e2)
 refine ⟨by have := HGn.out; have := HZs.out; have := HZ4.out; have := HP0.out; omega, ⟨nv', (HG6.out.block q hq5 (by have := HQl.out; have := HP0.out; simp; omega)).trans e1, ?_, nb1.imp (fun h => h) (fun h b hb => by have := h b hb; have := HGn.out; have := HZs.out; have := HZ4.out; have := HP0.out; omega)⟩, (HG6.out.block gn hn5 (by have := HGn.out; have := HZs.out; have := HZ4.out; simp; omega)).trans e2, HG66.out, ?_⟩
 · exact o1.kept HG6.out (.inr (fun e => owns_block_ne o1 HR05.out (by decide) e))
 · exact ((((Kept.of_below (X := fun b => b = q ∨ nv.ownBlock = some b ∨ b = g) BW.out).trans HKs.out (fun _ _ h => .inr (.inr h))).trans (Kept.of_below (X := fun _ => False) HBd.out) (fun _ _ h => h.elim)).trans HK5.out (fun _ _ h => h.elim .inl (fun h => .inr (.inl h)))).trans (Kept.of_grown HG6.out) (fun i hi h => by have := HP0.out; have h9 := Option.some.inj h; exfalso; omega)
end Go.Proofs.YtlkoghdajpbffaaGreat
