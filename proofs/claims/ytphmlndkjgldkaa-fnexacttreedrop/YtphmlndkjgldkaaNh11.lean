/- The tree laid as the answer has it. Conditions: at most 300 nodes, each of at most four entries and five kids, texts of at most 2^21 bytes. -/
import Derived.Test.YtphmlndkjgldkaaNg11
namespace Go.Proofs.Ytphmlndkjgldkaa
open Go.RowKit
set_option maxRecDepth 100000
theorem size_tr11 : (Try.prog.info? 26).map (·.size) = some 2 := by kernel_rfl
theorem Try.infoNd11 : (Try.prog.info? 67).map (fun i => (i.zero, i.size, i.bytes)) = some (some (.agg #[.bool false, .slice none 0 0, .slice none 0 0]), 3, 56) := by kernel_rfl
theorem OwnD.push {w : World} {lo mid : Nat} {v : Value} {ds : List Nd} (h : OwnD w lo mid v ds) (hlo : lo ≤ mid) : ∃ ys, w.ownsRow lo 67 3 v ds.length (cellsD ds ys) ∧ ∀ {w' : World} {v' : Value} {l u : Nat} {y : Value × Value} {d : Nd}, mid ≤ l → l ≤ u → u ≤ w.heap.size → OwnD1 w l u y d → w'.ownsRow lo 67 3 v' (ds.length + 1) (cellsD ds ys ++ cellsD1 d y) → w.grownBy w' v.ownBlock → (v'.ownBlock = v.ownBlock ∨ v'.ownBlock = some w.heap.size) → OwnD w' lo w'.heap.size v' (ds ++ [d]) := by
 obtain ⟨ys, bs, o, hB, hq⟩ := h.own
 refine ⟨ys, o, @fun w' v' l u y d hl hlu hu o1 o' hg hat => ?_⟩
 have hs := hg.size
 have B1 := (hB.aside o (by decide) (by decide) (by decide) hg).snoc (l := l) (u := u) hlo hl (Nat.le_trans hu hs) (by omega) (o1.aside o (by decide) (by decide) (by decide) hg)
 refine ⟨⟨ys ++ [y], bs ++ [(l, u)], ?_, B1, fun i hi g e => ?_⟩, fun g e => (o'.lt g e).2⟩
 · rw [cellsD_app ds [d] ys [y] hB.len, List.length_append, List.length_singleton]
   rw [cellsD_cons, cellsD_nil, List.append_nil]
   exact o'
 · rw [List.length_append, List.length_singleton] at hi
   by_cases hc : i < ds.length
   · rw [getD_app, if_pos (by rw [hB.blen]; exact hc)]
     rcases hat with q | q
     · exact hq i hc g (q ▸ e)
     · rw [q] at e
       have := Option.some.inj e
       have := (hB.inr i hc).2
       exact .inr (by omega)
   · rw [getD_app, if_neg (by rw [hB.blen]; omega), hB.blen, show i - ds.length = 0 by omega]
     show g < l ∨ u ≤ g
     rcases hat with q | q
     · exact .inl (by have := h.top g (q ▸ e); omega)
     · rw [q] at e
       have := Option.some.inj e
       exact .inr (by omega)
structure TabR (w : World) (r N : Nat) (ns : List Nd) : Prop where
 ex : ∃ gs : List Nat, (∀ i, i < N → w.cell? ⟨r, i, none⟩ = some (.pointer (some ⟨gs.getD i 0, 0, none⟩))) ∧ ∀ i, i < N → NodeR w (gs.getD i 0) i (ns.getD i nd0)
structure TrS (w : World) (r0 pB lo : Nat) (root : Int) (ds : List Nd) (v : Value) (wx : World) : Prop where
 box : wx.heap[pB]? = some (.cells #[v, .int .i64 root] 26 (0, 0))
 res : wx.heap[r0]? = some (.cells #[.slice none 0 0, .int .i64 0] 26)
 own : OwnD wx lo wx.heap.size v ds
 bel : Below w.heap.size w wx
 pos : w.heap.size ≤ r0 ∧ w.heap.size ≤ pB ∧ r0 ≠ pB ∧ r0 < lo ∧ pB < lo ∧ lo ≤ wx.heap.size
set_option maxHeartbeats 12800000 in
theorem impl_tree {q r N gr : Nat} {root : Int} {ns : List Nd} {w : World} (hq : w.heap[q]? = some (.cells #[.slice (some ⟨r, 0, none⟩) N N, .pointer (some ⟨gr, 0, none⟩)] 90)) (hroot : w.cell? ⟨gr, 0, none⟩ = some (.int .i64 root)) (hT : TabR w r N ns) (hN : N ≤ 300) (hl : ns.length = N) (hes : ∀ i, (ns.getD i nd0).es.length ≤ 4) (hks : ∀ i, (ns.getD i nd0).ks.length ≤ 5) (hm : ∀ i j, ((ns.getD i nd0).es.getD j en0).Z.length ≤ 2097152) (hkb : ∀ i j, -9223372036854775808 ≤ (ns.getD i nd0).ks.getD j 0 ∧ (ns.getD i nd0).ks.getD j 0 ≤ 9223372036854775807) :
 Calls Try.prog 57 #[.pointer (some ⟨q, 0, none⟩)] w fun e w' => ∃ v, e = .returned (.agg #[v, .int .i64 root]) ∧ OwnD w' w.heap.size w'.heap.size v ns ∧ Below w.heap.size w w' := by
 obtain ⟨gs, hp, hn⟩ := hT.ex
 have HP := hid hp
 have HNd := hid hn
 have HQ := hid (show q < w.heap.size ∧ w.heap[q]? = some (.cells #[.slice (some ⟨r, 0, none⟩) N N, .pointer (some ⟨gr, 0, none⟩)] 90) from ⟨(Array.getElem?_eq_some_iff.1 hq).1, hq⟩)
 have HRo := hid hroot
 have HL := hid hl
 have HEs := hid hes
 have HKs := hid hks
 have HM := hid hm
 have HKb := hid hkb
 have HA := hid (Below.alloc1 w (.cells #[.slice none 0 0, .int .i64 0] 26))
 have HR0 := hid (heap_alloc_new w (.cells #[.slice none 0 0, .int .i64 0] 26))
 have HZ0 := hid (alloc_size w (.cells #[.slice none 0 0, .int .i64 0] 26))
 clear hp hn hq hroot hl hes hks hm hkb hT
 go_enter Try.func57, Try.ntmps57
 go_upto_region 1 with fail
 generalize w.alloc (.cells #[.slice none 0 0, .int .i64 0] 26) = w1 at *
 obtain ⟨r0, hr0⟩ : ∃ r0, w.heap.size = r0 := ⟨_, rfl⟩
 have HPr := hid hr0
 rw [hr0] at HR0
 try simp only [hr0]
 clear hr0
 have cq : ∀ {p : Addr} {v : Value}, w.cell? p = some v → w1.cell? p = some v := fun e => (HA.out.cell (World.block_lt_of_cell? w _ e)).trans e
 have c1 := cq (show w.cell? ⟨q, 1, none⟩ = some (.pointer (some ⟨gr, 0, none⟩)) by rw [cell_of_row _ _ _ _ _ _ HQ.out.2]; rfl)
 have c2 := cq HRo.out
 have HBB := hid (Below.alloc1 w1 (.cells #[.slice none 0 0, .int .i64 root] 26))
 have HRB := hid (heap_alloc_new w1 (.cells #[.slice none 0 0, .int .i64 root] 26))
 have HZB := hid (alloc_size w1 (.cells #[.slice none 0 0, .int .i64 root] 26))
 have c0 := (HBB.out.cell (World.block_lt_of_cell? w1 _ (cq (show w.cell? ⟨q, 0, none⟩ = some (.slice (some ⟨r, 0, none⟩) N N) by rw [cell_of_row _ _ _ _ _ _ HQ.out.2]; rfl)))).trans (cq (show w.cell? ⟨q, 0, none⟩ = some (.slice (some ⟨r, 0, none⟩) N N) by rw [cell_of_row _ _ _ _ _ _ HQ.out.2]; rfl))
 clear cq
 go_wp2_with fail
 clear c0 c1 c2
 generalize w1.alloc (.cells #[.slice none 0 0, .int .i64 root] 26) = w2 at *
 obtain ⟨pB, hpB⟩ : ∃ pB, w1.heap.size = pB := ⟨_, rfl⟩
 have HPb := hid hpB
 rw [hpB] at HRB
 try simp only [hpB]
 clear hpB
 obtain ⟨lo, hlo⟩ : ∃ lo, w2.heap.size = lo := ⟨_, rfl⟩
 have HS := hid (show TrS w r0 pB lo root (ns.take 0) (.slice none 0 0) w2 from ⟨HRB.out, (HBB.out.block r0 (by have := HZ0.out; have := HPr.out; omega)).trans HR0.out, by rw [List.take_zero]; exact OwnD.nil _ _ _, HA.out.trans (HBB.out.mono HA.out.size), by have := HZ0.out; have := HPr.out; have := HPb.out; have := HZB.out; omega⟩)
 clear hlo
 go_loopw [19] (fun s wr => ∃ (k : Nat) (v : Value), k ≤ N ∧ s = .int .i64 k ∧ Hid (TrS w r0 pB lo root (ns.take k) v wr)) (fun s _ => N - (intOf s).toNat)
 case atStart => exact ⟨0, _, Nat.zero_le _, rfl, HS⟩
 case round =>
  clear HS
  obtain ⟨k, v, hk, rfl, HS⟩ := hrel
  by_cases hlt : k < N
  · have hlt' : (k : Int) < (N : Int) := by omega
    have hk0 : (0 : Int) ≤ (k : Int) := by omega
    have hkl : k < ns.length := by have := HL.out; omega
    have c4 := (HS.out.bel.cell (World.block_lt_of_cell? w _ (HP.out k hlt))).trans (HP.out k hlt)
    have HNk := hid (HNd.out k hlt)
    have hes := HEs.out k
    have hks := HKs.out k
    have HMk := hid (HM.out k)
    have HKk := hid (HKb.out k)
    have HT := hid (take_snoc ns k nd0 hkl)
    generalize ns.getD k nd0 = d at *
    generalize gs.getD k 0 = gk at *
    obtain ⟨av, cv, hv⟩ := HS.out.own.slice
    have hkl2 : (ns.take k).length = k := by rw [List.length_take]; omega
    rw [hkl2] at hv
    subst hv
    have HL2 := hid hkl2
    have HC := hid (show (fun W => W.cell? ⟨pB, 0, none⟩ = some (.slice av k cv)) wr from by dsimp only; rw [cell_of_row _ _ _ _ _ _ HS.out.box]; rfl)
    clear hkl2 hkl
    go_wp2_with fail
    clear c4
    refine region_K 7 (fun W => W.cell? ⟨pB, 0, none⟩ = some (.slice av k cv)) (by kernel_rfl) HC.out (fun hHeld => ?_)
    have HBw := hid (show Below wr.heap.size wr wr.drew from (Still.drew wr).below _)
    have HBe := hid (show wr.drew.heap.size = wr.heap.size from rfl)
    generalize wr.drew = vd at *
    refine anyK_take (i := 0) (v := ?vg0) rfl (by kernel_rfl) (by kernel_rfl) (by kernel_rfl) (by kernel_rfl) (fun _ _ _ h => h) (by rfl) hHeld ?hyg0 (some 23) (by rfl) ?restg0
    case hyg0 => (intro W hSw; (try dsimp only at hSw); go_simp; (try with_reducible rfl))
    try simp only [Act.put]
    try simp only [List.setIfInBounds_toArray]
    try simp only [List.set_cons_succ, List.set_cons_zero]
    refine anyK_take (i := 1) (v := ?vg1) rfl (by kernel_rfl) (by kernel_rfl) (by kernel_rfl) (by kernel_rfl) (fun _ _ _ h => h) (by rfl) hHeld ?hyg1 (some 24) (by rfl) ?restg1
    case hyg1 => (intro W hSw; (try dsimp only at hSw); go_simp; (try with_reducible rfl))
    try simp only [Act.put]
    try simp only [List.setIfInBounds_toArray]
    try simp only [List.set_cons_succ, List.set_cons_zero]
    refine anyK_take (i := 2) (v := ?vg2) rfl (by kernel_rfl) (by kernel_rfl) (by kernel_rfl) (by kernel_rfl) (fun _ _ _ h => h) (by rfl) hHeld ?hyg2 (some 25) (by rfl) ?restg2
    case hyg2 => (intro W hSw; (try dsimp only at hSw); go_simp; (try with_reducible rfl))
    try simp only [Act.put]
    try simp only [List.setIfInBounds_toArray]
    try simp only [List.set_cons_succ, List.set_cons_zero]
    refine anyK_step (i := 3) (by kernel_rfl) rfl (fun KP hK => ?_)
    go_simp
    have HBv := hid (HS.out.bel.trans (HBw.out.mono HS.out.bel.size))
    refine (impl_laid (HNk.out.below HBv.out) hes hks HMk.out HKk.out).mono ?_
    rintro e v1 ⟨y1, y2, rfl, od, b1⟩
    obtain ⟨mm, hm1, hm2, oE, oK⟩ := od.ex
    obtain ⟨ay, cy, hy1⟩ := oE.slice
    obtain ⟨az, cz, hy2⟩ := oK.slice
    dsimp only at hy1 hy2
    have HOd := hid od
    have HBv1 := hid (HBw.out.trans (b1.mono HBw.out.size))
    have HSz1 := hid b1.size
    have HY := hid (show y1.oneCell' = true ∧ y2.oneCell' = true from ⟨by rw [hy1]; rfl, by rw [hy2]; rfl⟩)
    clear od b1 oE oK hy1 hy2 hm1 hm2
    have HC1 := hid (show (fun W => W.cell? ⟨pB, 0, none⟩ = some (.slice av k cv)) v1 from (HBv1.out.cell (World.block_lt_of_cell? wr _ HC.out)).trans HC.out)
    clear hHeld
    go_wp2_with fail
    refine hK.out _ _ HC1.out (fun hHeld => ?_)
    clear hK KP
    try simp only [Act.put]
    try simp only [List.setIfInBounds_toArray]
    try simp only [List.set_cons_succ, List.set_cons_zero]
    refine anyK_step (i := 4) (by kernel_rfl) rfl (fun KP hK => ?_)
    go_simp
    have HBA := hid (Below.alloc1 v1 (.cells #[.bool d.leaf, y1, y2] 67))
    have HN1 := hid (heap_alloc_new v1 (.cells #[.bool d.leaf, y1, y2] 67))
    have HB2 := hid (HBv1.out.trans (HBA.out.mono HBv1.out.size))
    have HC2 := hid (show (fun W => W.cell? ⟨pB, 0, none⟩ = some (.slice av k cv)) (v1.alloc (.cells #[.bool d.leaf, y1, y2] 67)) from (HB2.out.cell (World.block_lt_of_cell? wr _ HC.out)).trans HC.out)
    clear hHeld
    refine hK.out _ _ HC2.out (fun hHeld => ?_)
    clear hK KP
    try simp only [Act.put]
    try simp only [List.setIfInBounds_toArray]
    try simp only [List.set_cons_succ, List.set_cons_zero]
    generalize v1.alloc (.cells #[.bool d.leaf, y1, y2] 67) = v2 at *
    obtain ⟨ys, oR, hPush⟩ := (HS.out.own.below HB2.out (Nat.le_refl _)).push HS.out.pos.2.2.2.2.2
    rw [HL2.out] at oR
    rw [HL2.out] at hPush
    have HRow := hid oR
    clear oR
    obtain ⟨i0, hi0, hz0, hz1, hz2⟩ := info_parts Try.infoNd11
    have hls := HS.out.pos.2.2.2.2.2
    have hls2 := HB2.out.size
    refine anyK_step (i := 5) (by kernel_rfl) rfl (fun KP hK => ?_)
    refine step_append11 rfl _ _ 24 rfl lo 67 i0 (.agg #[.bool false, .slice none 0 0, .slice none 0 0]) 3 56 Try.underlying24 hi0 hz0 hz1 hz2 rfl (by decide) _ k _ rfl HRow.out ⟨v1.heap.size, 0, none⟩ 1 1 [.bool d.leaf, y1, y2] rfl rfl (World.news_of_block HN1.out) ?g2g (by unfold maxLen; omega) (by omega) (by omega) ?_
    case g2g =>
     intro u hu
     simp only [List.mem_cons, List.not_mem_nil, or_false] at hu
     rcases hu with rfl | rfl | rfl
     · rfl
     · exact HY.out.1
     · exact HY.out.2
    intro a8 c8 w8 o8 g8 hat
    have HOw8 := hid (hPush (l := vd.heap.size) (u := v1.heap.size) (y := (y1, y2)) (d := d) (by rw [HBe.out]; exact Nat.le_refl _) HSz1.out HBA.out.size (HOd.out.agree (Agree.below HBA.out (Nat.le_refl _))) o8 g8 hat)
    rw [← HT.out] at HOw8
    have hne : ∀ p, p < lo → (Value.slice av k cv).ownBlock ≠ some p := fun p hp e => by have := (HRow.out.lt p e).1; omega
    have hpo := HS.out.pos
    have HBx8 := hid (show w8.heap[pB]? = some (.cells #[.slice av k cv, .int .i64 root] 26 (0, 0)) from (g8.block pB (by omega) (fun e => hne pB (by omega) e.symm)).trans ((HB2.out.block pB (by omega)).trans HS.out.box))
    have HRs8 := hid ((g8.block r0 (by omega) (fun e => hne r0 (by omega) e.symm)).trans ((HB2.out.block r0 (by omega)).trans HS.out.res))
    have HBb8 := hid ((HS.out.bel.trans (HB2.out.mono HS.out.bel.size)).grown g8 (HS.out.bel.trans (HB2.out.mono HS.out.bel.size)).size (fun p hp => by have := (HRow.out.lt p hp).1; omega))
    have HC8 := hid (show (fun W => W.cell? ⟨pB, 0, none⟩ = some (.slice av k cv)) w8 from by dsimp only; rw [cell_of_row _ _ _ _ _ _ HBx8.out]; rfl)
    have hs8 := g8.size
    have HFin := hid (show TrS w r0 pB lo root (ns.take (k + 1)) (.slice a8 (k + 1) c8) (w8.setCell ⟨pB, 0, none⟩ (.slice a8 (k + 1) c8)) from by
     refine ⟨by rw [heap_setCell_same _ _ _ _ _ _ HBx8.out]; rfl, (heap_set_ne _ pB 0 r0 _ (by omega)).trans HRs8.out, ?_, HBb8.out.setCell (show w.heap.size ≤ (⟨pB, 0, none⟩ : Addr).block by simp only; omega) _, by rw [set_size]; omega⟩
     rw [set_size]
     exact HOw8.out.agree (fun p p1 p2 => heap_set_ne _ pB 0 p _ (by omega)))
    have HFr := hid (frozen_of_row _ _ 0 _ _ HBx8.out)
    clear o8 g8 hat hne hHeld HRow hls hls2 HBx8 HRs8 HBb8 HOw8 HN1 hPush hpo hs8
    refine hK.out _ _ HC8.out (fun hHeld => ?_)
    clear hK KP
    try simp only [Act.put]
    try simp only [List.setIfInBounds_toArray]
    try simp only [List.set_cons_succ, List.set_cons_zero]
    refine anyK_step (i := 6) (by kernel_rfl) rfl (fun KP hK => ?_)
    go_simp
    clear hHeld
    refine hK.out _ _ HC8.out (fun hHeld => ?_)
    clear hK KP
    try simp only [Act.put]
    try simp only [List.setIfInBounds_toArray]
    try simp only [List.set_cons_succ, List.set_cons_zero]
    have kc2 := HC8.out
    have kf2 := HFr.out
    dsimp only at kc2
    refine anyK_last (by kernel_rfl) rfl (fun KP hK => ?_)
    go_simp
    refine hK.out _ _ ?_
    clear hK KP hHeld kc2 kf2
    try simp only [Act.put]
    refine anyK_done (by kernel_rfl) ?_ _
    clear HC8 HFr HC2 HC HC1
    generalize w8.setCell ⟨pB, 0, none⟩ (.slice a8 (k + 1) c8) = w9 at *
    go_wp2_with fail
    go_roundw
    case rel => exact ⟨k + 1, _, by omega, by go_num, HFin⟩
    case measure => simp [intOf]; omega
  · have hlt' : ¬ (k : Int) < (N : Int) := by omega
    have ho := HS.out.own
    rw [List.take_of_length_le (by have := HL.out; omega)] at ho
    obtain ⟨av, cv, hv⟩ := ho.slice
    rw [HL.out] at hv
    subst hv
    have hpo := HS.out.pos
    have g2 := row_grown11 wr r0 #[.slice av N cv, .int .i64 root]
    have HFin := hid (show OwnD (wr.setRow r0 #[.slice av N cv, .int .i64 root]) w.heap.size (wr.setRow r0 #[.slice av N cv, .int .i64 root]).heap.size (.slice av N cv) ns from by
     have hsz : (wr.setRow r0 #[.slice av N cv, .int .i64 root]).heap.size = wr.heap.size := by simp
     rw [hsz]
     exact (ho.agree (fun p p1 p2 => g2.block p p2 (by simp; omega))).mono (by omega) (Nat.le_refl _))
    have HBf := hid (below_setRow HS.out.bel hpo.1 #[.slice av N cv, .int .i64 root])
    have HRf := hid (show (wr.setRow r0 #[.slice av N cv, .int .i64 root]).heap[r0]? = some (.cells #[.slice av N cv, .int .i64 root] 26 (0, 0)) from setRow_heap _ _ _ _ _ _ HS.out.res)
    have HBx := hid HS.out.box
    have HRs := hid HS.out.res
    clear ho g2 hpo
    go_wp2_with (first
     | (refine wpList_load_row rfl 26 (.tmp 3) rfl pB rfl 26 _ (0, 0) _ HBx.out Try.underlying26 rfl size_tr11 ?_)
     | (refine wpList_store_row rfl 26 (.tmp 2) _ rfl r0 #[.slice av N cv, .int .i64 root] rfl rfl 26 _ HRs.out size_tr11 rfl (by simp [Value.oneCell']) ?_))
    exact bodyPost_ret (results_cell_row Try.results57 _ _ r0 26 _ (0, 0) _ rfl HRf.out Try.underlying26 rfl size_tr11) rfl ⟨_, rfl, HFin.out, HBf.out⟩
end Go.Proofs.Ytphmlndkjgldkaa
