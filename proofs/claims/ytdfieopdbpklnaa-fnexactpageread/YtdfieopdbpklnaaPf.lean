/- The contract of the specification's l7copy: the same page with memory of its own. Conditions: lists of at most 2^20 rows of at most 2^21 bytes. -/
import Derived.Test.YtdfieopdbpklnaaPs
namespace Go.Proofs.Ytdfieopdbpklnaa
open Go.RowKit
set_option maxRecDepth 100000

set_option maxHeartbeats 6400000 in
theorem spec_l7copy (L : Int) {a0 : Option Addr} {n : Nat} (c0 : Nat) {ss : List (List Int)} {w : World} (h : ReadsS w a0 ss) (hl : ss.length = n) (hn : n ≤ 1048576) (hb : ∀ i, (ss.getD i []).length ≤ 2097152) :
    Calls Try.prog 53 #[.agg #[.int .i64 L, .slice a0 n c0]] w fun e w' => ∃ a1 c1, e = .returned (.agg #[.int .i64 L, .slice a1 n c1]) ∧ OwnP w' w.heap.size w'.heap.size (.slice a1 n c1) ss ∧ Below w.heap.size w w' := by
  obtain ⟨i0, hi, hz0, hz1, hz2⟩ := info_parts Try.info22
  obtain ⟨k0', ki, kz0, kz1, kz2⟩ := info_parts Try.info5
  obtain ⟨XZ, X1, X2, BW⟩ := three w (.cells #[.int .i64 L, .slice a0 n c0] 26) (.cells #[.int .i64 0, .slice none 0 0] 26) (.cells #[.int .i64 L, .slice none 0 0] 26)
  have X0 : (((w.alloc (.cells #[.int .i64 L, .slice a0 n c0] 26)).alloc (.cells #[.int .i64 0, .slice none 0 0] 26)).alloc (.cells #[.int .i64 L, .slice none 0 0] 26)).heap[w.heap.size]? = some (.cells #[.int .i64 L, .slice a0 n c0] 26) := by
    rw [alloc_old _ _ _ (by simp; omega), alloc_old _ _ _ (by simp)]
    exact heap_alloc_new _ _
  have HSB := hid hb
  have HH := hid h
  clear hb
  go_enter Try.func53, Try.ntmps53
  go_wp2
  generalize ((w.alloc (.cells #[.int .i64 L, .slice a0 n c0] 26)).alloc (.cells #[.int .i64 0, .slice none 0 0] 26)).alloc (.cells #[.int .i64 L, .slice none 0 0] 26) = W0 at *
  have HX0 := hid X0
  have HX1 := hid X1
  have HX2 := hid X2
  have HBW := hid BW
  have HXZ := hid XZ
  clear X0 X1 X2 BW XZ h
  go_loopw [4] (fun i wr => ∃ (k : Nat) (a : Option Addr) (c : Nat) (xs : List Value), k ≤ n ∧ i = .int .i64 k ∧ xs.length = k ∧ Hid (wr.heap[w.heap.size]? = some (.cells #[.int .i64 L, .slice a0 n c0] 26)) ∧ Hid (wr.heap[w.heap.size + 1]? = some (.cells #[.int .i64 0, .slice none 0 0] 26)) ∧ Hid (wr.heap[w.heap.size + 1 + 1]? = some (.cells #[.int .i64 L, .slice a k c] 26)) ∧ Hid (wr.ownsRow (w.heap.size + 3) 22 1 (.slice a k c) k xs) ∧ Hid (Bands wr (w.heap.size + 3) wr.heap.size xs (ss.take k)) ∧ Hid (Below w.heap.size w wr) ∧ Hid (w.heap.size + 3 ≤ wr.heap.size)) (fun i _ => n - (intOf i).toNat)
  case atStart => exact ⟨0, none, 0, [], Nat.zero_le _, rfl, rfl, HX0, HX1, HX2, hid (World.ownsRow_nil _ _ _ _), hid (by rw [List.take_zero]; exact Bands.nil _ _ _), HBW, hid (by have := HXZ.out; omega)⟩
  case round =>
    obtain ⟨k, a, c, xs, hk, rfl, hx, hr1, hr2, hr3, hown, hB, hnx, hsz⟩ := hrel
    have y0 : wr.cell? ⟨w.heap.size, 1, none⟩ = some (.slice a0 n c0) := by rw [cell_of_row _ _ _ _ _ _ hr1.out]; rfl
    by_cases hlt : k < n
    · have hlt' : (k : Int) < (n : Int) := by omega
      have hk0 : (0 : Int) ≤ (k : Int) := by omega
      have d0 : wr.cell? ⟨w.heap.size + 1 + 1, 1, none⟩ = some (.slice a k c) := by rw [cell_of_row _ _ _ _ _ _ hr3.out]; rfl
      have f0 : wr.frozen? ⟨w.heap.size + 1 + 1, 1, none⟩ = false := frozen_of_row _ _ _ _ _ hr3.out
      rcases HH.out.cells with h0 | ⟨b, off, rfl, hc⟩
      · omega
      obtain ⟨v, hcx0, ax, cx, rfl, hr0, hnil, _⟩ := hc k (by omega)
      have hbl := World.block_lt_of_cell? w _ hcx0
      have hcx : wr.cell? ⟨b, off + k, none⟩ = some (.slice ax (ss.getD k []).length cx) := (hnx.out.cell (by exact hbl)).trans hcx0
      have hr := hr0.below hnx.out (Nat.le_refl _)
      have HT := hid (take_snoc ss k [] (by omega))
      have Hbd := hid hr0.bd
      have hm2 := HSB.out k
      generalize ss.getD k [] = zs at *
      obtain ⟨m, hlen⟩ : ∃ m, zs.length = m := ⟨_, rfl⟩
      rw [hlen] at hcx hr hm2
      have HM := hid hlen
      have HR := hid hr
      have HNI := hid hnil
      have HK' := hid (show ∀ X, Below wr.heap.size wr X → X.cell? ⟨w.heap.size + 1 + 1, 1, none⟩ = some (.slice a k c) ∧ X.frozen? ⟨w.heap.size + 1 + 1, 1, none⟩ = false ∧ X.cell? ⟨w.heap.size, 1, none⟩ = some (.slice (some ⟨b, off, none⟩) n c0) ∧ X.cell? ⟨b, off + k, none⟩ = some (.slice ax m cx) from fun X bb => ⟨(bb.cell (p := ⟨w.heap.size + 1 + 1, 1, none⟩) (by have := hsz.out; show w.heap.size + 1 + 1 < _; omega)).trans d0, (bb.frozen (p := ⟨w.heap.size + 1 + 1, 1, none⟩) (by have := hsz.out; show w.heap.size + 1 + 1 < _; omega)).trans f0, (bb.cell (p := ⟨w.heap.size, 1, none⟩) (by have := hsz.out; show w.heap.size < _; omega)).trans y0, (bb.cell (p := ⟨b, off + k, none⟩) (World.block_lt_of_cell? wr _ hcx)).trans hcx⟩)
      have HNE := hid (show some (w.heap.size + 1 + 1) ≠ (Value.slice a k c).ownBlock from fun e => by have := (hown.out.lt _ e.symm).1; omega)
      have HNE0 := hid (show some w.heap.size ≠ (Value.slice a k c).ownBlock from fun e => by have := (hown.out.lt _ e.symm).1; omega)
      have HNEb := hid (show some b ≠ (Value.slice a k c).ownBlock from fun e => by have := (hown.out.lt _ e.symm).1; have : b < w.heap.size := hbl; omega)
      have H0 := hid (World.ownsRow_lit (base := wr.heap.size) (e := 5) (size := 1) wr #[] 0 (Nat.le_refl _) (Nat.zero_le _) rfl)
      clear hc hcx0 hr0 hlen hbl hr hnil
      go_wp2
      clear hcx y0 d0 f0
      refine region_K 12 (fun W => W.cell? ⟨w.heap.size + 1 + 1, 1, none⟩ = some (.slice a k c) ∧ W.frozen? ⟨w.heap.size + 1 + 1, 1, none⟩ = false ∧ W.cell? ⟨w.heap.size, 1, none⟩ = some (.slice (some ⟨b, off, none⟩) n c0) ∧ W.cell? ⟨b, off + k, none⟩ = some (.slice ax m cx)) (by kernel_rfl) ?_ (fun hHeld => ?_)
      · exact HK'.out _ ((Below.refl _ wr).drew)
      refine anyK_take (i := 0) (v := ?v101) rfl (by kernel_rfl) (by kernel_rfl) (by kernel_rfl) (by kernel_rfl) (fun _ _ _ h => h) (by rfl) hHeld ?hy101 (some 15) (by rfl) ?rest101
      case hy101 => (intro W hSw; (try dsimp only at hSw); go_simp; (try with_reducible rfl))
      try simp only [Act.put]
      try simp only [List.setIfInBounds_toArray]
      try simp only [List.set_cons_succ, List.set_cons_zero]
      refine anyK_take (i := 1) (v := ?v102) rfl (by kernel_rfl) (by kernel_rfl) (by kernel_rfl) (by kernel_rfl) (fun _ _ _ h => h) (by rfl) hHeld ?hy102 (some 16) (by rfl) ?rest102
      case hy102 => (intro W hSw; (try dsimp only at hSw); go_simp; (try with_reducible rfl))
      try simp only [Act.put]
      try simp only [List.setIfInBounds_toArray]
      try simp only [List.set_cons_succ, List.set_cons_zero]
      refine anyK_take (i := 3) (v := ?v103) rfl (by kernel_rfl) (by kernel_rfl) (by kernel_rfl) (by kernel_rfl) (fun _ _ _ h => h) (by rfl) hHeld ?hy103 (some 18) (by rfl) ?rest103
      case hy103 => (intro W hSw; (try dsimp only at hSw); go_simp; (try with_reducible rfl))
      try simp only [Act.put]
      try simp only [List.setIfInBounds_toArray]
      try simp only [List.set_cons_succ, List.set_cons_zero]
      refine anyK_take (i := 4) (v := ?v104) rfl (by kernel_rfl) (by kernel_rfl) (by kernel_rfl) (by kernel_rfl) (fun _ _ _ h => h) (by rfl) hHeld ?hy104 (some 19) (by rfl) ?rest104
      case hy104 => (intro W hSw; (try dsimp only at hSw); go_simp; (try with_reducible rfl))
      try simp only [Act.put]
      try simp only [List.setIfInBounds_toArray]
      try simp only [List.set_cons_succ, List.set_cons_zero]
      refine anyK_take (i := 5) (v := ?v105) rfl (by kernel_rfl) (by kernel_rfl) (by kernel_rfl) (by kernel_rfl) (fun _ _ _ h => h) (by rfl) hHeld ?hy105 (some 20) (by rfl) ?rest105
      case hy105 => (intro W hSw; (try dsimp only at hSw); go_simp; (try with_reducible rfl))
      try simp only [Act.put]
      try simp only [List.setIfInBounds_toArray]
      try simp only [List.set_cons_succ, List.set_cons_zero]
      refine anyK_take (i := 6) (v := ?v106) rfl (by kernel_rfl) (by kernel_rfl) (by kernel_rfl) (by kernel_rfl) (fun _ _ _ h => h) (by rfl) hHeld ?hy106 (some 21) (by rfl) ?rest106
      case hy106 => (intro W hSw; (try dsimp only at hSw); go_simp; (try with_reducible rfl))
      try simp only [Act.put]
      try simp only [List.setIfInBounds_toArray]
      try simp only [List.set_cons_succ, List.set_cons_zero]
      refine anyK_take (i := 7) (v := ?v107) rfl (by kernel_rfl) (by kernel_rfl) (by kernel_rfl) (by kernel_rfl) (fun _ _ _ h => h) (by rfl) hHeld ?hy107 (some 22) (by rfl) ?rest107
      case hy107 => (intro W hSw; (try dsimp only at hSw); go_simp; (try with_reducible rfl))
      try simp only [Act.put]
      try simp only [List.setIfInBounds_toArray]
      try simp only [List.set_cons_succ, List.set_cons_zero]
      refine anyK_step (i := 2) (by kernel_rfl) rfl (fun K hK => ?_)
      go_simp
      refine hK.out _ _ ?_ (fun hH2 => ?_)
      · exact HK'.out _ ((bel_al (Below.refl _ wr) _).drew)
      clear hK K hHeld
      have hHeld := hH2
      clear hH2
      try simp only [Act.put]
      try simp only [List.setIfInBounds_toArray]
      try simp only [List.set_cons_succ, List.set_cons_zero]
      refine anyK_step (i := 8) (by kernel_rfl) rfl (fun K hK => ?_)
      refine step_append_row (by rfl) _ _ _ (by rfl) wr.heap.size 5 k0' (.int .u8 0) 1 1 Try.underlying22 ki kz0 kz1 kz2 rfl (by omega) (.slice (some ⟨wr.heap.size, 0, none⟩) 0 0) 0 [] (by rfl) (by simpa using H0.out.drew) ax m cx (bys zs) (by rfl) (by rw [bys_length, HM.out, Nat.mul_one]) ((HR.out.below (bel_al (Below.refl _ wr) _).drew (Nat.le_refl _)).news' HNI.out) HR.out.nil0 (bys_one _) (by unfold maxLen; omega) (by omega) (by simp) ?_
      intro av cv u hob hgb
      rw [Nat.zero_add, List.nil_append] at hob
      have bu := ((bel_al (Below.refl wr.heap.size wr) (.cells #[] 5)).drew).grown hgb (by simp) (fun q hq => by cases hq; exact Nat.le_refl _)
      have HO1 := hid hob
      have HBU := hid bu
      clear hob hgb bu
      simp only [Nat.zero_add]
      refine hK.out _ _ ?_ (fun hH2 => ?_)
      · exact HK'.out _ HBU.out
      clear hK K hHeld
      have hHeld := hH2
      clear hH2
      try simp only [Act.put]
      try simp only [List.setIfInBounds_toArray]
      try simp only [List.set_cons_succ, List.set_cons_zero]
      refine anyK_step (i := 9) (by kernel_rfl) rfl (fun K hK => ?_)
      go_simp
      refine hK.out _ _ ?_ (fun hH2 => ?_)
      · exact HK'.out _ (bel_al HBU.out _)
      clear hK K hHeld
      have hHeld := hH2
      clear hH2
      try simp only [Act.put]
      try simp only [List.setIfInBounds_toArray]
      try simp only [List.set_cons_succ, List.set_cons_zero]
      refine anyK_step (i := 10) (by kernel_rfl) rfl (fun K hK => ?_)
      refine step_append_row (by rfl) _ _ _ (by rfl) (w.heap.size + 3) 22 i0 (.slice none 0 0) 1 24 Try.underlying24 hi hz0 hz1 hz2 rfl (by omega) (.slice a k c) k xs (by rfl) (owns_below (bel_al HBU.out _) (Nat.le_refl _) hown.out) (some ⟨u.heap.size, 0, none⟩) 1 1 [.slice av m cv] (by rfl) rfl (.inr ⟨_, rfl, World.news_of_block (heap_alloc_new u _)⟩) (fun e => by cases e) (by simp [Value.oneCell']) (by unfold maxLen; omega) (by omega) (by have := hsz.out; have := HBU.out.size; simp; omega) ?_
      intro g' cap w1 hown1 hgrow
      obtain ⟨s1, s2, s3, s4⟩ := HK'.out _ (bel_al HBU.out (.cells #[.slice av m cv] 22))
      have k0 := hgrow.cell s1 HNE.out
      have k1 := (hgrow.frozen_far ⟨w.heap.size + 1 + 1, 1, none⟩ (by have := hsz.out; have := HBU.out.size; simp; omega) HNE.out).trans s2
      have k2 := hgrow.cell s3 HNE0.out
      have k3 := hgrow.cell s4 HNEb.out
      clear s1 s2 s3 s4
      refine hK.out _ _ ?_ (fun hH2 => ?_)
      · exact ⟨k0, k1, k2, k3⟩
      clear hK K hHeld
      have hHeld := hH2
      clear hH2
      try simp only [Act.put]
      try simp only [List.setIfInBounds_toArray]
      try simp only [List.set_cons_succ, List.set_cons_zero]
      refine anyK_take (i := 11) (v := ?v112) rfl (by kernel_rfl) (by kernel_rfl) (by kernel_rfl) (by kernel_rfl) (fun _ _ _ h => h) (by rfl) hHeld ?hy112 (some 26) (by rfl) ?rest112
      case hy112 => (intro W hSw; (try dsimp only at hSw); go_simp; (try with_reducible rfl))
      try simp only [Act.put]
      try simp only [List.setIfInBounds_toArray]
      try simp only [List.set_cons_succ, List.set_cons_zero]
      refine anyK_last (by kernel_rfl) rfl (fun K hK => ?_)
      go_simp
      refine hK.out _ _ ?_
      clear hK K hHeld
      refine anyK_done (by kernel_rfl) ?_ _
      have bX := bel_al HBU.out (.cells #[.slice av m cv] 22)
      have hB1 := hB.out.grow hsz.out bX (by rw [HM.out]; exact HO1.out.alloc _) Hbd.out (owns_below bX (Nat.le_refl _) hown.out) (by decide) hgrow
      rw [← HT.out] at hB1
      have V1 : w1.heap[w.heap.size]? = _ := (hgrow.block w.heap.size (by have := bX.size; have := hsz.out; omega) HNE0.out).trans ((bX.block w.heap.size (by have := hsz.out; omega)).trans hr1.out)
      have V2 : w1.heap[w.heap.size + 1]? = _ := (hgrow.block (w.heap.size + 1) (by have := bX.size; have := hsz.out; omega) (fun e => by have := (hown.out.lt _ e.symm).1; omega)).trans ((bX.block (w.heap.size + 1) (by have := hsz.out; omega)).trans hr2.out)
      have V3 : w1.heap[w.heap.size + 1 + 1]? = _ := (hgrow.block (w.heap.size + 1 + 1) (by have := bX.size; have := hsz.out; omega) HNE.out).trans ((bX.block (w.heap.size + 1 + 1) (by have := hsz.out; omega)).trans hr3.out)
      have U1 := hid ((heap_set_ne w1 (w.heap.size + 1 + 1) 1 w.heap.size (.slice g' (k + 1) cap) (by omega)).trans V1)
      have U2 := hid ((heap_set_ne w1 (w.heap.size + 1 + 1) 1 (w.heap.size + 1) (.slice g' (k + 1) cap) (by omega)).trans V2)
      have U3 := hid (heap_setCell_same w1 (w.heap.size + 1 + 1) 1 _ 26 (.slice g' (k + 1) cap) V3)
      have ag : Agree (w.heap.size + 3) w1.heap.size w1 (w1.setCell ⟨w.heap.size + 1 + 1, 1, none⟩ (.slice g' (k + 1) cap)) := fun q h1 _ => heap_set_ne _ _ _ _ _ (by omega)
      have HO := hid (owns_agree hown1 ag (fun q hq => hown1.lt q hq))
      have HBs := hid (hB1.agree ag)
      have HBl := hid (((hnx.out.trans (bX.mono hnx.out.size)).grown hgrow (Nat.le_trans hnx.out.size bX.size) (fun q hq => by have := (hown.out.lt q hq).1; omega)).setCell (p := ⟨w.heap.size + 1 + 1, 1, none⟩) (by simp; omega) (.slice g' (k + 1) cap))
      have HSz := hid (show w.heap.size + 3 ≤ w1.heap.size by have := hsz.out; have := bX.size; have := hgrow.size; omega)
      clear bX hB1 V1 V2 V3 ag hown1 hgrow k0 k1 k2 k3 hr1 hr2 hr3 hown hB hnx hsz HK' HNE HNE0 HNEb HBU HO1 HR H0
      go_wp2
      go_roundw
      case rel => exact ⟨k + 1, g', cap, xs ++ [.slice av m cv], by omega, by go_num, by simp [hx], U1, U2, U3, HO, hid (by simpa using HBs.out), HBl, hid (by simpa using HSz.out)⟩
      case measure => simp [intOf]; omega
    · have hlt' : ¬ (k : Int) < (n : Int) := by omega
      obtain rfl : k = n := by omega
      have hBs := hB.out
      rw [List.take_of_length_le (by omega)] at hBs
      have OW := hid (show OwnP wr (w.heap.size + 3) wr.heap.size (.slice a k c) ss from ⟨⟨xs, by rw [hl]; exact hown.out, hBs⟩, fun g hg => (hown.out.lt g hg).2⟩)
      clear hB hBs hown
      go_wp2_with (first
        | (refine wpList_load_row rfl 26 (.tmp 3) rfl (w.heap.size + 1 + 1) rfl 26 _ (0, 0) _ hr3.out Try.underlying26 rfl size_pg ?_)
        | (refine wpList_store_row rfl 26 (.tmp 2) (.tmp 27) rfl (w.heap.size + 1) #[.int .i64 L, .slice a k c] rfl rfl 26 _ hr2.out ?s1 ?s2 ?s3 ?_))
      case s1 => simpa using size_pg
      case s3 => simp [Value.oneCell']
      have hz := hsz.out
      refine bodyPost_ret (results_cell_row Try.results53 _ _ (w.heap.size + 1) 26 #[.int .i64 L, .slice a k c] (0, 0) _ rfl (setRow_heap _ _ _ _ _ _ hr2.out) Try.underlying26 rfl size_pg) rfl ⟨a, c, rfl, ((OW.out.agree fun q h1 h2 => ?_).mono (by omega) (by simp)), below_setRow hnx.out (by omega) _⟩
      rw [setRow_other _ _ _ _ (by omega)]
end Go.Proofs.Ytdfieopdbpklnaa
