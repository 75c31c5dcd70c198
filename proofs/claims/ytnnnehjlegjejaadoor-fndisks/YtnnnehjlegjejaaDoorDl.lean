/- The contract of the specification's l4copy: the same disk with memory of its own. Conditions: lists of at most 2^20 rows of 1 to 2^21 bytes. -/
import Derived.Test.YtnnnehjlegjejaaDoorDc
namespace Go.Proofs.YtnnnehjlegjejaaDoor
open Go.RowKit

theorem row_pos {w : World} {v : Value} {zs : List Int} (h : Row w v zs) (hp : 0 < zs.length) : ∃ b off c, v = .slice (some ⟨b, off, none⟩) zs.length c ∧ Reads w (some ⟨b, off, none⟩) zs.length zs := by
  obtain ⟨a, c, rfl, r, _⟩ := h
  obtain ⟨b, off, rfl⟩ := r.pos hp
  exact ⟨b, off, c, rfl, r⟩

set_option maxRecDepth 100000 in
set_option maxHeartbeats 6400000 in
theorem spec_l4copy {aS aW : Option Addr} {nS nW : Nat} (cS cW : Nat) {ss : List (List Int)} {ws : List (Int × List Int)} (F : Int) (D : Bool) {w : World} (h : ReadsD w aS aW ss ws) (lS : ss.length = nS) (lW : ws.length = nW) (hS : nS ≤ 1048576) (hW : nW ≤ 1048576)
    (hbS : ∀ i, i < nS → (ss.getD i []).length = 64) (hbW : ∀ i, i < nW → (ws.getD i w0).2.length = 64) :
    Calls Tryd.prog 34 #[.agg #[.slice aS nS cS, .slice aW nW cW, .int .i64 F, .bool D]] w fun e w' => ∃ a1 c1 a2 c2, e = .returned (.agg #[.slice a1 nS c1, .slice a2 nW c2, .int .i64 F, .bool D]) ∧ OwnD w' w.heap.size w'.heap.size (.slice a1 nS c1) (.slice a2 nW c2) ss ws ∧ Below w.heap.size w w' := by
  obtain ⟨i0, hi, hz0, hz1, hz2⟩ := info_parts Tryd.info22
  obtain ⟨j0, ji, jz0, jz1, jz2⟩ := info_parts Tryd.infoWr
  obtain ⟨k0', ki, kz0, kz1, kz2⟩ := info_parts Tryd.info5
  obtain ⟨XZ, X1, X2, BW⟩ := three w (.cells #[.slice aS nS cS, .slice aW nW cW, .int .i64 F, .bool D] 27) (.cells #[.slice none 0 0, .slice none 0 0, .int .i64 0, .bool false] 27) (.cells #[.slice none 0 0, .slice none 0 0, .int .i64 F, .bool D] 27)
  have X0 : (((w.alloc (.cells #[.slice aS nS cS, .slice aW nW cW, .int .i64 F, .bool D] 27)).alloc (.cells #[.slice none 0 0, .slice none 0 0, .int .i64 0, .bool false] 27)).alloc (.cells #[.slice none 0 0, .slice none 0 0, .int .i64 F, .bool D] 27)).heap[w.heap.size]? = some (.cells #[.slice aS nS cS, .slice aW nW cW, .int .i64 F, .bool D] 27) := by
    rw [alloc_old _ _ _ (by simp; omega), alloc_old _ _ _ (by simp)]
    exact heap_alloc_new _ _
  have HSB := hid hbS
  have HWB := hid hbW
  have HH := hid h
  clear hbS hbW
  go_enter Tryd.func34, Tryd.ntmps34
  go_wp2
  generalize ((w.alloc (.cells #[.slice aS nS cS, .slice aW nW cW, .int .i64 F, .bool D] 27)).alloc (.cells #[.slice none 0 0, .slice none 0 0, .int .i64 0, .bool false] 27)).alloc (.cells #[.slice none 0 0, .slice none 0 0, .int .i64 F, .bool D] 27) = W0 at *
  have HX0 := hid X0
  have HX1 := hid X1
  have HX2 := hid X2
  have HBW := hid BW
  have HXZ := hid XZ
  clear X0 X1 X2 BW XZ h
  go_loopw [4] (fun i wr => ∃ (k : Nat) (a : Option Addr) (c : Nat) (xs : List Value), k ≤ nS ∧ i = .int .i64 k ∧ xs.length = k ∧ Hid (wr.heap[w.heap.size]? = some (.cells #[.slice aS nS cS, .slice aW nW cW, .int .i64 F, .bool D] 27)) ∧ Hid (wr.heap[w.heap.size + 1]? = some (.cells #[.slice none 0 0, .slice none 0 0, .int .i64 0, .bool false] 27)) ∧ Hid (wr.heap[w.heap.size + 1 + 1]? = some (.cells #[.slice a k c, .slice none 0 0, .int .i64 F, .bool D] 27)) ∧ Hid (wr.ownsRow (w.heap.size + 3) 22 1 (.slice a k c) k xs) ∧ Hid (Bands wr (w.heap.size + 3) wr.heap.size xs (ss.take k)) ∧ Hid (Below w.heap.size w wr) ∧ Hid (w.heap.size + 3 ≤ wr.heap.size)) (fun i _ => nS - (intOf i).toNat)
  case atStart => exact ⟨0, none, 0, [], Nat.zero_le _, rfl, rfl, HX0, HX1, HX2, hid (World.ownsRow_nil _ _ _ _), hid (by rw [List.take_zero]; exact Bands.nil _ _ _), HBW, hid (by have := HXZ.out; omega)⟩
  case round =>
    obtain ⟨k, a, c, xs, hk, rfl, hx, hr1, hr2, hr3, hown, hB, hnx, hsz⟩ := hrel
    have y0 : wr.cell? ⟨w.heap.size, 0, none⟩ = some (.slice aS nS cS) := by rw [cell_of_row _ _ _ _ _ _ hr1.out]; rfl
    by_cases hlt : k < nS
    · have hlt' : (k : Int) < (nS : Int) := by omega
      have hk0 : (0 : Int) ≤ (k : Int) := by omega
      have c0 : wr.cell? ⟨w.heap.size + 1 + 1, 0, none⟩ = some (.slice a k c) := by rw [cell_of_row _ _ _ _ _ _ hr3.out]; rfl
      have f0 : wr.frozen? ⟨w.heap.size + 1 + 1, 0, none⟩ = false := frozen_of_row _ _ _ _ _ hr3.out
      rcases HH.out.s.cells with h0 | ⟨b, off, rfl, hc⟩
      · omega
      obtain ⟨v, hcx0, hrow⟩ := hc k (by omega)
      have hlen := HSB.out k hlt
      obtain ⟨bx, ox, cx, rfl, hr0⟩ := row_pos hrow (by omega)
      have hbl := World.block_lt_of_cell? w _ hcx0
      have hcx : wr.cell? ⟨b, off + k, none⟩ = some (.slice (some ⟨bx, ox, none⟩) (ss.getD k []).length cx) := (hnx.out.cell (by exact hbl)).trans hcx0
      have hr := hr0.below hnx.out (Nat.le_refl _)
      have HT := hid (take_snoc ss k [] (by omega))
      have Hbd := hid hr0.bd
      generalize ss.getD k [] = zs at *
      rw [hlen] at hcx hr
      have HM := hid hlen
      have HR := hid hr
      have HK' := hid (show ∀ X, Below wr.heap.size wr X → X.cell? ⟨w.heap.size + 1 + 1, 0, none⟩ = some (.slice a k c) ∧ X.frozen? ⟨w.heap.size + 1 + 1, 0, none⟩ = false ∧ X.cell? ⟨w.heap.size, 0, none⟩ = some (.slice (some ⟨b, off, none⟩) nS cS) ∧ X.cell? ⟨b, off + k, none⟩ = some (.slice (some ⟨bx, ox, none⟩) 64 cx) from fun X bb => ⟨(bb.cell (p := ⟨w.heap.size + 1 + 1, 0, none⟩) (by have := hsz.out; show w.heap.size + 1 + 1 < _; omega)).trans c0, (bb.frozen (p := ⟨w.heap.size + 1 + 1, 0, none⟩) (by have := hsz.out; show w.heap.size + 1 + 1 < _; omega)).trans f0, (bb.cell (p := ⟨w.heap.size, 0, none⟩) (by have := hsz.out; show w.heap.size < _; omega)).trans y0, (bb.cell (p := ⟨b, off + k, none⟩) (World.block_lt_of_cell? wr _ hcx)).trans hcx⟩)
      have HNE := hid (show some (w.heap.size + 1 + 1) ≠ (Value.slice a k c).ownBlock from fun e => by have := (hown.out.lt _ e.symm).1; omega)
      have HNE0 := hid (show some w.heap.size ≠ (Value.slice a k c).ownBlock from fun e => by have := (hown.out.lt _ e.symm).1; omega)
      have HNEb := hid (show some b ≠ (Value.slice a k c).ownBlock from fun e => by have := (hown.out.lt _ e.symm).1; have : b < w.heap.size := hbl; omega)
      have H0 := hid (World.ownsRow_lit (base := wr.heap.size) (e := 5) (size := 1) wr #[] 0 (Nat.le_refl _) (Nat.zero_le _) rfl)
      clear hc hcx0 hr0 hlen hbl hrow hr
      go_wp2
      clear hcx y0 c0 f0
      refine region_K 12 (fun W => W.cell? ⟨w.heap.size + 1 + 1, 0, none⟩ = some (.slice a k c) ∧ W.frozen? ⟨w.heap.size + 1 + 1, 0, none⟩ = false ∧ W.cell? ⟨w.heap.size, 0, none⟩ = some (.slice (some ⟨b, off, none⟩) nS cS) ∧ W.cell? ⟨b, off + k, none⟩ = some (.slice (some ⟨bx, ox, none⟩) 64 cx)) (by kernel_rfl) ?_ (fun hHeld => ?_)
      · exact HK'.out _ ((Below.refl _ wr).drew)
      refine anyK_take (i := 0) (v := ?v301) rfl (by kernel_rfl) (by kernel_rfl) (by kernel_rfl) (by kernel_rfl) (fun _ _ _ h => h) (by rfl) hHeld ?hy301 (some 18) (by rfl) ?rest301
      case hy301 => (intro W hSw; (try dsimp only at hSw); go_simp; (try with_reducible rfl))
      try simp only [Act.put]
      try simp only [List.setIfInBounds_toArray]
      try simp only [List.set_cons_succ, List.set_cons_zero]
      refine anyK_take (i := 1) (v := ?v302) rfl (by kernel_rfl) (by kernel_rfl) (by kernel_rfl) (by kernel_rfl) (fun _ _ _ h => h) (by rfl) hHeld ?hy302 (some 19) (by rfl) ?rest302
      case hy302 => (intro W hSw; (try dsimp only at hSw); go_simp; (try with_reducible rfl))
      try simp only [Act.put]
      try simp only [List.setIfInBounds_toArray]
      try simp only [List.set_cons_succ, List.set_cons_zero]
      refine anyK_take (i := 3) (v := ?v303) rfl (by kernel_rfl) (by kernel_rfl) (by kernel_rfl) (by kernel_rfl) (fun _ _ _ h => h) (by rfl) hHeld ?hy303 (some 21) (by rfl) ?rest303
      case hy303 => (intro W hSw; (try dsimp only at hSw); go_simp; (try with_reducible rfl))
      try simp only [Act.put]
      try simp only [List.setIfInBounds_toArray]
      try simp only [List.set_cons_succ, List.set_cons_zero]
      refine anyK_take (i := 4) (v := ?v304) rfl (by kernel_rfl) (by kernel_rfl) (by kernel_rfl) (by kernel_rfl) (fun _ _ _ h => h) (by rfl) hHeld ?hy304 (some 22) (by rfl) ?rest304
      case hy304 => (intro W hSw; (try dsimp only at hSw); go_simp; (try with_reducible rfl))
      try simp only [Act.put]
      try simp only [List.setIfInBounds_toArray]
      try simp only [List.set_cons_succ, List.set_cons_zero]
      refine anyK_take (i := 5) (v := ?v305) rfl (by kernel_rfl) (by kernel_rfl) (by kernel_rfl) (by kernel_rfl) (fun _ _ _ h => h) (by rfl) hHeld ?hy305 (some 23) (by rfl) ?rest305
      case hy305 => (intro W hSw; (try dsimp only at hSw); go_simp; (try with_reducible rfl))
      try simp only [Act.put]
      try simp only [List.setIfInBounds_toArray]
      try simp only [List.set_cons_succ, List.set_cons_zero]
      refine anyK_take (i := 6) (v := ?v306) rfl (by kernel_rfl) (by kernel_rfl) (by kernel_rfl) (by kernel_rfl) (fun _ _ _ h => h) (by rfl) hHeld ?hy306 (some 24) (by rfl) ?rest306
      case hy306 => (intro W hSw; (try dsimp only at hSw); go_simp; (try with_reducible rfl))
      try simp only [Act.put]
      try simp only [List.setIfInBounds_toArray]
      try simp only [List.set_cons_succ, List.set_cons_zero]
      refine anyK_take (i := 7) (v := ?v307) rfl (by kernel_rfl) (by kernel_rfl) (by kernel_rfl) (by kernel_rfl) (fun _ _ _ h => h) (by rfl) hHeld ?hy307 (some 25) (by rfl) ?rest307
      case hy307 => (intro W hSw; (try dsimp only at hSw); go_simp; (try with_reducible rfl))
      try simp only [Act.put]
      try simp only [List.setIfInBounds_toArray]
      try simp only [List.set_cons_succ, List.set_cons_zero]
      refine anyK_step (i := 2) (by kernel_rfl) rfl (fun K hK => ?_)
      go_simp
      refine hK.out _ _ ?_ (fun hH2 => ?_)
      · exact HK'.out _ ((bel_al (Below.refl _ wr) _).drew)
      clear hK K hHeld
      have hHeld := hH2
      clear hH2
      try simp only [Act.put]
      try simp only [List.setIfInBounds_toArray]
      try simp only [List.set_cons_succ, List.set_cons_zero]
      refine anyK_step (i := 8) (by kernel_rfl) rfl (fun K hK => ?_)
      refine step_append_lies _ (by rfl) _ _ _ (by rfl) wr.heap.size 5 k0' (.int .u8 0) 1 1 Tryd.underlying22 ki kz0 kz1 kz2 rfl (by omega) (.slice (some ⟨wr.heap.size, 0, none⟩) 0 0) 0 [] (by rfl) (by simpa using H0.out.drew) ⟨bx, ox, none⟩ 64 cx (bys zs) (by rfl) (by rw [bys_length, HM.out]) (HR.out.below (bel_al (Below.refl _ wr) _).drew (Nat.le_refl _)).news (bys_one _) (by omega) (by unfold maxLen; omega) (by omega) (by simp) _ rfl ?_
      intro gv cv u hob hgb hab hlb
      rw [Nat.zero_add, List.nil_append] at hob
      have bu := ((bel_al (Below.refl wr.heap.size wr) (.cells #[] 5)).drew).grown hgb (by simp) (fun q hq => by cases hq; exact Nat.le_refl _)
      have HO1 := hid hob
      have HBU := hid bu
      clear hob hgb hab hlb bu
      simp only [Nat.zero_add]
      refine hK.out _ _ ?_ (fun hH2 => ?_)
      · exact HK'.out _ HBU.out
      clear hK K hHeld
      have hHeld := hH2
      clear hH2
      try simp only [Act.put]
      try simp only [List.setIfInBounds_toArray]
      try simp only [List.set_cons_succ, List.set_cons_zero]
      refine anyK_step (i := 9) (by kernel_rfl) rfl (fun K hK => ?_)
      go_simp
      refine hK.out _ _ ?_ (fun hH2 => ?_)
      · exact HK'.out _ (bel_al HBU.out _)
      clear hK K hHeld
      have hHeld := hH2
      clear hH2
      try simp only [Act.put]
      try simp only [List.setIfInBounds_toArray]
      try simp only [List.set_cons_succ, List.set_cons_zero]
      refine anyK_step (i := 10) (by kernel_rfl) rfl (fun K hK => ?_)
      refine step_append_lies _ (by rfl) _ _ _ (by rfl) (w.heap.size + 3) 22 i0 (.slice none 0 0) 1 24 Tryd.underlying24 hi hz0 hz1 hz2 rfl (by omega) (.slice a k c) k xs (by rfl) (owns_below (bel_al HBU.out _) (Nat.le_refl _) hown.out) ⟨u.heap.size, 0, none⟩ 1 1 [.slice (some ⟨gv, 0, none⟩) 64 cv] (by rfl) rfl (World.news_of_block (heap_alloc_new u _)) (by simp [Value.oneCell']) (by omega) (by unfold maxLen; omega) (by omega) (by have := hsz.out; have := HBU.out.size; simp; omega) _ rfl ?_
      intro g' cap w1 hown1 hgrow hat hlt1
      obtain ⟨s1, s2, s3, s4⟩ := HK'.out _ (bel_al HBU.out (.cells #[.slice (some ⟨gv, 0, none⟩) 64 cv] 22))
      have k0 := hgrow.cell s1 HNE.out
      have k1 := (hgrow.frozen_far ⟨w.heap.size + 1 + 1, 0, none⟩ (by have := hsz.out; have := HBU.out.size; simp; omega) HNE.out).trans s2
      have k2 := hgrow.cell s3 HNE0.out
      have k3 := hgrow.cell s4 HNEb.out
      clear s1 s2 s3 s4
      refine hK.out _ _ ?_ (fun hH2 => ?_)
      · exact ⟨k0, k1, k2, k3⟩
      clear hK K hHeld
      have hHeld := hH2
      clear hH2
      try simp only [Act.put]
      try simp only [List.setIfInBounds_toArray]
      try simp only [List.set_cons_succ, List.set_cons_zero]
      refine anyK_take (i := 11) (v := ?v312) rfl (by kernel_rfl) (by kernel_rfl) (by kernel_rfl) (by kernel_rfl) (fun _ _ _ h => h) (by rfl) hHeld ?hy312 (some 29) (by rfl) ?rest312
      case hy312 => (intro W hSw; (try dsimp only at hSw); go_simp; (try with_reducible rfl))
      try simp only [Act.put]
      try simp only [List.setIfInBounds_toArray]
      try simp only [List.set_cons_succ, List.set_cons_zero]
      refine anyK_last (by kernel_rfl) rfl (fun K hK => ?_)
      go_simp
      refine hK.out _ _ ?_
      clear hK K hHeld
      refine anyK_done (by kernel_rfl) ?_ _
      have bX := bel_al HBU.out (.cells #[.slice (some ⟨gv, 0, none⟩) 64 cv] 22)
      have hB1 := hB.out.grow hsz.out bX (by rw [HM.out]; exact HO1.out.alloc _) Hbd.out (owns_below bX (Nat.le_refl _) hown.out) (by decide) hgrow
      rw [← HT.out] at hB1
      have V1 : w1.heap[w.heap.size]? = _ := (hgrow.block w.heap.size (by have := bX.size; have := hsz.out; omega) HNE0.out).trans ((bX.block w.heap.size (by have := hsz.out; omega)).trans hr1.out)
      have V2 : w1.heap[w.heap.size + 1]? = _ := (hgrow.block (w.heap.size + 1) (by have := bX.size; have := hsz.out; omega) (fun e => by have := (hown.out.lt _ e.symm).1; omega)).trans ((bX.block (w.heap.size + 1) (by have := hsz.out; omega)).trans hr2.out)
      have V3 : w1.heap[w.heap.size + 1 + 1]? = _ := (hgrow.block (w.heap.size + 1 + 1) (by have := bX.size; have := hsz.out; omega) HNE.out).trans ((bX.block (w.heap.size + 1 + 1) (by have := hsz.out; omega)).trans hr3.out)
      have U1 := hid ((heap_set_ne w1 (w.heap.size + 1 + 1) 0 w.heap.size (.slice (some ⟨g', 0, none⟩) (k + 1) cap) (by omega)).trans V1)
      have U2 := hid ((heap_set_ne w1 (w.heap.size + 1 + 1) 0 (w.heap.size + 1) (.slice (some ⟨g', 0, none⟩) (k + 1) cap) (by omega)).trans V2)
      have U3 := hid (heap_setCell_same w1 (w.heap.size + 1 + 1) 0 _ 27 (.slice (some ⟨g', 0, none⟩) (k + 1) cap) V3)
      have ag : Agree (w.heap.size + 3) w1.heap.size w1 (w1.setCell ⟨w.heap.size + 1 + 1, 0, none⟩ (.slice (some ⟨g', 0, none⟩) (k + 1) cap)) := fun q h1 _ => heap_set_ne _ _ _ _ _ (by omega)
      have HO := hid (owns_agree hown1 ag (fun q hq => hown1.lt q hq))
      have HBs := hid (hB1.agree ag)
      have HBl := hid (((hnx.out.trans (bX.mono hnx.out.size)).grown hgrow (Nat.le_trans hnx.out.size bX.size) (fun q hq => by have := (hown.out.lt q hq).1; omega)).setCell (p := ⟨w.heap.size + 1 + 1, 0, none⟩) (by simp; omega) (.slice (some ⟨g', 0, none⟩) (k + 1) cap))
      have HSz := hid (show w.heap.size + 3 ≤ w1.heap.size by have := hsz.out; have := bX.size; have := hgrow.size; omega)
      clear bX hB1 V1 V2 V3 ag hown1 hgrow hat hlt1 k0 k1 k2 k3 hr1 hr2 hr3 hown hB hnx hsz HK' HNE HNE0 HNEb HBU HO1 HR H0
      go_wp2
      go_roundw
      case rel => exact ⟨k + 1, some ⟨g', 0, none⟩, cap, xs ++ [.slice (some ⟨gv, 0, none⟩) 64 cv], by omega, by go_num, by simp [hx], U1, U2, U3, HO, hid (by simpa using HBs.out), HBl, hid (by simpa using HSz.out)⟩
      case measure => simp [intOf]; omega
    · have hlt' : ¬ (k : Int) < (nS : Int) := by omega
      obtain rfl : k = nS := by omega
      have hBs := hB.out
      rw [List.take_of_length_le (by omega)] at hBs
      have HBs := hid hBs
      clear hB hBs
      go_wp2
      clear y0
      go_loopw [5] (fun i wr => ∃ (q : Nat) (a2 : Option Addr) (c2 : Nat) (ys : List Value), q ≤ nW ∧ i = .int .i64 q ∧ ys.length = q ∧ Hid (wr.heap[w.heap.size]? = some (.cells #[.slice aS k cS, .slice aW nW cW, .int .i64 F, .bool D] 27)) ∧ Hid (wr.heap[w.heap.size + 1]? = some (.cells #[.slice none 0 0, .slice none 0 0, .int .i64 0, .bool false] 27)) ∧ Hid (wr.heap[w.heap.size + 1 + 1]? = some (.cells #[.slice a k c, .slice a2 q c2, .int .i64 F, .bool D] 27)) ∧ Hid (wr.ownsRow (w.heap.size + 3) 22 1 (.slice a k c) k xs) ∧ Hid (wr.ownsRow (w.heap.size + 3) 40 2 (.slice a2 q c2) q (cellsW (ws.take q) ys)) ∧ Hid (Bands wr (w.heap.size + 3) wr.heap.size (xs ++ ys) (ss ++ (ws.take q).map (·.2))) ∧ Hid (Below w.heap.size w wr) ∧ Hid (w.heap.size + 3 ≤ wr.heap.size)) (fun i _ => nW - (intOf i).toNat)
      case atStart => exact ⟨0, none, 0, [], Nat.zero_le _, rfl, rfl, hr1, hr2, hr3, hown, hid (by rw [List.take_zero]; exact World.ownsRow_nil _ _ _ _), hid (by rw [List.take_zero]; simpa using HBs.out), hnx, hsz⟩
      case round =>
        clear hr1 hr2 hr3 hown HBs hnx hsz
        obtain ⟨q, a2, c2, ys, hq, rfl, hy, hr1, hr2, hr3, hown, howW, hB, hnx, hsz⟩ := hrel
        have y1 : wr.cell? ⟨w.heap.size, 1, none⟩ = some (.slice aW nW cW) := by rw [cell_of_row _ _ _ _ _ _ hr1.out]; rfl
        by_cases hlt2 : q < nW
        · have hlt' : (q : Int) < (nW : Int) := by omega
          have hk0 : (0 : Int) ≤ (q : Int) := by omega
          have c0 : wr.cell? ⟨w.heap.size + 1 + 1, 1, none⟩ = some (.slice a2 q c2) := by rw [cell_of_row _ _ _ _ _ _ hr3.out]; rfl
          have f0 : wr.frozen? ⟨w.heap.size + 1 + 1, 1, none⟩ = false := frozen_of_row _ _ _ _ _ hr3.out
          rcases HH.out.w.cells with h0 | ⟨b, off, rfl, hc⟩
          · omega
          obtain ⟨hca0, v, hcx0, hrow⟩ := hc q (by omega)
          have hlen := HWB.out q hlt2
          obtain ⟨bx, ox, cx, rfl, hr0⟩ := row_pos hrow (by omega)
          have hbl := World.block_lt_of_cell? w _ hcx0
          have hcx : wr.cell? ⟨b, off + q * 2 + 1, none⟩ = some (.slice (some ⟨bx, ox, none⟩) (ws.getD q w0).2.length cx) := (hnx.out.cell (by exact hbl)).trans hcx0
          have hca : wr.cell? ⟨b, off + q * 2, none⟩ = some (.int .i64 (ws.getD q w0).1) := (hnx.out.cell (by exact hbl)).trans hca0
          have hr := hr0.below hnx.out (Nat.le_refl _)
          have HT := hid (snd_snoc ws q (by omega))
          have HC := hid (fun y => cells_snoc ws ys q y (by omega) hy)
          have Hbd := hid hr0.bd
          generalize ws.getD q w0 = p at *
          obtain ⟨A, zs⟩ := p
          simp only at hcx hca hlen hr HT HC Hbd
          rw [hlen] at hcx hr
          have HM := hid hlen
          have HR := hid hr
          have HK' := hid (show ∀ X, Below wr.heap.size wr X → X.cell? ⟨w.heap.size + 1 + 1, 1, none⟩ = some (.slice a2 q c2) ∧ X.frozen? ⟨w.heap.size + 1 + 1, 1, none⟩ = false ∧ X.cell? ⟨w.heap.size, 1, none⟩ = some (.slice (some ⟨b, off, none⟩) nW cW) ∧ X.cell? ⟨b, off + q * 2, none⟩ = some (.int .i64 A) ∧ X.cell? ⟨b, off + q * 2 + 1, none⟩ = some (.slice (some ⟨bx, ox, none⟩) 64 cx) from fun X bb => ⟨(bb.cell (p := ⟨w.heap.size + 1 + 1, 1, none⟩) (by have := hsz.out; show w.heap.size + 1 + 1 < _; omega)).trans c0, (bb.frozen (p := ⟨w.heap.size + 1 + 1, 1, none⟩) (by have := hsz.out; show w.heap.size + 1 + 1 < _; omega)).trans f0, (bb.cell (p := ⟨w.heap.size, 1, none⟩) (by have := hsz.out; show w.heap.size < _; omega)).trans y1, (bb.cell (p := ⟨b, off + q * 2, none⟩) (World.block_lt_of_cell? wr _ hca)).trans hca, (bb.cell (p := ⟨b, off + q * 2 + 1, none⟩) (World.block_lt_of_cell? wr _ hcx)).trans hcx⟩)
          have HNE := hid (show some (w.heap.size + 1 + 1) ≠ (Value.slice a2 q c2).ownBlock from fun e => by have := (howW.out.lt _ e.symm).1; omega)
          have HNE0 := hid (show some w.heap.size ≠ (Value.slice a2 q c2).ownBlock from fun e => by have := (howW.out.lt _ e.symm).1; omega)
          have HNEb := hid (show some b ≠ (Value.slice a2 q c2).ownBlock from fun e => by have := (howW.out.lt _ e.symm).1; have : b < w.heap.size := hbl; omega)
          have H0 := hid (World.ownsRow_lit (base := wr.heap.size) (e := 5) (size := 1) wr #[] 0 (Nat.le_refl _) (Nat.zero_le _) rfl)
          clear hc hcx0 hca0 hr0 hlen hbl hrow hr
          go_wp2
          clear hcx hca y1 c0 f0
          refine region_K 20 (fun W => W.cell? ⟨w.heap.size + 1 + 1, 1, none⟩ = some (.slice a2 q c2) ∧ W.frozen? ⟨w.heap.size + 1 + 1, 1, none⟩ = false ∧ W.cell? ⟨w.heap.size, 1, none⟩ = some (.slice (some ⟨b, off, none⟩) nW cW) ∧ W.cell? ⟨b, off + q * 2, none⟩ = some (.int .i64 A) ∧ W.cell? ⟨b, off + q * 2 + 1, none⟩ = some (.slice (some ⟨bx, ox, none⟩) 64 cx)) (by kernel_rfl) ?_ (fun hHeld => ?_)
          · exact HK'.out _ ((Below.refl _ wr).drew)
          refine anyK_take (i := 0) (v := ?v314) rfl (by kernel_rfl) (by kernel_rfl) (by kernel_rfl) (by kernel_rfl) (fun _ _ _ h => h) (by rfl) hHeld ?hy314 (some 37) (by rfl) ?rest314
          case hy314 => (intro W hSw; (try dsimp only at hSw); go_simp; (try with_reducible rfl))
          try simp only [Act.put]
          try simp only [List.setIfInBounds_toArray]
          try simp only [List.set_cons_succ, List.set_cons_zero]
          refine anyK_take (i := 1) (v := ?v315) rfl (by kernel_rfl) (by kernel_rfl) (by kernel_rfl) (by kernel_rfl) (fun _ _ _ h => h) (by rfl) hHeld ?hy315 (some 38) (by rfl) ?rest315
          case hy315 => (intro W hSw; (try dsimp only at hSw); go_simp; (try with_reducible rfl))
          try simp only [Act.put]
          try simp only [List.setIfInBounds_toArray]
          try simp only [List.set_cons_succ, List.set_cons_zero]
          refine anyK_take (i := 2) (v := ?v316) rfl (by kernel_rfl) (by kernel_rfl) (by kernel_rfl) (by kernel_rfl) (fun _ _ _ h => h) (by rfl) hHeld ?hy316 (some 39) (by rfl) ?rest316
          case hy316 => (intro W hSw; (try dsimp only at hSw); go_simp; (try with_reducible rfl))
          try simp only [Act.put]
          try simp only [List.setIfInBounds_toArray]
          try simp only [List.set_cons_succ, List.set_cons_zero]
          refine anyK_take (i := 3) (v := ?v317) rfl (by kernel_rfl) (by kernel_rfl) (by kernel_rfl) (by kernel_rfl) (fun _ _ _ h => h) (by rfl) hHeld ?hy317 (some 40) (by rfl) ?rest317
          case hy317 => (intro W hSw; (try dsimp only at hSw); go_simp; (try with_reducible rfl))
          try simp only [Act.put]
          try simp only [List.setIfInBounds_toArray]
          try simp only [List.set_cons_succ, List.set_cons_zero]
          refine anyK_take (i := 4) (v := ?v318) rfl (by kernel_rfl) (by kernel_rfl) (by kernel_rfl) (by kernel_rfl) (fun _ _ _ h => h) (by rfl) hHeld ?hy318 (some 41) (by rfl) ?rest318
          case hy318 => (intro W hSw; (try dsimp only at hSw); go_simp; (try with_reducible rfl))
          try simp only [Act.put]
          try simp only [List.setIfInBounds_toArray]
          try simp only [List.set_cons_succ, List.set_cons_zero]
          refine anyK_take (i := 5) (v := ?v319) rfl (by kernel_rfl) (by kernel_rfl) (by kernel_rfl) (by kernel_rfl) (fun _ _ _ h => h) (by rfl) hHeld ?hy319 (some 42) (by rfl) ?rest319
          case hy319 => (intro W hSw; (try dsimp only at hSw); go_simp; (try with_reducible rfl))
          try simp only [Act.put]
          try simp only [List.setIfInBounds_toArray]
          try simp only [List.set_cons_succ, List.set_cons_zero]
          refine anyK_take (i := 6) (v := ?v320) rfl (by kernel_rfl) (by kernel_rfl) (by kernel_rfl) (by kernel_rfl) (fun _ _ _ h => h) (by rfl) hHeld ?hy320 (some 43) (by rfl) ?rest320
          case hy320 => (intro W hSw; (try dsimp only at hSw); go_simp; (try with_reducible rfl))
          try simp only [Act.put]
          try simp only [List.setIfInBounds_toArray]
          try simp only [List.set_cons_succ, List.set_cons_zero]
          refine anyK_take (i := 7) (v := ?v321) rfl (by kernel_rfl) (by kernel_rfl) (by kernel_rfl) (by kernel_rfl) (fun _ _ _ h => h) (by rfl) hHeld ?hy321 (some 44) (by rfl) ?rest321
          case hy321 => (intro W hSw; (try dsimp only at hSw); go_simp; (try with_reducible rfl))
          try simp only [Act.put]
          try simp only [List.setIfInBounds_toArray]
          try simp only [List.set_cons_succ, List.set_cons_zero]
          refine anyK_take (i := 9) (v := ?v322) rfl (by kernel_rfl) (by kernel_rfl) (by kernel_rfl) (by kernel_rfl) (fun _ _ _ h => h) (by rfl) hHeld ?hy322 (some 46) (by rfl) ?rest322
          case hy322 => (intro W hSw; (try dsimp only at hSw); go_simp; (try with_reducible rfl))
          try simp only [Act.put]
          try simp only [List.setIfInBounds_toArray]
          try simp only [List.set_cons_succ, List.set_cons_zero]
          refine anyK_take (i := 10) (v := ?v323) rfl (by kernel_rfl) (by kernel_rfl) (by kernel_rfl) (by kernel_rfl) (fun _ _ _ h => h) (by rfl) hHeld ?hy323 (some 47) (by rfl) ?rest323
          case hy323 => (intro W hSw; (try dsimp only at hSw); go_simp; (try with_reducible rfl))
          try simp only [Act.put]
          try simp only [List.setIfInBounds_toArray]
          try simp only [List.set_cons_succ, List.set_cons_zero]
          refine anyK_take (i := 11) (v := ?v324) rfl (by kernel_rfl) (by kernel_rfl) (by kernel_rfl) (by kernel_rfl) (fun _ _ _ h => h) (by rfl) hHeld ?hy324 (some 48) (by rfl) ?rest324
          case hy324 => (intro W hSw; (try dsimp only at hSw); go_simp; (try with_reducible rfl))
          try simp only [Act.put]
          try simp only [List.setIfInBounds_toArray]
          try simp only [List.set_cons_succ, List.set_cons_zero]
          refine anyK_take (i := 12) (v := ?v325) rfl (by kernel_rfl) (by kernel_rfl) (by kernel_rfl) (by kernel_rfl) (fun _ _ _ h => h) (by rfl) hHeld ?hy325 (some 49) (by rfl) ?rest325
          case hy325 => (intro W hSw; (try dsimp only at hSw); go_simp; (try with_reducible rfl))
          try simp only [Act.put]
          try simp only [List.setIfInBounds_toArray]
          try simp only [List.set_cons_succ, List.set_cons_zero]
          refine anyK_take (i := 13) (v := ?v326) rfl (by kernel_rfl) (by kernel_rfl) (by kernel_rfl) (by kernel_rfl) (fun _ _ _ h => h) (by rfl) hHeld ?hy326 (some 50) (by rfl) ?rest326
          case hy326 => (intro W hSw; (try dsimp only at hSw); go_simp; (try with_reducible rfl))
          try simp only [Act.put]
          try simp only [List.setIfInBounds_toArray]
          try simp only [List.set_cons_succ, List.set_cons_zero]
          refine anyK_take (i := 14) (v := ?v327) rfl (by kernel_rfl) (by kernel_rfl) (by kernel_rfl) (by kernel_rfl) (fun _ _ _ h => h) (by rfl) hHeld ?hy327 (some 51) (by rfl) ?rest327
          case hy327 => (intro W hSw; (try dsimp only at hSw); go_simp; (try with_reducible rfl))
          try simp only [Act.put]
          try simp only [List.setIfInBounds_toArray]
          try simp only [List.set_cons_succ, List.set_cons_zero]
          refine anyK_step (i := 8) (by kernel_rfl) rfl (fun K hK => ?_)
          go_simp
          refine hK.out _ _ ?_ (fun hH2 => ?_)
          · exact HK'.out _ ((bel_al (Below.refl _ wr) _).drew)
          clear hK K hHeld
          have hHeld := hH2
          clear hH2
          try simp only [Act.put]
          try simp only [List.setIfInBounds_toArray]
          try simp only [List.set_cons_succ, List.set_cons_zero]
          refine anyK_step (i := 15) (by kernel_rfl) rfl (fun K hK => ?_)
          refine step_append_lies _ (by rfl) _ _ _ (by rfl) wr.heap.size 5 k0' (.int .u8 0) 1 1 Tryd.underlying22 ki kz0 kz1 kz2 rfl (by omega) (.slice (some ⟨wr.heap.size, 0, none⟩) 0 0) 0 [] (by rfl) (by simpa using H0.out.drew) ⟨bx, ox, none⟩ 64 cx (bys zs) (by rfl) (by rw [bys_length, HM.out]) (HR.out.below (bel_al (Below.refl _ wr) _).drew (Nat.le_refl _)).news (bys_one _) (by omega) (by unfold maxLen; omega) (by omega) (by simp) _ rfl ?_
          intro gv cv u hob hgb hab hlb
          rw [Nat.zero_add, List.nil_append] at hob
          have bu := ((bel_al (Below.refl wr.heap.size wr) (.cells #[] 5)).drew).grown hgb (by simp) (fun q hq => by cases hq; exact Nat.le_refl _)
          have HO1 := hid hob
          have HBU := hid bu
          clear hob hgb hab hlb bu
          simp only [Nat.zero_add]
          refine hK.out _ _ ?_ (fun hH2 => ?_)
          · exact HK'.out _ HBU.out
          clear hK K hHeld
          have hHeld := hH2
          clear hH2
          try simp only [Act.put]
          try simp only [List.setIfInBounds_toArray]
          try simp only [List.set_cons_succ, List.set_cons_zero]
          refine anyK_take (i := 16) (v := ?v330) rfl (by kernel_rfl) (by kernel_rfl) (by kernel_rfl) (by kernel_rfl) (fun _ _ _ h => h) (by rfl) hHeld ?hy330 (some 53) (by rfl) ?rest330
          case hy330 => (intro W hSw; (try dsimp only at hSw); go_simp; (try with_reducible rfl))
          try simp only [Act.put]
          try simp only [List.setIfInBounds_toArray]
          try simp only [List.set_cons_succ, List.set_cons_zero]
          refine anyK_step (i := 17) (by kernel_rfl) rfl (fun K hK => ?_)
          go_simp
          refine hK.out _ _ ?_ (fun hH2 => ?_)
          · exact HK'.out _ (bel_al HBU.out _)
          clear hK K hHeld
          have hHeld := hH2
          clear hH2
          try simp only [Act.put]
          try simp only [List.setIfInBounds_toArray]
          try simp only [List.set_cons_succ, List.set_cons_zero]
          refine anyK_step (i := 18) (by kernel_rfl) rfl (fun K hK => ?_)
          refine step_append_lies _ (by rfl) _ _ _ (by rfl) (w.heap.size + 3) 40 j0 (.agg #[.int .i64 0, .slice none 0 0]) 2 32 Tryd.underlying25 ji jz0 jz1 jz2 rfl (by omega) (.slice a2 q c2) q (cellsW (ws.take q) ys) (by rfl) (owns_below (bel_al HBU.out _) (Nat.le_refl _) howW.out) ⟨u.heap.size, 0, none⟩ 1 1 [.int .i64 A, .slice (some ⟨gv, 0, none⟩) 64 cv] (by rfl) rfl (World.news_of_block (heap_alloc_new u _)) (by simp [Value.oneCell']) (by omega) (by unfold maxLen; omega) (by omega) (by have := hsz.out; have := HBU.out.size; simp; omega) _ rfl ?_
          intro g' cap w1 hown1 hgrow hat hlt1
          obtain ⟨s1, s2, s3, s4, s5⟩ := HK'.out _ (bel_al HBU.out (.cells #[.int .i64 A, .slice (some ⟨gv, 0, none⟩) 64 cv] 40))
          have k0 := hgrow.cell s1 HNE.out
          have k1 := (hgrow.frozen_far ⟨w.heap.size + 1 + 1, 1, none⟩ (by have := hsz.out; have := HBU.out.size; simp; omega) HNE.out).trans s2
          have k2 := hgrow.cell s3 HNE0.out
          have k3 := hgrow.cell s4 HNEb.out
          have k4 := hgrow.cell s5 HNEb.out
          clear s1 s2 s3 s4 s5
          refine hK.out _ _ ?_ (fun hH2 => ?_)
          · exact ⟨k0, k1, k2, k3, k4⟩
          clear hK K hHeld
          have hHeld := hH2
          clear hH2
          try simp only [Act.put]
          try simp only [List.setIfInBounds_toArray]
          try simp only [List.set_cons_succ, List.set_cons_zero]
          refine anyK_take (i := 19) (v := ?v333) rfl (by kernel_rfl) (by kernel_rfl) (by kernel_rfl) (by kernel_rfl) (fun _ _ _ h => h) (by rfl) hHeld ?hy333 (some 56) (by rfl) ?rest333
          case hy333 => (intro W hSw; (try dsimp only at hSw); go_simp; (try with_reducible rfl))
          try simp only [Act.put]
          try simp only [List.setIfInBounds_toArray]
          try simp only [List.set_cons_succ, List.set_cons_zero]
          refine anyK_last (by kernel_rfl) rfl (fun K hK => ?_)
          go_simp
          refine hK.out _ _ ?_
          clear hK K hHeld
          refine anyK_done (by kernel_rfl) ?_ _
          have bX := bel_al HBU.out (.cells #[.int .i64 A, .slice (some ⟨gv, 0, none⟩) 64 cv] 40)
          have oWX := owns_below bX (Nat.le_refl _) howW.out
          have oSX := owns_below bX (Nat.le_refl _) hown.out
          have hB1 := hB.out.grow hsz.out bX (by rw [HM.out]; exact HO1.out.alloc _) Hbd.out oWX (by decide) hgrow
          rw [List.append_assoc, List.append_assoc, ← HT.out] at hB1
          have oS1 := oSX.kept hgrow (owns_ne oSX oWX (by decide))
          rw [← HC.out (.slice (some ⟨gv, 0, none⟩) 64 cv)] at hown1
          have V1 : w1.heap[w.heap.size]? = _ := (hgrow.block w.heap.size (by have := bX.size; have := hsz.out; omega) HNE0.out).trans ((bX.block w.heap.size (by have := hsz.out; omega)).trans hr1.out)
          have V2 : w1.heap[w.heap.size + 1]? = _ := (hgrow.block (w.heap.size + 1) (by have := bX.size; have := hsz.out; omega) (fun e => by have := (howW.out.lt _ e.symm).1; omega)).trans ((bX.block (w.heap.size + 1) (by have := hsz.out; omega)).trans hr2.out)
          have V3 : w1.heap[w.heap.size + 1 + 1]? = _ := (hgrow.block (w.heap.size + 1 + 1) (by have := bX.size; have := hsz.out; omega) HNE.out).trans ((bX.block (w.heap.size + 1 + 1) (by have := hsz.out; omega)).trans hr3.out)
          have U1 := hid ((heap_set_ne w1 (w.heap.size + 1 + 1) 1 w.heap.size (.slice (some ⟨g', 0, none⟩) (q + 1) cap) (by omega)).trans V1)
          have U2 := hid ((heap_set_ne w1 (w.heap.size + 1 + 1) 1 (w.heap.size + 1) (.slice (some ⟨g', 0, none⟩) (q + 1) cap) (by omega)).trans V2)
          have U3 := hid (heap_setCell_same w1 (w.heap.size + 1 + 1) 1 _ 27 (.slice (some ⟨g', 0, none⟩) (q + 1) cap) V3)
          have ag : Agree (w.heap.size + 3) w1.heap.size w1 (w1.setCell ⟨w.heap.size + 1 + 1, 1, none⟩ (.slice (some ⟨g', 0, none⟩) (q + 1) cap)) := fun j h1 _ => heap_set_ne _ _ _ _ _ (by omega)
          have HO := hid (owns_agree hown1 ag (fun j hj => hown1.lt j hj))
          have HS1 := hid (owns_agree oS1 ag (fun j hj => oS1.lt j hj))
          have HBs := hid (hB1.agree ag)
          have HBl := hid (((hnx.out.trans (bX.mono hnx.out.size)).grown hgrow (Nat.le_trans hnx.out.size bX.size) (fun j hj => by have := (howW.out.lt j hj).1; omega)).setCell (p := ⟨w.heap.size + 1 + 1, 1, none⟩) (by simp; omega) (.slice (some ⟨g', 0, none⟩) (q + 1) cap))
          have HSz := hid (show w.heap.size + 3 ≤ w1.heap.size by have := hsz.out; have := bX.size; have := hgrow.size; omega)
          clear bX oWX oSX hB1 oS1 V1 V2 V3 ag hown1 hgrow hat hlt1 k0 k1 k2 k3 k4 hr1 hr2 hr3 hown howW hB hnx hsz HK' HNE HNE0 HNEb HBU HO1 HR H0
          go_wp2
          go_roundw
          case rel => exact ⟨q + 1, some ⟨g', 0, none⟩, cap, ys ++ [.slice (some ⟨gv, 0, none⟩) 64 cv], by omega, by go_num, by simp [hy], U1, U2, U3, HS1, HO, hid (by simpa using HBs.out), HBl, hid (by simpa using HSz.out)⟩
          case measure => simp [intOf]; omega
        · have hlt' : ¬ (q : Int) < (nW : Int) := by omega
          obtain rfl : q = nW := by omega
          have hBs := hB.out
          have hWs := howW.out
          rw [List.take_of_length_le (by omega)] at hBs hWs
          have ow : OwnD wr (w.heap.size + 3) wr.heap.size (.slice a k c) (.slice a2 q c2) ss ws :=
            ⟨⟨xs, ys, by omega, by omega, hBs, by rw [lS]; exact hown.out, by rw [lW]; exact hWs⟩, fun j hj => (hown.out.lt j hj).2, fun j hj => (hWs.lt j hj).2⟩
          have OW := hid ow
          clear hBs hWs ow
          go_wp2_with (first
            | (refine wpList_load_row rfl 27 (.tmp 3) rfl (w.heap.size + 1 + 1) rfl 27 _ (0, 0) _ hr3.out Tryd.underlying27 rfl sizeDk ?_)
            | (refine wpList_store_row rfl 27 (.tmp 2) (.tmp 57) rfl (w.heap.size + 1) #[.slice a k c, .slice a2 q c2, .int .i64 F, .bool D] rfl rfl 27 _ hr2.out ?s1 ?s2 ?s3 ?_))
          case s1 => simpa using sizeDk
          case s3 => simp [Value.oneCell']
          refine bodyPost_ret (results_cell_row Tryd.results34 _ _ (w.heap.size + 1) 27 #[.slice a k c, .slice a2 q c2, .int .i64 F, .bool D] (0, 0) _ rfl (setRow_heap _ _ _ _ _ _ hr2.out) Tryd.underlying27 rfl sizeDk) rfl ⟨a, c, a2, c2, rfl, (OW.out.agree fun j h1 h2 => ?_).mono (by omega) (by simp), below_setRow hnx.out (by omega) _⟩
          rw [setRow_other _ _ _ _ (by omega)]
end Go.Proofs.YtnnnehjlegjejaaDoor
