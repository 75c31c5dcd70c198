/- The contract of the program's copied: the same disk with memory of its own. Conditions: lists of at most 2^21. -/
import Derived.Test.YtnnnehjlegjejaaDoorDn
import Derived.Test.YtnnnehjlegjejaaDoorBc
import Derived.Test.YtnnnehjlegjejaaDoorDa
namespace Go.Proofs.YtnnnehjlegjejaaDoor
open Go.RowKit

theorem hid_and {p q : Prop} (h : p ∧ q) : Hid p ∧ Hid q := h

/-- A row of writes, one more appended to it. -/
theorem snd_snoc (ws : List (Int × List Int)) (k : Nat) (h : k < ws.length) : (ws.take (k + 1)).map (·.2) = (ws.take k).map (·.2) ++ [(ws.getD k w0).2] := by
  rw [take_snoc ws k w0 h, List.map_append]; rfl
theorem cells_snoc (ws : List (Int × List Int)) (ys : List Value) (k : Nat) (y : Value) (h : k < ws.length) (hy : ys.length = k) : cellsW (ws.take (k + 1)) (ys ++ [y]) = cellsW (ws.take k) ys ++ [.int .i64 (ws.getD k w0).1, y] := by
  rw [take_snoc ws k w0 h, cellsW_snoc _ _ _ _ (by simp; omega)]

set_option maxRecDepth 100000 in
set_option maxHeartbeats 6400000 in
theorem impl_copied {g : Nat} {aS aW : Option Addr} {nS nW cS cW : Nat} {ss : List (List Int)} {ws : List (Int × List Int)} {F : Int} {D : Bool} {w : World} (hbox : BoxD w g aS nS cS aW nW cW F D) (h : ReadsD w aS aW ss ws) (lS : ss.length = nS) (lW : ws.length = nW) (hS : nS ≤ 1048576) (hW : nW ≤ 1048576)
    (hbS : ∀ i, (ss.getD i []).length ≤ 2097152) (hbW : ∀ i, (ws.getD i w0).2.length ≤ 2097152) :
    Calls Tryd.prog 37 #[.pointer (some ⟨g, 0, none⟩)] w fun e w' => ∃ a1 c1 a2 c2, e = .returned (.agg #[.slice a1 nS c1, .slice a2 nW c2, .int .i64 F, .bool D]) ∧ OwnD w' w.heap.size w'.heap.size (.slice a1 nS c1) (.slice a2 nW c2) ss ws ∧ Below w.heap.size w w' := by
  obtain ⟨i0, hi, hz0, hz1, hz2⟩ := info_parts Tryd.info22
  obtain ⟨j0, ji, jz0, jz1, jz2⟩ := info_parts Tryd.infoWr
  have HBX := hid hbox
  obtain ⟨b0, b1, b2, b3⟩ := hbox
  have hgl := World.block_lt_of_cell? w _ b0
  have HSB := hid hbS
  have HWB := hid hbW
  have HG := hid (show g < w.heap.size from hgl)
  clear hbS hbW hgl
  go_enter Tryd.func37, Tryd.ntmps37
  go_wp2
  have e2 := cell_old (.cells #[.slice none 0 0, .slice none 0 0, .int .i64 0, .bool false] 27) b2
  have e3 := cell_old (.cells #[.slice none 0 0, .slice none 0 0, .int .i64 0, .bool false] 27) b3
  go_region_held3 (fun W => W.cell? ⟨g, 2, none⟩ = some (.int .i64 F) ∧ W.cell? ⟨g, 3, none⟩ = some (.bool D)) (first | exact ⟨by simpa using e2, by simpa using e3⟩ | exact ⟨cell_old _ (by simpa using e2), cell_old _ (by simpa using e3)⟩ | go_keep) (fail)
  have X1 := heap_new2 w (.cells #[.slice none 0 0, .slice none 0 0, .int .i64 0, .bool false] 27) (.cells #[.slice none 0 0, .slice none 0 0, .int .i64 F, .bool D] 27)
  have X0 := heap_new1 w (.cells #[.slice none 0 0, .slice none 0 0, .int .i64 0, .bool false] 27) (.cells #[.slice none 0 0, .slice none 0 0, .int .i64 F, .bool D] 27)
  have BW : Below w.heap.size w ((w.alloc (.cells #[.slice none 0 0, .slice none 0 0, .int .i64 0, .bool false] 27)).alloc (.cells #[.slice none 0 0, .slice none 0 0, .int .i64 F, .bool D] 27)).drew := (two w _ _).drew
  have XZ : ((w.alloc (.cells #[.slice none 0 0, .slice none 0 0, .int .i64 0, .bool false] 27)).alloc (.cells #[.slice none 0 0, .slice none 0 0, .int .i64 F, .bool D] 27)).drew.heap.size = w.heap.size + 2 := by simp
  replace X1 : ((w.alloc (.cells #[.slice none 0 0, .slice none 0 0, .int .i64 0, .bool false] 27)).alloc (.cells #[.slice none 0 0, .slice none 0 0, .int .i64 F, .bool D] 27)).drew.heap[w.heap.size + 1]? = _ := X1
  replace X0 : ((w.alloc (.cells #[.slice none 0 0, .slice none 0 0, .int .i64 0, .bool false] 27)).alloc (.cells #[.slice none 0 0, .slice none 0 0, .int .i64 F, .bool D] 27)).drew.heap[w.heap.size]? = _ := X0
  generalize ((w.alloc (.cells #[.slice none 0 0, .slice none 0 0, .int .i64 0, .bool false] 27)).alloc (.cells #[.slice none 0 0, .slice none 0 0, .int .i64 F, .bool D] 27)).drew = W0 at *
  obtain ⟨f0, f1, f2, f3⟩ := HBX.out.agree (BW.block g HG.out)
  have HX0 := hid X0
  have HX1 := hid X1
  have HBW := hid BW
  have HXZ := hid XZ
  have HH := hid h
  clear e2 e3 b0 b1 b2 b3 X0 X1 BW XZ h f1 f2 f3
  go_wp2
  clear f0
  go_loopw [22] (fun i wr => ∃ (k : Nat) (a : Option Addr) (c : Nat) (xs : List Value), k ≤ nS ∧ i = .int .i64 k ∧ xs.length = k ∧ Hid (wr.heap[w.heap.size]? = some (.cells #[.slice none 0 0, .slice none 0 0, .int .i64 0, .bool false] 27)) ∧ Hid (wr.heap[w.heap.size + 1]? = some (.cells #[.slice a k c, .slice none 0 0, .int .i64 F, .bool D] 27)) ∧ Hid (wr.ownsRow (w.heap.size + 2) 22 1 (.slice a k c) k xs) ∧ Hid (Bands wr (w.heap.size + 2) wr.heap.size xs (ss.take k)) ∧ Hid (Below w.heap.size w wr) ∧ Hid (w.heap.size + 2 ≤ wr.heap.size)) (fun i _ => nS - (intOf i).toNat)
  case atStart => exact ⟨0, none, 0, [], Nat.zero_le _, rfl, rfl, HX0, HX1, hid (World.ownsRow_nil _ _ _ _), hid (by rw [List.take_zero]; exact Bands.nil _ _ _), HBW, hid (by have := HXZ.out; omega)⟩
  case round =>
    obtain ⟨k, a, c, xs, hk, rfl, hx, hr2, hr3, hown, hB, hnx, hsz⟩ := hrel
    by_cases hlt : k < nS
    · have hlt' : (k : Int) < (nS : Int) := by omega
      have hk0 : (0 : Int) ≤ (k : Int) := by omega
      have c0 : wr.cell? ⟨w.heap.size + 1, 0, none⟩ = some (.slice a k c) := by rw [cell_of_row _ _ _ _ _ _ hr3.out]; rfl
      have f0 : wr.frozen? ⟨w.heap.size + 1, 0, none⟩ = false := frozen_of_row _ _ _ _ _ hr3.out
      have HK : ∀ X, Below wr.heap.size wr X → X.cell? ⟨w.heap.size + 1, 0, none⟩ = some (.slice a k c) ∧ X.frozen? ⟨w.heap.size + 1, 0, none⟩ = false := fun X b => ⟨(b.cell (p := ⟨w.heap.size + 1, 0, none⟩) (by have := hsz.out; show w.heap.size + 1 < _; omega)).trans c0, (b.frozen (p := ⟨w.heap.size + 1, 0, none⟩) (by have := hsz.out; show w.heap.size + 1 < _; omega)).trans f0⟩
      have HK' := hid HK
      have hne : ∀ row, (Value.slice a k c).ownBlock = some row → w.heap.size + 2 ≤ row := fun row hr => (hown.out.lt row hr).1
      have HNE := hid (show some (w.heap.size + 1) ≠ (Value.slice a k c).ownBlock from fun e => by have := hne _ e.symm; omega)
      rcases HH.out.s.cells with h0 | ⟨b, off, rfl, hc⟩
      · omega
      obtain ⟨v, hcx0, ax, cx, rfl, hr0, _, _⟩ := hc k (by omega)
      have hbl := World.block_lt_of_cell? w _ hcx0
      have hcx : wr.cell? ⟨b, off + k, none⟩ = some (.slice ax (ss.getD k []).length cx) := (hnx.out.cell (by exact hbl)).trans hcx0
      have hr := hid (hr0.below hnx.out (Nat.le_refl _))
      have hlen := HSB.out k
      have HT := hid (take_snoc ss k [] (by omega))
      have Hbd := hid hr0.bd
      generalize ss.getD k [] = zs at *
      obtain ⟨m, hm⟩ : ∃ m, zs.length = m := ⟨_, rfl⟩
      rw [hm] at hcx hlen hr
      have HM := hid hm
      clear HK hne hc hcx0 hr0 hm hbl
      go_wp2
      clear hcx
      refine region_K 7 (fun W => W.cell? ⟨w.heap.size + 1, 0, none⟩ = some (.slice a k c) ∧ W.frozen? ⟨w.heap.size + 1, 0, none⟩ = false) (by kernel_rfl) ?_ (fun hHeld => ?_)
      · exact HK'.out _ ((Below.refl _ wr).drew)
      refine anyK_take (i := 0) (v := ?v101) rfl (by kernel_rfl) (by kernel_rfl) (by kernel_rfl) (by kernel_rfl) (fun _ _ _ h => h) (by rfl) hHeld ?hy101 (some 26) (by rfl) ?rest101
      case hy101 => (intro W hSw; (try dsimp only at hSw); go_simp; (try with_reducible rfl))
      try simp only [Act.put]
      try simp only [List.setIfInBounds_toArray]
      try simp only [List.set_cons_succ, List.set_cons_zero]
      refine anyK_take (i := 1) (v := ?v102) rfl (by kernel_rfl) (by kernel_rfl) (by kernel_rfl) (by kernel_rfl) (fun _ _ _ h => h) (by rfl) hHeld ?hy102 (some 27) (by rfl) ?rest102
      case hy102 => (intro W hSw; (try dsimp only at hSw); go_simp; (try with_reducible rfl))
      try simp only [Act.put]
      try simp only [List.setIfInBounds_toArray]
      try simp only [List.set_cons_succ, List.set_cons_zero]
      refine anyK_take (i := 2) (v := ?v103) rfl (by kernel_rfl) (by kernel_rfl) (by kernel_rfl) (by kernel_rfl) (fun _ _ _ h => h) (by rfl) hHeld ?hy103 (some 28) (by rfl) ?rest103
      case hy103 => (intro W hSw; (try dsimp only at hSw); go_simp; (try with_reducible rfl))
      try simp only [Act.put]
      try simp only [List.setIfInBounds_toArray]
      try simp only [List.set_cons_succ, List.set_cons_zero]
      refine anyK_step (i := 3) (by kernel_rfl) rfl (fun K hK => ?_)
      go_simp
      refine (bytes_clone cx (hr.out.below (Below.refl _ wr).drew (Nat.le_refl _)) (by omega)).mono ?_
      rintro e u ⟨vc, rfl, o, b1⟩
      have bu := (Below.refl wr.heap.size wr).drew.trans b1
      obtain ⟨av, cv, rfl, _, _⟩ := Reads.own o Hbd.out
      have HO1 := hid o
      have HBU := hid bu
      clear o b1 bu
      go_wp2_with fail
      refine hK.out _ _ ?_ (fun hH2 => ?_)
      · exact HK'.out _ (HBU.out)
      clear hK K hHeld
      have hHeld := hH2
      clear hH2
      try simp only [Act.put]
      try simp only [List.setIfInBounds_toArray]
      try simp only [List.set_cons_succ, List.set_cons_zero]
      refine anyK_step (i := 4) (by kernel_rfl) rfl (fun K hK => ?_)
      go_simp
      refine hK.out _ _ ?_ (fun hH2 => ?_)
      · exact HK'.out _ (bel_al HBU.out _)
      clear hK K hHeld
      have hHeld := hH2
      clear hH2
      try simp only [Act.put]
      try simp only [List.setIfInBounds_toArray]
      try simp only [List.set_cons_succ, List.set_cons_zero]
      refine anyK_step (i := 5) (by kernel_rfl) rfl (fun K hK => ?_)
      refine step_append_lies _ (by rfl) _ _ _ (by rfl) (w.heap.size + 2) 22 i0 (.slice none 0 0) 1 24 Tryd.underlying24 hi hz0 hz1 hz2 rfl (by omega) (.slice a k c) k xs (by rfl) (owns_below (bel_al HBU.out _) (Nat.le_refl _) hown.out) ⟨u.heap.size, 0, none⟩ 1 1 [.slice av m cv] (by rfl) rfl (World.news_of_block (heap_alloc_new u _)) (by simp [Value.oneCell']) (by omega) (by unfold maxLen; omega) (by omega) (by have := hsz.out; have := HBU.out.size; simp; omega) _ rfl ?_
      intro g' cap w1 hown1 hgrow hat hlt1
      have k0 := hgrow.cell (HK'.out _ (bel_al HBU.out _)).1 HNE.out
      have k1 := (hgrow.frozen_far ⟨w.heap.size + 1, 0, none⟩ (by have := hsz.out; have := HBU.out.size; simp; omega) HNE.out).trans (HK'.out _ (bel_al HBU.out _)).2
      refine hK.out _ _ ?_ (fun hH2 => ?_)
      · exact ⟨k0, k1⟩
      clear hK K hHeld
      have hHeld := hH2
      clear hH2
      try simp only [Act.put]
      try simp only [List.setIfInBounds_toArray]
      try simp only [List.set_cons_succ, List.set_cons_zero]
      refine anyK_take (i := 6) (v := ?v107) rfl (by kernel_rfl) (by kernel_rfl) (by kernel_rfl) (by kernel_rfl) (fun _ _ _ h => h) (by rfl) hHeld ?hy107 (some 32) (by rfl) ?rest107
      case hy107 => (intro W hSw; (try dsimp only at hSw); go_simp; (try with_reducible rfl))
      try simp only [Act.put]
      try simp only [List.setIfInBounds_toArray]
      try simp only [List.set_cons_succ, List.set_cons_zero]
      refine anyK_last (by kernel_rfl) rfl (fun K hK => ?_)
      go_simp
      refine hK.out _ _ ?_
      clear hK K hHeld
      refine anyK_done (by kernel_rfl) ?_ _
      have bX := bel_al HBU.out (.cells #[.slice av m cv] 22)
      have hB1 := hB.out.grow hsz.out bX (by rw [HM.out]; exact HO1.out.alloc _) Hbd.out (owns_below bX (Nat.le_refl _) hown.out) (by decide) hgrow
      rw [← HT.out] at hB1
      have V2 : w1.heap[w.heap.size]? = _ := (hgrow.block w.heap.size (by have := bX.size; have := hsz.out; omega) (fun e => by have := (hown.out.lt _ e.symm).1; omega)).trans ((bX.block w.heap.size (by have := hsz.out; omega)).trans hr2.out)
      have V3 : w1.heap[w.heap.size + 1]? = _ := (hgrow.block (w.heap.size + 1) (by have := bX.size; have := hsz.out; omega) HNE.out).trans ((bX.block (w.heap.size + 1) (by have := hsz.out; omega)).trans hr3.out)
      have U2 := hid ((heap_set_ne w1 (w.heap.size + 1) 0 w.heap.size (.slice (some ⟨g', 0, none⟩) (k + 1) cap) (by omega)).trans V2)
      have U3 := hid (heap_setCell_same w1 (w.heap.size + 1) 0 _ 27 (.slice (some ⟨g', 0, none⟩) (k + 1) cap) V3)
      have ag : Agree (w.heap.size + 2) w1.heap.size w1 (w1.setCell ⟨w.heap.size + 1, 0, none⟩ (.slice (some ⟨g', 0, none⟩) (k + 1) cap)) := fun q h1 _ => heap_set_ne _ _ _ _ _ (by omega)
      have HO := hid (owns_agree hown1 ag (fun q hq => hown1.lt q hq))
      have HBs := hid (hB1.agree ag)
      have HBl := hid (((hnx.out.trans (bX.mono hnx.out.size)).grown hgrow (Nat.le_trans hnx.out.size bX.size) (fun q hq => by have := (hown.out.lt q hq).1; omega)).setCell (p := ⟨w.heap.size + 1, 0, none⟩) (by simp) (.slice (some ⟨g', 0, none⟩) (k + 1) cap))
      have HSz := hid (show w.heap.size + 2 ≤ w1.heap.size by have := hsz.out; have := bX.size; have := hgrow.size; omega)
      clear bX hB1 V2 V3 ag hown1 hgrow hat hlt1 k0 k1 c0 f0 hr2 hr3 hown hB hnx hsz HK' HNE HBU HO1 hr
      go_wp2
      go_roundw
      case rel => exact ⟨k + 1, some ⟨g', 0, none⟩, cap, xs ++ [.slice av m cv], by omega, by go_num, by simp [hx], U2, U3, HO, hid (by simpa using HBs.out), HBl, hid (by simpa using HSz.out)⟩
      case measure => simp [intOf]; omega
    · have hlt' : ¬ (k : Int) < (nS : Int) := by omega
      obtain rfl : k = nS := by omega
      obtain ⟨_, f1, _, _⟩ := HBX.out.agree (hnx.out.block g HG.out)
      have hBs := hB.out
      rw [List.take_of_length_le (by omega)] at hBs
      have HBs := hid hBs
      clear hB hBs
      go_wp2
      clear f1
      go_loopw [39] (fun i wr => ∃ (q : Nat) (a2 : Option Addr) (c2 : Nat) (ys : List Value), q ≤ nW ∧ i = .int .i64 q ∧ ys.length = q ∧ Hid (wr.heap[w.heap.size]? = some (.cells #[.slice none 0 0, .slice none 0 0, .int .i64 0, .bool false] 27)) ∧ Hid (wr.heap[w.heap.size + 1]? = some (.cells #[.slice a k c, .slice a2 q c2, .int .i64 F, .bool D] 27)) ∧ Hid (wr.ownsRow (w.heap.size + 2) 22 1 (.slice a k c) k xs) ∧ Hid (wr.ownsRow (w.heap.size + 2) 40 2 (.slice a2 q c2) q (cellsW (ws.take q) ys)) ∧ Hid (Bands wr (w.heap.size + 2) wr.heap.size (xs ++ ys) (ss ++ (ws.take q).map (·.2))) ∧ Hid (Below w.heap.size w wr) ∧ Hid (w.heap.size + 2 ≤ wr.heap.size)) (fun i _ => nW - (intOf i).toNat)
      case atStart => exact ⟨0, none, 0, [], Nat.zero_le _, rfl, rfl, hr2, hr3, hown, hid (by rw [List.take_zero]; exact World.ownsRow_nil _ _ _ _), hid (by rw [List.take_zero]; simpa using HBs.out), hnx, hsz⟩
      case round =>
        clear hr2 hr3 hown HBs hnx hsz
        obtain ⟨q, a2, c2, ys, hq, rfl, hy, hr2, hr3, hown, howW, hB, hnx, hsz⟩ := hrel
        by_cases hlt2 : q < nW
        · have hlt' : (q : Int) < (nW : Int) := by omega
          have hk0 : (0 : Int) ≤ (q : Int) := by omega
          rcases HH.out.w.cells with h0 | ⟨b, off, rfl, hc⟩
          · omega
          obtain ⟨hca0, v, hcx0, ax, cx, rfl, hr0, _, _⟩ := hc q (by omega)
          have hbl := World.block_lt_of_cell? w _ hcx0
          have hcx : wr.cell? ⟨b, off + q * 2 + 1, none⟩ = some (.slice ax (ws.getD q w0).2.length cx) := (hnx.out.cell (by exact hbl)).trans hcx0
          have hca : wr.cell? ⟨b, off + q * 2, none⟩ = some (.int .i64 (ws.getD q w0).1) := (hnx.out.cell (by exact hbl)).trans hca0
          have hr := hr0.below hnx.out (Nat.le_refl _)
          have hlen := HWB.out q
          have HT := hid (snd_snoc ws q (by omega))
          have HC := hid (fun y => cells_snoc ws ys q y (by omega) hy)
          have Hbd := hid hr0.bd
          generalize ws.getD q w0 = p at *
          obtain ⟨A, zs⟩ := p
          obtain ⟨m, hm⟩ : ∃ m, zs.length = m := ⟨_, rfl⟩
          simp only at hcx hca hlen hr HT HC Hbd
          rw [hm] at hcx hlen hr
          have HM := hid hm
          have HR := hid hr
          clear hc hcx0 hca0 hr0 hm hbl hr
          go_wp2
          clear hcx hca
          have x0 := heap_alloc_new wr (.cells #[.int .i64 A, .slice ax m cx] 40)
          have bA := Below.alloc1 wr (.cells #[.int .i64 A, .slice ax m cx] 40)
          have z1 := alloc_size wr (.cells #[.int .i64 A, .slice ax m cx] 40)
          generalize wr.alloc (.cells #[.int .i64 A, .slice ax m cx] 40) = wv at *
          have d0 : wv.cell? ⟨wr.heap.size, 0, none⟩ = some (.int .i64 A) := by rw [cell_of_row _ _ _ _ _ _ x0]; rfl
          have d1 : wv.cell? ⟨wr.heap.size, 1, none⟩ = some (.slice ax m cx) := by rw [cell_of_row _ _ _ _ _ _ x0]; rfl
          have hr3v := (bA.block (w.heap.size + 1) (by have := hsz.out; omega)).trans hr3.out
          have hr2v := (bA.block w.heap.size (by have := hsz.out; omega)).trans hr2.out
          have c0 : wv.cell? ⟨w.heap.size + 1, 1, none⟩ = some (.slice a2 q c2) := by rw [cell_of_row _ _ _ _ _ _ hr3v]; rfl
          have f0 : wv.frozen? ⟨w.heap.size + 1, 1, none⟩ = false := frozen_of_row _ _ _ _ _ hr3v
          have HK' := hid (show ∀ X, Below wv.heap.size wv X → X.cell? ⟨w.heap.size + 1, 1, none⟩ = some (.slice a2 q c2) ∧ X.frozen? ⟨w.heap.size + 1, 1, none⟩ = false ∧ X.cell? ⟨wr.heap.size, 0, none⟩ = some (.int .i64 A) ∧ X.cell? ⟨wr.heap.size, 1, none⟩ = some (.slice ax m cx) from fun X b => ⟨(b.cell (p := ⟨w.heap.size + 1, 1, none⟩) (by have := hsz.out; show w.heap.size + 1 < _; omega)).trans c0, (b.frozen (p := ⟨w.heap.size + 1, 1, none⟩) (by have := hsz.out; show w.heap.size + 1 < _; omega)).trans f0, (b.cell (p := ⟨wr.heap.size, 0, none⟩) (by show wr.heap.size < _; omega)).trans d0, (b.cell (p := ⟨wr.heap.size, 1, none⟩) (by show wr.heap.size < _; omega)).trans d1⟩)
          have HNE := hid (show some (w.heap.size + 1) ≠ (Value.slice a2 q c2).ownBlock from fun e => by have := (howW.out.lt _ e.symm).1; omega)
          have HNB := hid (show some wr.heap.size ≠ (Value.slice a2 q c2).ownBlock from fun e => by have := (howW.out.lt _ e.symm).2; omega)
          have hRv := hid (HR.out.below bA (Nat.le_refl _))
          have hownv := hid (owns_below bA (Nat.le_refl _) hown.out)
          have howWv := hid (owns_below bA (Nat.le_refl _) howW.out)
          have hBv := hid ((hB.out.agree (Agree.below bA (Nat.le_refl _))).mono (Nat.le_refl _) bA.size)
          have hnv := hid (hnx.out.trans (bA.mono hnx.out.size))
          have hzv := hid (show w.heap.size + 2 ≤ wv.heap.size by have := hsz.out; omega)
          have HV2 := hid hr2v
          have HV3 := hid hr3v
          clear x0 bA z1 d0 d1 hr3v hr2v c0 f0 hown howW hB hnx hsz hr2 hr3 HR
          refine region_K 11 (fun W => W.cell? ⟨w.heap.size + 1, 1, none⟩ = some (.slice a2 q c2) ∧ W.frozen? ⟨w.heap.size + 1, 1, none⟩ = false ∧ W.cell? ⟨wr.heap.size, 0, none⟩ = some (.int .i64 A) ∧ W.cell? ⟨wr.heap.size, 1, none⟩ = some (.slice ax m cx)) (by kernel_rfl) ?_ (fun hHeld => ?_)
          · exact HK'.out _ ((Below.refl _ wv).drew)
          refine anyK_take (i := 0) (v := ?v109) rfl (by kernel_rfl) (by kernel_rfl) (by kernel_rfl) (by kernel_rfl) (fun _ _ _ h => h) (by rfl) hHeld ?hy109 (some 43) (by rfl) ?rest109
          case hy109 => (intro W hSw; (try dsimp only at hSw); go_simp; (try with_reducible rfl))
          try simp only [Act.put]
          try simp only [List.setIfInBounds_toArray]
          try simp only [List.set_cons_succ, List.set_cons_zero]
          refine anyK_take (i := 1) (v := ?v110) rfl (by kernel_rfl) (by kernel_rfl) (by kernel_rfl) (by kernel_rfl) (fun _ _ _ h => h) (by rfl) hHeld ?hy110 (some 44) (by rfl) ?rest110
          case hy110 => (intro W hSw; (try dsimp only at hSw); go_simp; (try with_reducible rfl))
          try simp only [Act.put]
          try simp only [List.setIfInBounds_toArray]
          try simp only [List.set_cons_succ, List.set_cons_zero]
          refine anyK_take (i := 2) (v := ?v111) rfl (by kernel_rfl) (by kernel_rfl) (by kernel_rfl) (by kernel_rfl) (fun _ _ _ h => h) (by rfl) hHeld ?hy111 (some 45) (by rfl) ?rest111
          case hy111 => (intro W hSw; (try dsimp only at hSw); go_simp; (try with_reducible rfl))
          try simp only [Act.put]
          try simp only [List.setIfInBounds_toArray]
          try simp only [List.set_cons_succ, List.set_cons_zero]
          refine anyK_take (i := 3) (v := ?v112) rfl (by kernel_rfl) (by kernel_rfl) (by kernel_rfl) (by kernel_rfl) (fun _ _ _ h => h) (by rfl) hHeld ?hy112 (some 46) (by rfl) ?rest112
          case hy112 => (intro W hSw; (try dsimp only at hSw); go_simp; (try with_reducible rfl))
          try simp only [Act.put]
          try simp only [List.setIfInBounds_toArray]
          try simp only [List.set_cons_succ, List.set_cons_zero]
          refine anyK_take (i := 4) (v := ?v113) rfl (by kernel_rfl) (by kernel_rfl) (by kernel_rfl) (by kernel_rfl) (fun _ _ _ h => h) (by rfl) hHeld ?hy113 (some 47) (by rfl) ?rest113
          case hy113 => (intro W hSw; (try dsimp only at hSw); go_simp; (try with_reducible rfl))
          try simp only [Act.put]
          try simp only [List.setIfInBounds_toArray]
          try simp only [List.set_cons_succ, List.set_cons_zero]
          refine anyK_take (i := 5) (v := ?v114) rfl (by kernel_rfl) (by kernel_rfl) (by kernel_rfl) (by kernel_rfl) (fun _ _ _ h => h) (by rfl) hHeld ?hy114 (some 48) (by rfl) ?rest114
          case hy114 => (intro W hSw; (try dsimp only at hSw); go_simp; (try with_reducible rfl))
          try simp only [Act.put]
          try simp only [List.setIfInBounds_toArray]
          try simp only [List.set_cons_succ, List.set_cons_zero]
          refine anyK_step (i := 6) (by kernel_rfl) rfl (fun K hK => ?_)
          go_simp
          refine (bytes_clone cx (hRv.out.below (Below.refl _ wv).drew (Nat.le_refl _)) (by omega)).mono ?_
          rintro e u ⟨vc, rfl, o, b1⟩
          have bu := (Below.refl wv.heap.size wv).drew.trans b1
          obtain ⟨av, cv, rfl, _, _⟩ := Reads.own o Hbd.out
          have HO1 := hid o
          have HBU := hid bu
          clear o b1 bu
          go_wp2_with fail
          refine hK.out _ _ ?_ (fun hH2 => ?_)
          · exact HK'.out _ (HBU.out)
          clear hK K hHeld
          have hHeld := hH2
          clear hH2
          try simp only [Act.put]
          try simp only [List.setIfInBounds_toArray]
          try simp only [List.set_cons_succ, List.set_cons_zero]
          refine anyK_take (i := 7) (v := ?v116) rfl (by kernel_rfl) (by kernel_rfl) (by kernel_rfl) (by kernel_rfl) (fun _ _ _ h => h) (by rfl) hHeld ?hy116 (some 50) (by rfl) ?rest116
          case hy116 => (intro W hSw; (try dsimp only at hSw); go_simp; (try with_reducible rfl))
          try simp only [Act.put]
          try simp only [List.setIfInBounds_toArray]
          try simp only [List.set_cons_succ, List.set_cons_zero]
          refine anyK_step (i := 8) (by kernel_rfl) rfl (fun K hK => ?_)
          go_simp
          refine hK.out _ _ ?_ (fun hH2 => ?_)
          · exact HK'.out _ (bel_al HBU.out _)
          clear hK K hHeld
          have hHeld := hH2
          clear hH2
          try simp only [Act.put]
          try simp only [List.setIfInBounds_toArray]
          try simp only [List.set_cons_succ, List.set_cons_zero]
          refine anyK_step (i := 9) (by kernel_rfl) rfl (fun K hK => ?_)
          refine step_append_lies _ (by rfl) _ _ _ (by rfl) (w.heap.size + 2) 40 j0 (.agg #[.int .i64 0, .slice none 0 0]) 2 32 Tryd.underlying25 ji jz0 jz1 jz2 rfl (by omega) (.slice a2 q c2) q (cellsW (ws.take q) ys) (by rfl) (owns_below (bel_al HBU.out _) (Nat.le_refl _) howWv.out) ⟨u.heap.size, 0, none⟩ 1 1 [.int .i64 A, .slice av m cv] (by rfl) rfl (World.news_of_block (heap_alloc_new u _)) (by simp [Value.oneCell']) (by omega) (by unfold maxLen; omega) (by omega) (by have := hzv.out; have := HBU.out.size; simp; omega) _ rfl ?_
          intro g' cap w1 hown1 hgrow hat hlt1
          obtain ⟨s1, s2, s3, s4⟩ := HK'.out _ (bel_al HBU.out (.cells #[.int .i64 A, .slice av m cv] 40))
          have k0 := hgrow.cell s1 HNE.out
          have k1 := (hgrow.frozen_far ⟨w.heap.size + 1, 1, none⟩ (by have := hzv.out; have := HBU.out.size; simp; omega) HNE.out).trans s2
          have k2 := hgrow.cell s3 HNB.out
          have k3 := hgrow.cell s4 HNB.out
          clear s1 s2 s3 s4
          refine hK.out _ _ ?_ (fun hH2 => ?_)
          · exact ⟨k0, k1, k2, k3⟩
          clear hK K hHeld
          have hHeld := hH2
          clear hH2
          try simp only [Act.put]
          try simp only [List.setIfInBounds_toArray]
          try simp only [List.set_cons_succ, List.set_cons_zero]
          refine anyK_take (i := 10) (v := ?v119) rfl (by kernel_rfl) (by kernel_rfl) (by kernel_rfl) (by kernel_rfl) (fun _ _ _ h => h) (by rfl) hHeld ?hy119 (some 53) (by rfl) ?rest119
          case hy119 => (intro W hSw; (try dsimp only at hSw); go_simp; (try with_reducible rfl))
          try simp only [Act.put]
          try simp only [List.setIfInBounds_toArray]
          try simp only [List.set_cons_succ, List.set_cons_zero]
          refine anyK_last (by kernel_rfl) rfl (fun K hK => ?_)
          go_simp
          refine hK.out _ _ ?_
          clear hK K hHeld
          refine anyK_done (by kernel_rfl) ?_ _
          have bX := bel_al HBU.out (.cells #[.int .i64 A, .slice av m cv] 40)
          have oWX := owns_below bX (Nat.le_refl _) howWv.out
          have oSX := owns_below bX (Nat.le_refl _) hownv.out
          have hB1 := hBv.out.grow hzv.out bX (by rw [HM.out]; exact HO1.out.alloc _) Hbd.out oWX (by decide) hgrow
          rw [List.append_assoc, List.append_assoc, ← HT.out] at hB1
          have oS1 := oSX.kept hgrow (owns_ne oSX oWX (by decide))
          rw [← HC.out (.slice av m cv)] at hown1
          have V2 : w1.heap[w.heap.size]? = _ := (hgrow.block w.heap.size (by have := bX.size; have := hzv.out; omega) (fun e => by have := (howWv.out.lt _ e.symm).1; omega)).trans ((bX.block w.heap.size (by have := hzv.out; omega)).trans HV2.out)
          have V3 : w1.heap[w.heap.size + 1]? = _ := (hgrow.block (w.heap.size + 1) (by have := bX.size; have := hzv.out; omega) HNE.out).trans ((bX.block (w.heap.size + 1) (by have := hzv.out; omega)).trans HV3.out)
          have U2 := hid ((heap_set_ne w1 (w.heap.size + 1) 1 w.heap.size (.slice (some ⟨g', 0, none⟩) (q + 1) cap) (by omega)).trans V2)
          have U3 := hid (heap_setCell_same w1 (w.heap.size + 1) 1 _ 27 (.slice (some ⟨g', 0, none⟩) (q + 1) cap) V3)
          have ag : Agree (w.heap.size + 2) w1.heap.size w1 (w1.setCell ⟨w.heap.size + 1, 1, none⟩ (.slice (some ⟨g', 0, none⟩) (q + 1) cap)) := fun j h1 _ => heap_set_ne _ _ _ _ _ (by omega)
          have HO := hid (owns_agree hown1 ag (fun j hj => hown1.lt j hj))
          have HS1 := hid (owns_agree oS1 ag (fun j hj => oS1.lt j hj))
          have HBs := hid (hB1.agree ag)
          have HBl := hid (((hnv.out.trans (bX.mono hnv.out.size)).grown hgrow (Nat.le_trans hnv.out.size bX.size) (fun j hj => by have := (howWv.out.lt j hj).1; omega)).setCell (p := ⟨w.heap.size + 1, 1, none⟩) (by simp) (.slice (some ⟨g', 0, none⟩) (q + 1) cap))
          have HSz := hid (show w.heap.size + 2 ≤ w1.heap.size by have := hzv.out; have := bX.size; have := hgrow.size; omega)
          clear bX oWX oSX hB1 oS1 V2 V3 ag hown1 hgrow hat hlt1 k0 k1 k2 k3 HV2 HV3 hownv howWv hBv hnv hzv HK' HNE HNB HBU HO1 hRv
          go_wp2
          go_roundw
          case rel => exact ⟨q + 1, some ⟨g', 0, none⟩, cap, ys ++ [.slice av m cv], by omega, by go_num, by simp [hy], U2, U3, HS1, HO, hid (by simpa using HBs.out), HBl, hid (by simpa using HSz.out)⟩
          case measure => simp [intOf]; omega
        · have hlt' : ¬ (q : Int) < (nW : Int) := by omega
          obtain rfl : q = nW := by omega
          have hBs := hB.out
          have hWs := howW.out
          rw [List.take_of_length_le (by omega)] at hBs hWs
          have ow : OwnD wr (w.heap.size + 2) wr.heap.size (.slice a k c) (.slice a2 q c2) ss ws :=
            ⟨⟨xs, ys, by omega, by omega, hBs, by rw [lS]; exact hown.out, by rw [lW]; exact hWs⟩, fun j hj => (hown.out.lt j hj).2, fun j hj => (hWs.lt j hj).2⟩
          have OW := hid ow
          clear hBs hWs ow
          go_wp2_with (first
            | (refine wpList_load_row rfl 27 (.tmp 3) rfl (w.heap.size + 1) rfl 27 _ (0, 0) _ hr3.out Tryd.underlying27 rfl sizeDk ?_)
            | (refine wpList_store_row rfl 27 (.tmp 2) (.tmp 55) rfl w.heap.size #[.slice a k c, .slice a2 q c2, .int .i64 F, .bool D] rfl rfl 27 _ hr2.out ?s1 ?s2 ?s3 ?_))
          case s1 => simpa using sizeDk
          case s3 => simp [Value.oneCell']
          refine bodyPost_ret (results_cell_row Tryd.results37 _ _ w.heap.size 27 #[.slice a k c, .slice a2 q c2, .int .i64 F, .bool D] (0, 0) _ rfl (setRow_heap _ _ _ _ _ _ hr2.out) Tryd.underlying27 rfl sizeDk) rfl ⟨a, c, a2, c2, rfl, (OW.out.agree fun j h1 h2 => ?_).mono (by omega) (by simp), below_setRow hnx.out (Nat.le_refl _) _⟩
          rw [setRow_other _ _ _ _ (by omega)]
end Go.Proofs.YtnnnehjlegjejaaDoor
