/- The contract of the specification's l4done: the writes that are kept, done over a copy. Conditions: a disk that is DiskOk. -/
import Derived.Test.YtnnnehjlegjejaaDoorIcd
namespace Go.Proofs.YtnnnehjlegjejaaDoor
open Go.RowKit

set_option maxRecDepth 100000 in
set_option maxHeartbeats 6400000 in
theorem spec_l4done {aS aW : Option Addr} {nS nW : Nat} (cS cW : Nat) {ss : List (List Int)} {ws : List (Int × List Int)} (F : Int) (D : Bool) {aK : Option Addr} {nK : Nat} (cK : Nat) {ks : List Bool} (all : Bool) {w : World} (h : ReadsD w aS aW ss ws) (hK : ReadsB w aK nK ks) (lS : ss.length = nS) (lW : ws.length = nW) (hS : nS ≤ 512) (hW : nW ≤ 600)
    (h64 : ∀ i, i < nS → (ss.getD i []).length = 64) (hw64 : ∀ i, i < nW → 0 ≤ (ws.getD i w0).1 ∧ (ws.getD i w0).1 < nS ∧ (ws.getD i w0).2.length = 64) :
    Calls Tryd.prog 55 #[.agg #[.slice aS nS cS, .slice aW nW cW, .int .i64 F, .bool D], .slice aK nK cK, .bool all] w fun e w' => ∃ a1 c1, e = .returned (.agg #[.slice a1 nS c1, .slice none 0 0, .int .i64 F, .bool D]) ∧ OwnD w' w.heap.size w'.heap.size (.slice a1 nS c1) (.slice none 0 0) (doneS ss ws ks all) [] ∧ Below w.heap.size w w' := by
  obtain ⟨k0', ki, kz0, kz1, kz2⟩ := info_parts Tryd.info5
  have B0 := two w (.cells #[.slice aS nS cS, .slice aW nW cW, .int .i64 F, .bool D] 27) (.cells #[.slice none 0 0, .slice none 0 0, .int .i64 0, .bool false] 27)
  have X1 := heap_new2 w (.cells #[.slice aS nS cS, .slice aW nW cW, .int .i64 F, .bool D] 27) (.cells #[.slice none 0 0, .slice none 0 0, .int .i64 0, .bool false] 27)
  have X0 := heap_new1 w (.cells #[.slice aS nS cS, .slice aW nW cW, .int .i64 F, .bool D] 27) (.cells #[.slice none 0 0, .slice none 0 0, .int .i64 0, .bool false] 27)
  have XZ : ((w.alloc (.cells #[.slice aS nS cS, .slice aW nW cW, .int .i64 F, .bool D] 27)).alloc (.cells #[.slice none 0 0, .slice none 0 0, .int .i64 0, .bool false] 27)).heap.size = w.heap.size + 2 := by simp
  have R0 := hid (h.below B0 (Nat.le_refl _))
  have HH := hid h
  have HKr := hid hK
  have H64 := hid h64
  have HW64 := hid hw64
  clear h hK h64 hw64
  go_enter Tryd.func55, Tryd.ntmps55
  go_wp2_with fail
  generalize (w.alloc (.cells #[.slice aS nS cS, .slice aW nW cW, .int .i64 F, .bool D] 27)).alloc (.cells #[.slice none 0 0, .slice none 0 0, .int .i64 0, .bool false] 27) = W0 at *
  refine (spec_l4copy cS cW F D R0.out lS lW (by omega) (by omega) H64.out (fun i hi => (HW64.out i hi).2.2)).mono ?_
  rintro e w1 ⟨a1, c1, a2, c2, rfl, o1, b1⟩
  obtain ⟨xs, ys, hx, hy, hB, oS, oW⟩ := o1.own
  have V0 := (b1.block w.heap.size (by omega)).trans X0
  have V1 := (b1.block (w.heap.size + 1) (by omega)).trans X1
  have hz1 : w.heap.size + 2 ≤ w1.heap.size := by have := b1.size; omega
  have bA := Below.alloc1 w1 (.cells #[.slice a1 nS c1, .slice a2 nW c2, .int .i64 F, .bool D] 27)
  have HY0 := hid ((bA.block w.heap.size (by omega)).trans V0)
  have HY1 := hid ((bA.block (w.heap.size + 1) (by omega)).trans V1)
  have HY2 := hid (heap_alloc_new w1 (.cells #[.slice a1 nS c1, .slice a2 nW c2, .int .i64 F, .bool D] 27))
  have HOS := hid (owns_below bA (Nat.le_refl _) (by rw [lS] at oS; exact oS))
  have HBs := hid (((hB.left hx).agree (Agree.below bA (Nat.le_refl _))).mono (Nat.le_refl _) bA.size)
  have HTs := hid o1.topS
  have HBl := hid ((B0.trans (b1.mono B0.size)).trans (bA.mono (Nat.le_trans B0.size b1.size)))
  have HSz := hid (show W0.heap.size ≤ w1.heap.size from b1.size)
  have HS2 := hid (show w.heap.size + 2 = W0.heap.size from XZ.symm)
  have HZA := hid (alloc_size w1 (.cells #[.slice a1 nS c1, .slice a2 nW c2, .int .i64 F, .bool D] 27))
  clear o1 b1 hB oS oW V0 V1 hz1 bA X0 X1 XZ B0 hy R0
  go_wp2
  generalize w1.alloc (.cells #[.slice a1 nS c1, .slice a2 nW c2, .int .i64 F, .bool D] 27) = W1 at *
  generalize w1.heap.size = g7 at *
  generalize W0.heap.size = lo at *
  go_loopw [8] (fun i wr => ∃ (k : Nat) (S : List (List Int)) (vs : List Value), k ≤ nW ∧ i = .int .i64 k ∧ Hid (S.length = nS) ∧ Hid (doneS ss ws ks all = doneS S (ws.drop k) (ks.drop k) all) ∧ Hid (wr.heap[w.heap.size]? = some (.cells #[.slice aS nS cS, .slice aW nW cW, .int .i64 F, .bool D] 27)) ∧ Hid (wr.heap[w.heap.size + 1]? = some (.cells #[.slice none 0 0, .slice none 0 0, .int .i64 0, .bool false] 27)) ∧ Hid (wr.heap[g7]? = some (.cells #[.slice a1 nS c1, .slice a2 nW c2, .int .i64 F, .bool D] 27)) ∧ Hid (wr.ownsRow lo 22 1 (.slice a1 nS c1) nS vs) ∧ Hid (Bands wr lo wr.heap.size vs S) ∧ Hid (Below w.heap.size w wr) ∧ Hid (g7 < wr.heap.size)) (fun i _ => nW - (intOf i).toNat)
  case atStart => exact ⟨0, ss, xs, Nat.zero_le _, rfl, hid lS, hid rfl, HY0, HY1, HY2, HOS, HBs, HBl, hid (by have := HZA.out; omega)⟩
  case round =>
    obtain ⟨k, S, vs, hk, rfl, hSl, hD, hr0, hr1, hr7, hown, hB, hnx, hsz⟩ := hrel
    have y1 : wr.cell? ⟨w.heap.size, 1, none⟩ = some (.slice aW nW cW) := by rw [cell_of_row _ _ _ _ _ _ hr0.out]; rfl
    by_cases hlt : k < nW
    · have hlt' : (k : Int) < (nW : Int) := by omega
      have hk0 : (0 : Int) ≤ (k : Int) := by omega
      have c0 : wr.cell? ⟨g7, 0, none⟩ = some (.slice a1 nS c1) := by rw [cell_of_row _ _ _ _ _ _ hr7.out]; rfl
      rcases HH.out.w.cells with h0 | ⟨b, off, rfl, hc⟩
      · omega
      obtain ⟨hca0, v, hcx0, hrow⟩ := hc k (by omega)
      obtain ⟨hA0, hA1, hlen⟩ := HW64.out k hlt
      obtain ⟨bx, ox, cx, rfl, hrr⟩ := row_pos hrow (by omega)
      have hbl := World.block_lt_of_cell? w _ hcx0
      have hcx : wr.cell? ⟨b, off + k * 2 + 1, none⟩ = some (.slice (some ⟨bx, ox, none⟩) (ws.getD k w0).2.length cx) := (hnx.out.cell (by exact hbl)).trans hcx0
      have hca : wr.cell? ⟨b, off + k * 2, none⟩ = some (.int .i64 (ws.getD k w0).1) := (hnx.out.cell (by exact hbl)).trans hca0
      have hr := hrr.below hnx.out (Nat.le_refl _)
      have HST := hid (doneS_step S ws ks all k (by omega))
      have Hbd := hid hrr.bd
      generalize ws.getD k w0 = pp at *
      obtain ⟨A, zs⟩ := pp
      simp only at hcx hca hlen hr HST Hbd hA0 hA1
      obtain ⟨j, rfl⟩ := Int.eq_ofNat_of_zero_le hA0
      have hj : j < nS := by omega
      have hj0 : (0 : Int) ≤ (j : Int) := by omega
      have hj1 : (j : Int) < (nS : Int) := by omega
      rw [hlen] at hcx hr
      have HM := hid hlen
      have HR := hid hr
      have hRB := HKr.out.below hnx.out (Nat.le_refl _)
      have HLK := hid hRB.len
      obtain ⟨gr, rfl⟩ : ∃ gr, a1 = some ⟨gr, 0, none⟩ := by
        rcases hown.out.2 with ⟨e, h0⟩ | ⟨gr, _, _, e, _⟩
        · omega
        · exact ⟨gr, (Value.slice.inj e).1⟩
      have HK' := hid (show ∀ X, Below wr.heap.size wr X → X.cell? ⟨g7, 0, none⟩ = some (.slice (some ⟨gr, 0, none⟩) nS c1) ∧ X.cell? ⟨w.heap.size, 1, none⟩ = some (.slice (some ⟨b, off, none⟩) nW cW) ∧ X.cell? ⟨b, off + k * 2, none⟩ = some (.int .i64 j) ∧ X.cell? ⟨b, off + k * 2 + 1, none⟩ = some (.slice (some ⟨bx, ox, none⟩) 64 cx) from fun X bb => ⟨(bb.cell (p := ⟨g7, 0, none⟩) (World.block_lt_of_cell? wr _ c0)).trans c0, (bb.cell (p := ⟨w.heap.size, 1, none⟩) (World.block_lt_of_cell? wr _ y1)).trans y1, (bb.cell (p := ⟨b, off + k * 2, none⟩) (World.block_lt_of_cell? wr _ hca)).trans hca, (bb.cell (p := ⟨b, off + k * 2 + 1, none⟩) (World.block_lt_of_cell? wr _ hcx)).trans hcx⟩)
      have H0 := hid (World.ownsRow_lit (base := wr.heap.size) (e := 5) (size := 1) wr #[] 0 (Nat.le_refl _) (Nat.zero_le _) rfl)
      clear hc hcx0 hca0 hrr hlen hbl hrow hr hA0 hA1 c0
      obtain ⟨kept, hkept⟩ : ∃ kept, (all || ks.getD k false) = kept := ⟨_, rfl⟩
      rw [hkept] at HST
      cases kept with
      | false =>
        obtain ⟨rfl, hkf⟩ : all = false ∧ ks.getD k false = false := by simpa using hkept
        clear hkept
        by_cases hin : k < nK
        · have hin' : (k : Int) < (nK : Int) := by omega
          rcases hRB.cells with h0 | ⟨bk, ok, rfl, hck⟩
          · omega
          have hkk := hck k hin
          rw [hkf] at hkk
          clear hRB hck hkf
          go_wp2
          go_roundw
          case rel => exact ⟨k + 1, S, vs, by omega, by go_num, hSl, hid (by rw [hD.out, HST.out]; rfl), hr0, hr1, hr7, hown, hB, hnx, hsz⟩
          case measure => simp [intOf]; omega
        · have hin' : ¬ (k : Int) < (nK : Int) := by omega
          clear hRB hkf
          go_wp2
          go_roundw
          case rel => exact ⟨k + 1, S, vs, by omega, by go_num, hSl, hid (by rw [hD.out, HST.out]; rfl), hr0, hr1, hr7, hown, hB, hnx, hsz⟩
          case measure => simp [intOf]; omega
      | true =>
        have hways : all = true ∨ (all = false ∧ ∃ bk ok, aK = some ⟨bk, ok, none⟩ ∧ k < nK ∧ wr.cell? ⟨bk, ok + k, none⟩ = some (.bool true)) := by
          cases all with
          | true => exact .inl rfl
          | false =>
            right
            have hkt : ks.getD k false = true := by simpa using hkept
            have hin : k < nK := by
              by_cases hin : k < nK
              · exact hin
              · rw [List.getD_eq_getElem?_getD, List.getElem?_eq_none (by have := HLK.out; omega)] at hkt
                cases hkt
            rcases hRB.cells with h0 | ⟨bk, ok, e, hck⟩
            · omega
            · exact ⟨rfl, bk, ok, e, hin, by rw [hck k hin, hkt]⟩
        clear hkept hRB
        rcases hways with rfl | ⟨rfl, bk, ok, rfl, hin, hkk⟩
        · go_wp2
          refine region_K 17 (fun W => W.cell? ⟨g7, 0, none⟩ = some (.slice (some ⟨gr, 0, none⟩) nS c1) ∧ W.cell? ⟨w.heap.size, 1, none⟩ = some (.slice (some ⟨b, off, none⟩) nW cW) ∧ W.cell? ⟨b, off + k * 2, none⟩ = some (.int .i64 j) ∧ W.cell? ⟨b, off + k * 2 + 1, none⟩ = some (.slice (some ⟨bx, ox, none⟩) 64 cx)) (by kernel_rfl) ?_ (fun hHeld => ?_)
          · exact HK'.out _ ((Below.refl _ wr).drew)
          refine anyK_take (i := 0) (v := ?v301) rfl (by kernel_rfl) (by kernel_rfl) (by kernel_rfl) (by kernel_rfl) (fun _ _ _ h => h) (by rfl) hHeld ?hy301 (some 31) (by rfl) ?rest301
          case hy301 => (intro W hSw; (try dsimp only at hSw); go_simp; (try with_reducible rfl))
          try simp only [Act.put]
          try simp only [List.setIfInBounds_toArray]
          try simp only [List.set_cons_succ, List.set_cons_zero]
          refine anyK_take (i := 1) (v := ?v302) rfl (by kernel_rfl) (by kernel_rfl) (by kernel_rfl) (by kernel_rfl) (fun _ _ _ h => h) (by rfl) hHeld ?hy302 (some 32) (by rfl) ?rest302
          case hy302 => (intro W hSw; (try dsimp only at hSw); go_simp; (try with_reducible rfl))
          try simp only [Act.put]
          try simp only [List.setIfInBounds_toArray]
          try simp only [List.set_cons_succ, List.set_cons_zero]
          refine anyK_take (i := 2) (v := ?v303) rfl (by kernel_rfl) (by kernel_rfl) (by kernel_rfl) (by kernel_rfl) (fun _ _ _ h => h) (by rfl) hHeld ?hy303 (some 33) (by rfl) ?rest303
          case hy303 => (intro W hSw; (try dsimp only at hSw); go_simp; (try with_reducible rfl))
          try simp only [Act.put]
          try simp only [List.setIfInBounds_toArray]
          try simp only [List.set_cons_succ, List.set_cons_zero]
          refine anyK_take (i := 3) (v := ?v304) rfl (by kernel_rfl) (by kernel_rfl) (by kernel_rfl) (by kernel_rfl) (fun _ _ _ h => h) (by rfl) hHeld ?hy304 (some 34) (by rfl) ?rest304
          case hy304 => (intro W hSw; (try dsimp only at hSw); go_simp; (try with_reducible rfl))
          try simp only [Act.put]
          try simp only [List.setIfInBounds_toArray]
          try simp only [List.set_cons_succ, List.set_cons_zero]
          refine anyK_take (i := 4) (v := ?v305) rfl (by kernel_rfl) (by kernel_rfl) (by kernel_rfl) (by kernel_rfl) (fun _ _ _ h => h) (by rfl) hHeld ?hy305 (some 35) (by rfl) ?rest305
          case hy305 => (intro W hSw; (try dsimp only at hSw); go_simp; (try with_reducible rfl))
          try simp only [Act.put]
          try simp only [List.setIfInBounds_toArray]
          try simp only [List.set_cons_succ, List.set_cons_zero]
          refine anyK_take (i := 5) (v := ?v306) rfl (by kernel_rfl) (by kernel_rfl) (by kernel_rfl) (by kernel_rfl) (fun _ _ _ h => h) (by rfl) hHeld ?hy306 (some 36) (by rfl) ?rest306
          case hy306 => (intro W hSw; (try dsimp only at hSw); go_simp; (try with_reducible rfl))
          try simp only [Act.put]
          try simp only [List.setIfInBounds_toArray]
          try simp only [List.set_cons_succ, List.set_cons_zero]
          refine anyK_take (i := 6) (v := ?v307) rfl (by kernel_rfl) (by kernel_rfl) (by kernel_rfl) (by kernel_rfl) (fun _ _ _ h => h) (by rfl) hHeld ?hy307 (some 37) (by rfl) ?rest307
          case hy307 => (intro W hSw; (try dsimp only at hSw); go_simp; (try with_reducible rfl))
          try simp only [Act.put]
          try simp only [List.setIfInBounds_toArray]
          try simp only [List.set_cons_succ, List.set_cons_zero]
          refine anyK_take (i := 7) (v := ?v308) rfl (by kernel_rfl) (by kernel_rfl) (by kernel_rfl) (by kernel_rfl) (fun _ _ _ h => h) (by rfl) hHeld ?hy308 (some 38) (by rfl) ?rest308
          case hy308 => (intro W hSw; (try dsimp only at hSw); go_simp; (try with_reducible rfl))
          try simp only [Act.put]
          try simp only [List.setIfInBounds_toArray]
          try simp only [List.set_cons_succ, List.set_cons_zero]
          refine anyK_take (i := 9) (v := ?v309) rfl (by kernel_rfl) (by kernel_rfl) (by kernel_rfl) (by kernel_rfl) (fun _ _ _ h => h) (by rfl) hHeld ?hy309 (some 40) (by rfl) ?rest309
          case hy309 => (intro W hSw; (try dsimp only at hSw); go_simp; (try with_reducible rfl))
          try simp only [Act.put]
          try simp only [List.setIfInBounds_toArray]
          try simp only [List.set_cons_succ, List.set_cons_zero]
          refine anyK_take (i := 10) (v := ?v310) rfl (by kernel_rfl) (by kernel_rfl) (by kernel_rfl) (by kernel_rfl) (fun _ _ _ h => h) (by rfl) hHeld ?hy310 (some 41) (by rfl) ?rest310
          case hy310 => (intro W hSw; (try dsimp only at hSw); go_simp; (try with_reducible rfl))
          try simp only [Act.put]
          try simp only [List.setIfInBounds_toArray]
          try simp only [List.set_cons_succ, List.set_cons_zero]
          refine anyK_take (i := 11) (v := ?v311) rfl (by kernel_rfl) (by kernel_rfl) (by kernel_rfl) (by kernel_rfl) (fun _ _ _ h => h) (by rfl) hHeld ?hy311 (some 42) (by rfl) ?rest311
          case hy311 => (intro W hSw; (try dsimp only at hSw); go_simp; (try with_reducible rfl))
          try simp only [Act.put]
          try simp only [List.setIfInBounds_toArray]
          try simp only [List.set_cons_succ, List.set_cons_zero]
          refine anyK_take (i := 12) (v := ?v312) rfl (by kernel_rfl) (by kernel_rfl) (by kernel_rfl) (by kernel_rfl) (fun _ _ _ h => h) (by rfl) hHeld ?hy312 (some 43) (by rfl) ?rest312
          case hy312 => (intro W hSw; (try dsimp only at hSw); go_simp; (try with_reducible rfl))
          try simp only [Act.put]
          try simp only [List.setIfInBounds_toArray]
          try simp only [List.set_cons_succ, List.set_cons_zero]
          refine anyK_take (i := 13) (v := ?v313) rfl (by kernel_rfl) (by kernel_rfl) (by kernel_rfl) (by kernel_rfl) (fun _ _ _ h => h) (by rfl) hHeld ?hy313 (some 44) (by rfl) ?rest313
          case hy313 => (intro W hSw; (try dsimp only at hSw); go_simp; (try with_reducible rfl))
          try simp only [Act.put]
          try simp only [List.setIfInBounds_toArray]
          try simp only [List.set_cons_succ, List.set_cons_zero]
          refine anyK_take (i := 14) (v := ?v314) rfl (by kernel_rfl) (by kernel_rfl) (by kernel_rfl) (by kernel_rfl) (fun _ _ _ h => h) (by rfl) hHeld ?hy314 (some 45) (by rfl) ?rest314
          case hy314 => (intro W hSw; (try dsimp only at hSw); go_simp; (try with_reducible rfl))
          try simp only [Act.put]
          try simp only [List.setIfInBounds_toArray]
          try simp only [List.set_cons_succ, List.set_cons_zero]
          refine anyK_step (i := 8) (by kernel_rfl) rfl (fun K hK => ?_)
          go_simp
          refine hK.out _ _ ?_ (fun hH2 => ?_)
          · exact HK'.out _ ((bel_al (Below.refl _ wr) _).drew)
          clear hK K hHeld
          have hHeld := hH2
          clear hH2
          try simp only [Act.put]
          try simp only [List.setIfInBounds_toArray]
          try simp only [List.set_cons_succ, List.set_cons_zero]
          refine anyK_step (i := 15) (by kernel_rfl) rfl (fun K hK => ?_)
          refine step_append_lies _ (by rfl) _ _ _ (by rfl) wr.heap.size 5 k0' (.int .u8 0) 1 1 Tryd.underlying22 ki kz0 kz1 kz2 rfl (by omega) (.slice (some ⟨wr.heap.size, 0, none⟩) 0 0) 0 [] (by rfl) (by simpa using H0.out.drew) ⟨bx, ox, none⟩ 64 cx (bys zs) (by rfl) (by rw [bys_length, HM.out]) (HR.out.below (bel_al (Below.refl _ wr) _).drew (Nat.le_refl _)).news (bys_one _) (by omega) (by unfold maxLen; omega) (by omega) (by simp) _ rfl ?_
          intro gv cv u hob hgb hab hlb
          rw [Nat.zero_add, List.nil_append] at hob
          have bu := ((bel_al (Below.refl wr.heap.size wr) (.cells #[] 5)).drew).grown hgb (by simp) (fun q hq => by cases hq; exact Nat.le_refl _)
          have HO1 := hid hob
          have HBU := hid bu
          clear hob hgb hab hlb bu
          simp only [Nat.zero_add]
          refine hK.out _ _ ?_ (fun hH2 => ?_)
          · exact HK'.out _ HBU.out
          clear hK K hHeld
          have hHeld := hH2
          clear hH2
          try simp only [Act.put]
          try simp only [List.setIfInBounds_toArray]
          try simp only [List.set_cons_succ, List.set_cons_zero]
          have hou := owns_below HBU.out (Nat.le_refl _) hown.out
          have cj : ∃ v, u.cell? ⟨gr, j, none⟩ = some v := ⟨_, cell_getD hou hj⟩
          obtain ⟨vj, cj⟩ := cj
          have fj : u.frozen? ⟨gr, j, none⟩ = false := hou.frozenAt j
          refine anyK_take (i := 16) (v := ?v317) rfl (by kernel_rfl) (by kernel_rfl) (by kernel_rfl) (by kernel_rfl) (fun _ _ _ h => h) (by rfl) hHeld ?hy317 (some 47) (by rfl) ?rest317
          case hy317 => (intro W hSw; (try dsimp only at hSw); go_simp; (try with_reducible rfl))
          try simp only [Act.put]
          try simp only [List.setIfInBounds_toArray]
          try simp only [List.set_cons_succ, List.set_cons_zero]
          refine anyK_last (by kernel_rfl) rfl (fun K hK => ?_)
          go_simp
          refine hK.out _ _ ?_
          clear hK K hHeld
          refine anyK_done (by kernel_rfl) ?_ _
          have R := hou.stored j (.slice (some ⟨gv, 0, none⟩) 64 cv)
          have hB1 := ((hB.out.agree (Agree.below HBU.out (Nat.le_refl _))).swap (Nat.le_trans (by have := HSz.out; have := hsz.out; omega) (Nat.le_refl _)) HBU.out.size (i := j) (by have := hSl.out; omega) (by rw [HM.out]; exact HO1.out) Hbd.out (Nat.le_refl _)).beside R.2 (fun i => owns_ne (((hB.out.agree (Agree.below HBU.out (Nat.le_refl _))).swap (Nat.le_trans (by have := HSz.out; have := hsz.out; omega) (Nat.le_refl _)) HBU.out.size (i := j) (by have := hSl.out; omega) (by rw [HM.out]; exact HO1.out) Hbd.out (Nat.le_refl _)).own i) hou (by decide))
          have hgrlo : lo ≤ gr := (hown.out.lt gr rfl).1
          have hgr7 : g7 ≠ gr := heap_ty hr7.out hown.out rfl (by decide)
          have N0 := hid (((heap_set_ne u gr j w.heap.size (.slice (some ⟨gv, 0, none⟩) 64 cv) (by have := HS2.out; omega)).trans (HBU.out.block _ (by have := HS2.out; have := HSz.out; have := hsz.out; omega))).trans hr0.out)
          have N1 := hid (((heap_set_ne u gr j (w.heap.size + 1) (.slice (some ⟨gv, 0, none⟩) 64 cv) (by have := HS2.out; omega)).trans (HBU.out.block _ (by have := HS2.out; have := HSz.out; have := hsz.out; omega))).trans hr1.out)
          have N7 := hid (((heap_set_ne u gr j g7 (.slice (some ⟨gv, 0, none⟩) 64 cv) hgr7).trans (HBU.out.block _ hsz.out)).trans hr7.out)
          have NO := hid R.1
          have NB := hid hB1
          have NL := hid ((hnx.out.trans (HBU.out.mono hnx.out.size)).setCell (p := ⟨gr, j, none⟩) (by have := HS2.out; show _ ≤ gr; omega) (.slice (some ⟨gv, 0, none⟩) 64 cv))
          have NS := hid (Nat.lt_of_lt_of_le hsz.out HBU.out.size)
          clear R hB1 hgrlo hgr7 hou cj fj hr0 hr1 hr7 hown hB hnx hsz HK' H0 HBU HO1 HR y1
          go_wp2
          go_roundw
          case rel => exact ⟨k + 1, S.set j zs, vs.set j (.slice (some ⟨gv, 0, none⟩) 64 cv), by omega, by go_num, hid (by rw [List.length_set]; exact hSl.out), hid (by rw [hD.out, HST.out]; rfl), N0, N1, N7, NO, hid (by simpa using NB.out), NL, hid (by simpa using NS.out)⟩
          case measure => simp [intOf]; omega
        · have hin' : (k : Int) < (nK : Int) := by omega
          go_wp2
          refine region_K 17 (fun W => W.cell? ⟨g7, 0, none⟩ = some (.slice (some ⟨gr, 0, none⟩) nS c1) ∧ W.cell? ⟨w.heap.size, 1, none⟩ = some (.slice (some ⟨b, off, none⟩) nW cW) ∧ W.cell? ⟨b, off + k * 2, none⟩ = some (.int .i64 j) ∧ W.cell? ⟨b, off + k * 2 + 1, none⟩ = some (.slice (some ⟨bx, ox, none⟩) 64 cx)) (by kernel_rfl) ?_ (fun hHeld => ?_)
          · exact HK'.out _ ((Below.refl _ wr).drew)
          refine anyK_take (i := 0) (v := ?v319) rfl (by kernel_rfl) (by kernel_rfl) (by kernel_rfl) (by kernel_rfl) (fun _ _ _ h => h) (by rfl) hHeld ?hy319 (some 31) (by rfl) ?rest319
          case hy319 => (intro W hSw; (try dsimp only at hSw); go_simp; (try with_reducible rfl))
          try simp only [Act.put]
          try simp only [List.setIfInBounds_toArray]
          try simp only [List.set_cons_succ, List.set_cons_zero]
          refine anyK_take (i := 1) (v := ?v320) rfl (by kernel_rfl) (by kernel_rfl) (by kernel_rfl) (by kernel_rfl) (fun _ _ _ h => h) (by rfl) hHeld ?hy320 (some 32) (by rfl) ?rest320
          case hy320 => (intro W hSw; (try dsimp only at hSw); go_simp; (try with_reducible rfl))
          try simp only [Act.put]
          try simp only [List.setIfInBounds_toArray]
          try simp only [List.set_cons_succ, List.set_cons_zero]
          refine anyK_take (i := 2) (v := ?v321) rfl (by kernel_rfl) (by kernel_rfl) (by kernel_rfl) (by kernel_rfl) (fun _ _ _ h => h) (by rfl) hHeld ?hy321 (some 33) (by rfl) ?rest321
          case hy321 => (intro W hSw; (try dsimp only at hSw); go_simp; (try with_reducible rfl))
          try simp only [Act.put]
          try simp only [List.setIfInBounds_toArray]
          try simp only [List.set_cons_succ, List.set_cons_zero]
          refine anyK_take (i := 3) (v := ?v322) rfl (by kernel_rfl) (by kernel_rfl) (by kernel_rfl) (by kernel_rfl) (fun _ _ _ h => h) (by rfl) hHeld ?hy322 (some 34) (by rfl) ?rest322
          case hy322 => (intro W hSw; (try dsimp only at hSw); go_simp; (try with_reducible rfl))
          try simp only [Act.put]
          try simp only [List.setIfInBounds_toArray]
          try simp only [List.set_cons_succ, List.set_cons_zero]
          refine anyK_take (i := 4) (v := ?v323) rfl (by kernel_rfl) (by kernel_rfl) (by kernel_rfl) (by kernel_rfl) (fun _ _ _ h => h) (by rfl) hHeld ?hy323 (some 35) (by rfl) ?rest323
          case hy323 => (intro W hSw; (try dsimp only at hSw); go_simp; (try with_reducible rfl))
          try simp only [Act.put]
          try simp only [List.setIfInBounds_toArray]
          try simp only [List.set_cons_succ, List.set_cons_zero]
          refine anyK_take (i := 5) (v := ?v324) rfl (by kernel_rfl) (by kernel_rfl) (by kernel_rfl) (by kernel_rfl) (fun _ _ _ h => h) (by rfl) hHeld ?hy324 (some 36) (by rfl) ?rest324
          case hy324 => (intro W hSw; (try dsimp only at hSw); go_simp; (try with_reducible rfl))
          try simp only [Act.put]
          try simp only [List.setIfInBounds_toArray]
          try simp only [List.set_cons_succ, List.set_cons_zero]
          refine anyK_take (i := 6) (v := ?v325) rfl (by kernel_rfl) (by kernel_rfl) (by kernel_rfl) (by kernel_rfl) (fun _ _ _ h => h) (by rfl) hHeld ?hy325 (some 37) (by rfl) ?rest325
          case hy325 => (intro W hSw; (try dsimp only at hSw); go_simp; (try with_reducible rfl))
          try simp only [Act.put]
          try simp only [List.setIfInBounds_toArray]
          try simp only [List.set_cons_succ, List.set_cons_zero]
          refine anyK_take (i := 7) (v := ?v326) rfl (by kernel_rfl) (by kernel_rfl) (by kernel_rfl) (by kernel_rfl) (fun _ _ _ h => h) (by rfl) hHeld ?hy326 (some 38) (by rfl) ?rest326
          case hy326 => (intro W hSw; (try dsimp only at hSw); go_simp; (try with_reducible rfl))
          try simp only [Act.put]
          try simp only [List.setIfInBounds_toArray]
          try simp only [List.set_cons_succ, List.set_cons_zero]
          refine anyK_take (i := 9) (v := ?v327) rfl (by kernel_rfl) (by kernel_rfl) (by kernel_rfl) (by kernel_rfl) (fun _ _ _ h => h) (by rfl) hHeld ?hy327 (some 40) (by rfl) ?rest327
          case hy327 => (intro W hSw; (try dsimp only at hSw); go_simp; (try with_reducible rfl))
          try simp only [Act.put]
          try simp only [List.setIfInBounds_toArray]
          try simp only [List.set_cons_succ, List.set_cons_zero]
          refine anyK_take (i := 10) (v := ?v328) rfl (by kernel_rfl) (by kernel_rfl) (by kernel_rfl) (by kernel_rfl) (fun _ _ _ h => h) (by rfl) hHeld ?hy328 (some 41) (by rfl) ?rest328
          case hy328 => (intro W hSw; (try dsimp only at hSw); go_simp; (try with_reducible rfl))
          try simp only [Act.put]
          try simp only [List.setIfInBounds_toArray]
          try simp only [List.set_cons_succ, List.set_cons_zero]
          refine anyK_take (i := 11) (v := ?v329) rfl (by kernel_rfl) (by kernel_rfl) (by kernel_rfl) (by kernel_rfl) (fun _ _ _ h => h) (by rfl) hHeld ?hy329 (some 42) (by rfl) ?rest329
          case hy329 => (intro W hSw; (try dsimp only at hSw); go_simp; (try with_reducible rfl))
          try simp only [Act.put]
          try simp only [List.setIfInBounds_toArray]
          try simp only [List.set_cons_succ, List.set_cons_zero]
          refine anyK_take (i := 12) (v := ?v330) rfl (by kernel_rfl) (by kernel_rfl) (by kernel_rfl) (by kernel_rfl) (fun _ _ _ h => h) (by rfl) hHeld ?hy330 (some 43) (by rfl) ?rest330
          case hy330 => (intro W hSw; (try dsimp only at hSw); go_simp; (try with_reducible rfl))
          try simp only [Act.put]
          try simp only [List.setIfInBounds_toArray]
          try simp only [List.set_cons_succ, List.set_cons_zero]
          refine anyK_take (i := 13) (v := ?v331) rfl (by kernel_rfl) (by kernel_rfl) (by kernel_rfl) (by kernel_rfl) (fun _ _ _ h => h) (by rfl) hHeld ?hy331 (some 44) (by rfl) ?rest331
          case hy331 => (intro W hSw; (try dsimp only at hSw); go_simp; (try with_reducible rfl))
          try simp only [Act.put]
          try simp only [List.setIfInBounds_toArray]
          try simp only [List.set_cons_succ, List.set_cons_zero]
          refine anyK_take (i := 14) (v := ?v332) rfl (by kernel_rfl) (by kernel_rfl) (by kernel_rfl) (by kernel_rfl) (fun _ _ _ h => h) (by rfl) hHeld ?hy332 (some 45) (by rfl) ?rest332
          case hy332 => (intro W hSw; (try dsimp only at hSw); go_simp; (try with_reducible rfl))
          try simp only [Act.put]
          try simp only [List.setIfInBounds_toArray]
          try simp only [List.set_cons_succ, List.set_cons_zero]
          refine anyK_step (i := 8) (by kernel_rfl) rfl (fun K hK => ?_)
          go_simp
          refine hK.out _ _ ?_ (fun hH2 => ?_)
          · exact HK'.out _ ((bel_al (Below.refl _ wr) _).drew)
          clear hK K hHeld
          have hHeld := hH2
          clear hH2
          try simp only [Act.put]
          try simp only [List.setIfInBounds_toArray]
          try simp only [List.set_cons_succ, List.set_cons_zero]
          refine anyK_step (i := 15) (by kernel_rfl) rfl (fun K hK => ?_)
          refine step_append_lies _ (by rfl) _ _ _ (by rfl) wr.heap.size 5 k0' (.int .u8 0) 1 1 Tryd.underlying22 ki kz0 kz1 kz2 rfl (by omega) (.slice (some ⟨wr.heap.size, 0, none⟩) 0 0) 0 [] (by rfl) (by simpa using H0.out.drew) ⟨bx, ox, none⟩ 64 cx (bys zs) (by rfl) (by rw [bys_length, HM.out]) (HR.out.below (bel_al (Below.refl _ wr) _).drew (Nat.le_refl _)).news (bys_one _) (by omega) (by unfold maxLen; omega) (by omega) (by simp) _ rfl ?_
          intro gv cv u hob hgb hab hlb
          rw [Nat.zero_add, List.nil_append] at hob
          have bu := ((bel_al (Below.refl wr.heap.size wr) (.cells #[] 5)).drew).grown hgb (by simp) (fun q hq => by cases hq; exact Nat.le_refl _)
          have HO1 := hid hob
          have HBU := hid bu
          clear hob hgb hab hlb bu
          simp only [Nat.zero_add]
          refine hK.out _ _ ?_ (fun hH2 => ?_)
          · exact HK'.out _ HBU.out
          clear hK K hHeld
          have hHeld := hH2
          clear hH2
          try simp only [Act.put]
          try simp only [List.setIfInBounds_toArray]
          try simp only [List.set_cons_succ, List.set_cons_zero]
          have hou := owns_below HBU.out (Nat.le_refl _) hown.out
          have cj : ∃ v, u.cell? ⟨gr, j, none⟩ = some v := ⟨_, cell_getD hou hj⟩
          obtain ⟨vj, cj⟩ := cj
          have fj : u.frozen? ⟨gr, j, none⟩ = false := hou.frozenAt j
          refine anyK_take (i := 16) (v := ?v335) rfl (by kernel_rfl) (by kernel_rfl) (by kernel_rfl) (by kernel_rfl) (fun _ _ _ h => h) (by rfl) hHeld ?hy335 (some 47) (by rfl) ?rest335
          case hy335 => (intro W hSw; (try dsimp only at hSw); go_simp; (try with_reducible rfl))
          try simp only [Act.put]
          try simp only [List.setIfInBounds_toArray]
          try simp only [List.set_cons_succ, List.set_cons_zero]
          refine anyK_last (by kernel_rfl) rfl (fun K hK => ?_)
          go_simp
          refine hK.out _ _ ?_
          clear hK K hHeld
          refine anyK_done (by kernel_rfl) ?_ _
          have R := hou.stored j (.slice (some ⟨gv, 0, none⟩) 64 cv)
          have hB1 := ((hB.out.agree (Agree.below HBU.out (Nat.le_refl _))).swap (Nat.le_trans (by have := HSz.out; have := hsz.out; omega) (Nat.le_refl _)) HBU.out.size (i := j) (by have := hSl.out; omega) (by rw [HM.out]; exact HO1.out) Hbd.out (Nat.le_refl _)).beside R.2 (fun i => owns_ne (((hB.out.agree (Agree.below HBU.out (Nat.le_refl _))).swap (Nat.le_trans (by have := HSz.out; have := hsz.out; omega) (Nat.le_refl _)) HBU.out.size (i := j) (by have := hSl.out; omega) (by rw [HM.out]; exact HO1.out) Hbd.out (Nat.le_refl _)).own i) hou (by decide))
          have hgrlo : lo ≤ gr := (hown.out.lt gr rfl).1
          have hgr7 : g7 ≠ gr := heap_ty hr7.out hown.out rfl (by decide)
          have N0 := hid (((heap_set_ne u gr j w.heap.size (.slice (some ⟨gv, 0, none⟩) 64 cv) (by have := HS2.out; omega)).trans (HBU.out.block _ (by have := HS2.out; have := HSz.out; have := hsz.out; omega))).trans hr0.out)
          have N1 := hid (((heap_set_ne u gr j (w.heap.size + 1) (.slice (some ⟨gv, 0, none⟩) 64 cv) (by have := HS2.out; omega)).trans (HBU.out.block _ (by have := HS2.out; have := HSz.out; have := hsz.out; omega))).trans hr1.out)
          have N7 := hid (((heap_set_ne u gr j g7 (.slice (some ⟨gv, 0, none⟩) 64 cv) hgr7).trans (HBU.out.block _ hsz.out)).trans hr7.out)
          have NO := hid R.1
          have NB := hid hB1
          have NL := hid ((hnx.out.trans (HBU.out.mono hnx.out.size)).setCell (p := ⟨gr, j, none⟩) (by have := HS2.out; show _ ≤ gr; omega) (.slice (some ⟨gv, 0, none⟩) 64 cv))
          have NS := hid (Nat.lt_of_lt_of_le hsz.out HBU.out.size)
          clear R hB1 hgrlo hgr7 hou cj fj hr0 hr1 hr7 hown hB hnx hsz HK' H0 HBU HO1 HR y1
          go_wp2
          go_roundw
          case rel => exact ⟨k + 1, S.set j zs, vs.set j (.slice (some ⟨gv, 0, none⟩) 64 cv), by omega, by go_num, hid (by rw [List.length_set]; exact hSl.out), hid (by rw [hD.out, HST.out]; rfl), N0, N1, N7, NO, hid (by simpa using NB.out), NL, hid (by simpa using NS.out)⟩
          case measure => simp [intOf]; omega
    · have hlt' : ¬ (k : Int) < (nW : Int) := by omega
      have c1' : wr.cell? ⟨g7, 1, none⟩ = some (.slice a2 nW c2) := by rw [cell_of_row _ _ _ _ _ _ hr7.out]; rfl
      have f1 : wr.frozen? ⟨g7, 1, none⟩ = false := frozen_of_row _ _ _ _ _ hr7.out
      have T2 := hid (heap_setCell_same wr g7 1 _ 27 (.slice none 0 0) hr7.out)
      have T1 := hid ((heap_set_ne wr g7 1 (w.heap.size + 1) (.slice none 0 0) (by have := HS2.out; have := HSz.out; omega)).trans hr1.out)
      have BC := hid (hnx.out.setCell (p := ⟨g7, 1, none⟩) (by have := HS2.out; have := HSz.out; show _ ≤ g7; omega) (.slice none 0 0))
      go_wp2_with (first
        | (refine wpList_load_row rfl 27 (.tmp 7) rfl g7 rfl 27 _ (0, 0) _ T2.out Tryd.underlying27 rfl sizeDk ?_)
        | (refine wpList_store_row rfl 27 (.tmp 6) (.tmp 49) rfl (w.heap.size + 1) #[.slice a1 nS c1, .slice none 0 0, .int .i64 F, .bool D] rfl rfl 27 _ T1.out ?s1 ?s2 ?s3 ?_))
      case s1 => simpa using sizeDk
      case s3 => simp [Value.oneCell']
      have hE := hD.out
      rw [doneS_end S ws ks all k (by omega)] at hE
      have hgne : ∀ q, (Value.slice a1 nS c1).ownBlock = some q → q ≠ g7 := fun q hq e => heap_ty hr7.out hown.out hq (by decide) e.symm
      refine bodyPost_ret (results_cell_row Tryd.results55 _ _ (w.heap.size + 1) 27 #[.slice a1 nS c1, .slice none 0 0, .int .i64 F, .bool D] (0, 0) _ rfl (setRow_heap _ _ _ _ _ _ T1.out) Tryd.underlying27 rfl sizeDk) rfl ⟨a1, c1, rfl, ?_, below_setRow BC.out (by omega) _⟩
      rw [hE]
      have g1 : wr.grownBy (wr.setCell ⟨g7, 1, none⟩ (.slice none 0 0)) (some g7) := ⟨rfl, rfl, rfl, by simp, fun q _ hq => heap_set_ne _ _ _ _ _ (fun e => hq (by rw [e]))⟩
      have ne1 : ∀ {v : Value}, (∀ q, v.ownBlock = some q → q ≠ g7) → v.ownBlock = none ∨ v.ownBlock ≠ some g7 := fun {v} hv => by
        cases hvb : v.ownBlock with
        | none => exact .inl rfl
        | some q => exact .inr (fun e => hv q hvb (by simpa using e))
      have o1 := hown.out.kept g1 (ne1 hgne)
      have B1 := hB.out.beside g1 (fun i => ne1 (fun q hq e => heap_ty hr7.out (hB.out.own i) hq (by decide) e.symm))
      have ow : OwnD (wr.setCell ⟨g7, 1, none⟩ (.slice none 0 0)) lo wr.heap.size (.slice a1 nS c1) (.slice none 0 0) S [] :=
        ⟨⟨vs, [], by have := B1.len; omega, rfl, by simpa using B1, by rw [hSl.out]; exact o1, World.ownsRow_nil _ _ _ _⟩, fun q hq => (hown.out.lt q hq).2, fun q hq => (by cases hq)⟩
      refine (ow.agree fun q h1 h2 => ?_).mono (by have := HS2.out; omega) (by simp)
      rw [setRow_other _ _ _ _ (by have := HS2.out; omega)]
end Go.Proofs.YtnnnehjlegjejaaDoor
