/- The contracts of the specification's DiskWrite and of the program's. Conditions: the fuse is an int; the two variables hold two different sentinels. -/
import Derived.Test.YtnnnehjlegjejaaDoorYw
import Derived.Test.YtnnnehjlegjejaaDoorCl
import Derived.Test.YtnnnehjlegjejaaDoorSm
namespace Go.Proofs.YtnnnehjlegjejaaDoor
open Go.RowKit

theorem writeD_I {d : Dk} {at' : Int} {z : List Int} (h : okD d = true) (h1 : 0 ≤ at') (h2 : at' < d.S.length) (h3 : z.length = 64) : writeD d at' z = writeI d at' z := by
  unfold writeD writeI
  rw [if_pos ⟨h, h1, h2, h3⟩, (callD_parts d).1, (callD_parts d).2]
  by_cases hw : 600 ≤ d.W.length
  · rw [if_pos hw, if_pos hw]
  · rw [if_neg hw, if_neg hw]
    by_cases hc : (callD d).2 = true
    · rw [if_pos hc, if_pos hc]
    · rw [if_neg hc, if_neg hc]
      rw [Prod.mk.injEq]
      refine ⟨?_, rfl⟩
      obtain ⟨e1, e2⟩ := callD_parts d
      rw [← e1, ← e2]
theorem write_small {d : Dk} {at' : Int} {z : List Int} {RS : List (List Int)} {RW : List (Int × List Int)} {RF : Int} {RD : Bool} {RC : Int} (h : writeD d at' z = (⟨RS, RW, RF, RD⟩, RC)) : Small RS RW := by
  by_cases hc : okD d = true ∧ 0 ≤ at' ∧ at' < d.S.length ∧ z.length = 64
  · obtain ⟨hc, h1, h2, h3⟩ := hc
    rw [writeD_I hc h1 h2 h3] at h
    have s := Small.ok (F := d.F) (D := d.D) hc
    unfold writeI at h
    split at h
    · simp only [Prod.mk.injEq] at h
      obtain ⟨rfl, _⟩ := h
      exact s
    · rename_i hlt
      split at h
      · simp only [Prod.mk.injEq, Dk.mk.injEq] at h
        obtain ⟨⟨rfl, rfl, _, _⟩, _⟩ := h
        refine ⟨s.s, by rw [List.length_append]; simp; omega, s.bs, fun i => ?_⟩
        rw [getD_app]
        split
        · exact s.bw i
        · rename_i hi
          by_cases h0 : i - d.W.length = 0
          · rw [h0]; simp [h3]
          · rw [List.getD_eq_getElem?_getD, List.getElem?_eq_none (by simp; omega)]; simp [w0]
      · simp only [Prod.mk.injEq, Dk.mk.injEq] at h
        obtain ⟨⟨rfl, rfl, _, _⟩, _⟩ := h
        exact s
  · unfold writeD at h
    rw [if_neg hc] at h
    simp only [z0, Prod.mk.injEq, Dk.mk.injEq] at h
    obtain ⟨⟨rfl, rfl, _, _⟩, _⟩ := h
    exact Small.nil
theorem writeD_bad {d : Dk} {at' : Int} {z : List Int} {RS : List (List Int)} {RW : List (Int × List Int)} {RF : Int} {RD : Bool} {RC : Int} (h : writeD d at' z = (⟨RS, RW, RF, RD⟩, RC)) (hn : ¬ (okD d = true ∧ 0 ≤ at' ∧ at' < d.S.length ∧ z.length = 64)) : RS = [] ∧ RW = [] ∧ RF = 0 ∧ RD = false ∧ RC = 1 := by
  unfold writeD at h
  rw [if_neg hn] at h
  simp only [z0, Prod.mk.injEq, Dk.mk.injEq] at h
  obtain ⟨⟨h1, h2, h3, h4⟩, h5⟩ := h
  exact ⟨h1.symm, h2.symm, h3.symm, h4.symm, h5.symm⟩
theorem writeI_len {ss : List (List Int)} {ws : List (Int × List Int)} {F : Int} {D : Bool} {at' : Int} {z : List Int} {RS : List (List Int)} {RW : List (Int × List Int)} {RF : Int} {RD : Bool} {RC : Int} (h : writeI ⟨ss, ws, F, D⟩ at' z = (⟨RS, RW, RF, RD⟩, RC)) : RS = ss := by
  unfold writeI at h
  split at h
  · simp only [Prod.mk.injEq, Dk.mk.injEq] at h; exact h.1.1.symm
  · split at h <;> (simp only [Prod.mk.injEq, Dk.mk.injEq] at h; exact h.1.1.symm)
/-- An answer: a disk with memory of its own and a number. -/
structure AnsD (w w' : World) (RS : List (List Int)) (RW : List (Int × List Int)) (RF : Int) (RD : Bool) (RC : Int) (e : Ending) : Prop where
  ex : ∃ aR n1 cR dR n2 eR, RS.length = n1 ∧ RW.length = n2 ∧ e = .returned (.tuple #[.agg #[.slice aR n1 cR, .slice dR n2 eR, .int .i64 RF, .bool RD], .int .i64 RC]) ∧ OwnD w' w.heap.size w'.heap.size (.slice aR n1 cR) (.slice dR n2 eR) RS RW ∧ Below w.heap.size w w'

set_option maxRecDepth 100000 in
set_option maxHeartbeats 6400000 in
theorem spec_Write {aS aW : Option Addr} {nS nW : Nat} (cS cW : Nat) {ss : List (List Int)} {ws : List (Int × List Int)} {F : Int} {D : Bool} (at' : Int) {w : World} (h : ReadsD w aS aW ss ws) (lS : ss.length = nS) (lW : ws.length = nW) {aD : Option Addr} {nD : Nat} (cD : Nat) {zs : List Int} (hd : Reads w aD nD zs) (hF : F ≤ 9223372036854775807)
    {RS : List (List Int)} {RW : List (Int × List Int)} {RF : Int} {RD : Bool} {RC : Int} (hR : writeD ⟨ss, ws, F, D⟩ at' zs = (⟨RS, RW, RF, RD⟩, RC)) :
    Calls Tryd.prog 10 #[.agg #[.slice aS nS cS, .slice aW nW cW, .int .i64 F, .bool D], .int .i64 at', .slice aD nD cD] w fun e w' => ∃ aR n1 cR dR n2 eR, RS.length = n1 ∧ RW.length = n2 ∧ e = .returned (.tuple #[.agg #[.slice aR n1 cR, .slice dR n2 eR, .int .i64 RF, .bool RD], .int .i64 RC]) ∧ OwnD w' w.heap.size w'.heap.size (.slice aR n1 cR) (.slice dR n2 eR) RS RW ∧ Below w.heap.size w w' := by
  suffices hsuf : Calls Tryd.prog 10 #[.agg #[.slice aS nS cS, .slice aW nW cW, .int .i64 F, .bool D], .int .i64 at', .slice aD nD cD] w fun e w' => AnsD w w' RS RW RF RD RC e from hsuf.mono fun e w' x => x.ex
  have B0 := two w (.cells #[.slice aS nS cS, .slice aW nW cW, .int .i64 F, .bool D] 27) (.cells #[.slice none 0 0, .slice none 0 0, .int .i64 0, .bool false] 27)
  have X1 := heap_new2 w (.cells #[.slice aS nS cS, .slice aW nW cW, .int .i64 F, .bool D] 27) (.cells #[.slice none 0 0, .slice none 0 0, .int .i64 0, .bool false] 27)
  have X0 := heap_new1 w (.cells #[.slice aS nS cS, .slice aW nW cW, .int .i64 F, .bool D] 27) (.cells #[.slice none 0 0, .slice none 0 0, .int .i64 0, .bool false] 27)
  have XZ : ((w.alloc (.cells #[.slice aS nS cS, .slice aW nW cW, .int .i64 F, .bool D] 27)).alloc (.cells #[.slice none 0 0, .slice none 0 0, .int .i64 0, .bool false] 27)).heap.size = w.heap.size + 2 := by simp
  have HD0 := hid hd
  have hlz := hd.len
  clear hd
  have hO := fun (W : World) (r : ReadsD W aS aW ss ws) => spec_DiskOk cS cW F D r lS lW
  have R0 := hid (h.below B0 (Nat.le_refl _))
  by_cases hok : okD ⟨ss, ws, F, D⟩ = true
  · rw [hok] at hO
    have okk := okD_of hok
    have l1 : nS ≤ 512 := by have := okk.s1; simp only at this; omega
    have l2 : nW ≤ 600 := by have := okk.w1; simp only at this; omega
    have HL3 := hid (show ∀ i, i < nS → (ss.getD i []).length = 64 from fun i hi => okk.s i (by simp only; omega))
    have HL4 := hid (show ∀ i, i < nW → 0 ≤ (ws.getD i w0).1 ∧ (ws.getD i w0).1 < nS ∧ (ws.getD i w0).2.length = 64 from fun i hi => by have := okk.w i (by simp only; omega); simp only [lS] at this; exact this)
    have HO := hid hO
    clear hO h okk
    by_cases hg : 0 ≤ at' ∧ at' < (nS : Int) ∧ nD = 64
    · obtain ⟨g1, g2, rfl⟩ := hg
      rw [writeD_I hok g1 (by simp only; omega) hlz] at hR
      have HRR := hid hR
      have HRS := hid (show RS.length = nS by rw [writeI_len hR]; exact lS)
      have g3 : ¬ at' < 0 := by omega
      have g4 : ¬ (nS : Int) ≤ at' := by omega
      clear hok hR
      by_cases hful : 600 ≤ nW
      · have q : (600 : Int) ≤ (nW : Int) := by omega
        have hRR := HRR.out
        unfold writeI at hRR
        rw [if_pos (by simp only; omega)] at hRR
        simp only [Prod.mk.injEq, Dk.mk.injEq] at hRR
        obtain ⟨⟨rfl, rfl, rfl, rfl⟩, rfl⟩ := hRR
        clear HRR
        go_enter Tryd.func10, Tryd.ntmps10
        go_wp2_with fail
        generalize (w.alloc (.cells #[.slice aS nS cS, .slice aW nW cW, .int .i64 F, .bool D] 27)).alloc (.cells #[.slice none 0 0, .slice none 0 0, .int .i64 0, .bool false] 27) = W0 at *
        refine (HO.out _ R0.out).mono ?_
        rintro e w1 ⟨rfl, b1⟩
        have Y0 := (b1.block w.heap.size (by omega)).trans X0
        have Y1 := (b1.block (w.heap.size + 1) (by omega)).trans X1
        have HB1 := hid (B0.trans (b1.mono B0.size))
        have HR1 := hid (R0.out.below b1 (Nat.le_refl _))
        have HZ := hid (show w.heap.size + 2 ≤ w1.heap.size by have := b1.size; omega)
        have HY1 := hid Y1
        obtain ⟨y0, y1, y2, y3⟩ : BoxD w1 w.heap.size aS nS cS aW nW cW F D := ⟨by rw [cell_of_row _ _ _ _ _ _ Y0]; rfl, by rw [cell_of_row _ _ _ _ _ _ Y0]; rfl, by rw [cell_of_row _ _ _ _ _ _ Y0]; rfl, by rw [cell_of_row _ _ _ _ _ _ Y0]; rfl⟩
        clear Y0 Y1 X0 X1 XZ B0 b1 R0 HO
        go_wp2_with fail
        refine (spec_l4copy cS cW F D HR1.out lS lW (by omega) (by omega) HL3.out (fun i hi => (HL4.out i hi).2.2)).mono ?_
        rintro e w2 ⟨a1, c1, a2, c2, rfl, o2, b2⟩
        clear y0 y1 y2 y3
        have T1 := hid ((b2.block (w.heap.size + 1) (by have := HZ.out; omega)).trans HY1.out)
        have O2 := hid (show OwnD w2 w1.heap.size w2.heap.size (.slice a1 nS c1) (.slice a2 nW c2) ss ws from o2)
        have BC := hid (HB1.out.trans (b2.mono HB1.out.size))
        clear o2 b2 HY1 HB1
        go_wp2_with (first
          | fail
          | (refine wpList_store_row rfl 27 (.tmp 6) (.tmp 35) rfl (w.heap.size + 1) #[.slice a1 nS c1, .slice a2 nW c2, .int .i64 F, .bool D] rfl rfl 27 _ T1.out ?s1 ?s2 ?s3 ?_))
        case s1 => exact sizeDk
        case s2 => rfl
        case s3 => simp [Value.oneCell']
        refine bodyPost_ret (results_cell_tmp Tryd.results10 _ _ (w.heap.size + 1) 27 #[.slice a1 nS c1, .slice a2 nW c2, .int .i64 F, .bool D] (0, 0) _ rfl (setRow_heap _ _ _ _ _ _ T1.out) Tryd.underlying27 rfl sizeDk) rfl ⟨⟨a1, nS, c1, a2, nW, c2, lS, lW, rfl, (O2.out.agree fun j h1 h2 => ?_).mono (by have := HZ.out; omega) (by simp), below_setRow BC.out (by omega) _⟩⟩
        rw [setRow_other _ _ _ _ (by have := HZ.out; omega)]
      have q : ¬ (600 : Int) ≤ (nW : Int) := by omega
      go_enter Tryd.func10, Tryd.ntmps10
      go_wp2_with fail
      generalize (w.alloc (.cells #[.slice aS nS cS, .slice aW nW cW, .int .i64 F, .bool D] 27)).alloc (.cells #[.slice none 0 0, .slice none 0 0, .int .i64 0, .bool false] 27) = W0 at *
      refine (HO.out _ R0.out).mono ?_
      rintro e w1 ⟨rfl, b1⟩
      have Y0 := (b1.block w.heap.size (by omega)).trans X0
      have Y1 := (b1.block (w.heap.size + 1) (by omega)).trans X1
      have HB1 := hid (B0.trans (b1.mono B0.size))
      have HR1 := hid (R0.out.below b1 (Nat.le_refl _))
      have HZ := hid (show w.heap.size + 2 ≤ w1.heap.size by have := b1.size; omega)
      have HY1 := hid Y1
      obtain ⟨y0, y1, y2, y3⟩ : BoxD w1 w.heap.size aS nS cS aW nW cW F D := ⟨by rw [cell_of_row _ _ _ _ _ _ Y0]; rfl, by rw [cell_of_row _ _ _ _ _ _ Y0]; rfl, by rw [cell_of_row _ _ _ _ _ _ Y0]; rfl, by rw [cell_of_row _ _ _ _ _ _ Y0]; rfl⟩
      clear Y0 Y1 X0 X1 XZ B0 b1 R0 HO
      go_wp2_with fail
      refine (spec_l4call cS cW F D HR1.out lS lW l1 l2 HL3.out (fun i hi => (HL4.out i hi).2.2) hF).mono ?_
      rintro e w2 ⟨a1, c1, a2, c2, rfl, o2, b2⟩
      clear y0 y1 y2 y3
      have hRR := HRR.out
      unfold writeI at hRR
      rw [if_neg (by simp only; omega)] at hRR
      clear HRR
      generalize (callD ⟨ss, ws, F, D⟩).1.F = F' at *
      generalize (callD ⟨ss, ws, F, D⟩).1.D = D' at *
      have hz2 : w.heap.size + 2 ≤ w2.heap.size := by have := HZ.out; have := b2.size; omega
      have V1 := (b2.block (w.heap.size + 1) (by have := HZ.out; omega)).trans HY1.out
      have bA := Below.alloc1 w2 (.cells #[.slice a1 nS c1, .slice a2 nW c2, .int .i64 F', .bool D'] 27)
      have O2 := hid (show OwnD w2 w1.heap.size w2.heap.size (.slice a1 nS c1) (.slice a2 nW c2) ss ws from o2)
      have T2 := hid (heap_alloc_new w2 (.cells #[.slice a1 nS c1, .slice a2 nW c2, .int .i64 F', .bool D'] 27))
      have T1 := hid ((alloc_old w2 (.cells #[.slice a1 nS c1, .slice a2 nW c2, .int .i64 F', .bool D'] 27) (w.heap.size + 1) (by omega)).trans V1)
      have BC := hid ((HB1.out.trans (b2.mono HB1.out.size)).alloc (by omega) (.cells #[.slice a1 nS c1, .slice a2 nW c2, .int .i64 F', .bool D'] 27))
      have HZ2 := hid (And.intro hz2 (show w1.heap.size ≤ w2.heap.size from b2.size))
      have HA2 := hid (alloc_size w2 (.cells #[.slice a1 nS c1, .slice a2 nW c2, .int .i64 F', .bool D'] 27))
      obtain ⟨xs, ys, hx, hy, hBs, oS, oW⟩ := o2.own
      rw [lS] at oS
      rw [lW] at oW
      have HLv := hid (show Live (w2.alloc (.cells #[.slice a1 nS c1, .slice a2 nW c2, .int .i64 F', .bool D'] 27)) w1.heap.size w2.heap.size w2.heap.size a1 nS c1 a2 nW c2 F' D' xs ys ss ws from ⟨heap_alloc_new _ _, oS.alloc _, oW.alloc _, hBs.agree (Agree.below bA (Nat.le_refl _)), hx, hy, o2.topS⟩)
      clear o2 b2 V1 hz2 HY1 HB1 bA hBs oS oW hx hy
      cases hq : (callD ⟨ss, ws, F, D⟩).2 with
      | false =>
        rw [hq, if_neg (by simp)] at hRR
        simp only [Prod.mk.injEq, Dk.mk.injEq] at hRR
        obtain ⟨⟨rfl, rfl, rfl, rfl⟩, rfl⟩ := hRR
        clear hq HLv
        go_wp2_with (first
          | (refine wpList_load_row rfl 27 (.tmp 8) rfl w2.heap.size rfl 27 _ (0, 0) _ T2.out Tryd.underlying27 rfl sizeDk ?_)
          | (refine wpList_store_row rfl 27 (.tmp 6) (.tmp 43) rfl (w.heap.size + 1) #[.slice a1 nS c1, .slice a2 nW c2, .int .i64 F', .bool D'] rfl rfl 27 _ T1.out ?s1 ?s2 ?s3 ?_))
        case s1 => exact sizeDk
        case s2 => rfl
        case s3 => simp [Value.oneCell']
        have hz2 := HZ2.out
        refine bodyPost_ret (results_cell_tmp Tryd.results10 _ _ (w.heap.size + 1) 27 #[.slice a1 nS c1, .slice a2 nW c2, .int .i64 F', .bool D'] (0, 0) _ rfl (setRow_heap _ _ _ _ _ _ T1.out) Tryd.underlying27 rfl sizeDk) rfl ⟨⟨a1, nS, c1, a2, nW, c2, lS, lW, rfl, (O2.out.agree fun j h1 h2 => ?_).mono (by have := HZ.out; omega) (by simp), below_setRow BC.out (by omega) _⟩⟩
        rw [setRow_other _ _ _ _ (by have := HZ.out; omega), alloc_old _ _ _ (by omega)]
      | true =>
        rw [hq, if_pos rfl] at hRR
        simp only [Prod.mk.injEq, Dk.mk.injEq] at hRR
        obtain ⟨⟨rfl, rfl, rfl, rfl⟩, rfl⟩ := hRR
        clear hq O2
        obtain ⟨j0, ji, jz0, jz1, jz2⟩ := info_parts Tryd.infoWr
        obtain ⟨k0', ki, kz0, kz1, kz2⟩ := info_parts Tryd.info5
        obtain ⟨bx, ox, rfl⟩ := HD0.out.pos (by omega)
        go_wp2_with fail
        generalize w2.alloc (.cells #[.slice a1 nS c1, .slice a2 nW c2, .int .i64 F', .bool D'] 27) = wt at *
        have hL' := HLv.out
        have c0 : wt.cell? ⟨w2.heap.size, 1, none⟩ = some (.slice a2 nW c2) := by rw [cell_of_row _ _ _ _ _ _ hL'.box]; rfl
        have f0 : wt.frozen? ⟨w2.heap.size, 1, none⟩ = false := frozen_of_row _ _ _ _ _ hL'.box
        have HPl := hid (show w2.heap.size < wt.heap.size from (Array.getElem?_eq_some_iff.1 hL'.box).1)
        have HK' := hid (show ∀ X, Below wt.heap.size wt X → X.cell? ⟨w2.heap.size, 1, none⟩ = some (.slice a2 nW c2) ∧ X.frozen? ⟨w2.heap.size, 1, none⟩ = false from fun X b => ⟨(b.cell (p := ⟨w2.heap.size, 1, none⟩) HPl.out).trans c0, (b.frozen (p := ⟨w2.heap.size, 1, none⟩) HPl.out).trans f0⟩)
        have HNE := hid (show some w2.heap.size ≠ (Value.slice a2 nW c2).ownBlock from fun e => heap_ty hL'.box hL'.rw e.symm (by decide) rfl)
        have hRz := HD0.out.below BC.out (Nat.le_refl _)
        have Hbd := hid hRz.bd
        have HM := hid hRz.len
        have HRz := hid hRz
        have howW := hid hL'.rw
        have hown := hid hL'.rs
        have hB := hid (hL'.bands.mono (Nat.le_refl _) (Nat.le_of_lt HPl.out))
        have HBOX := hid hL'.box
        have HLX := hid (And.intro hL'.lx hL'.ly)
        have H0 := hid (World.ownsRow_lit (base := wt.heap.size) (e := 5) (size := 1) wt #[] 0 (Nat.le_refl _) (Nat.zero_le _) rfl)
        have hlt1w : w1.heap.size ≤ wt.heap.size := by have := HZ2.out.2; have := HPl.out; omega
        clear HLv hL' c0 f0 hRz
        refine region_K 10 (fun X => X.cell? ⟨w2.heap.size, 1, none⟩ = some (.slice a2 nW c2) ∧ X.frozen? ⟨w2.heap.size, 1, none⟩ = false) (by kernel_rfl) ?_ (fun hHeld => ?_)
        · exact HK'.out _ ((Below.refl _ wt).drew)
        refine anyK_take (i := 0) (v := ?v1601) rfl (by kernel_rfl) (by kernel_rfl) (by kernel_rfl) (by kernel_rfl) (fun _ _ _ h => h) (by rfl) hHeld ?hy1601 (some 44) (by rfl) ?rest1601
        case hy1601 => (intro W hSw; (try dsimp only at hSw); go_simp; (try with_reducible rfl))
        try simp only [Act.put]
        try simp only [List.setIfInBounds_toArray]
        try simp only [List.set_cons_succ, List.set_cons_zero]
        refine anyK_take (i := 1) (v := ?v1602) rfl (by kernel_rfl) (by kernel_rfl) (by kernel_rfl) (by kernel_rfl) (fun _ _ _ h => h) (by rfl) hHeld ?hy1602 (some 45) (by rfl) ?rest1602
        case hy1602 => (intro W hSw; (try dsimp only at hSw); go_simp; (try with_reducible rfl))
        try simp only [Act.put]
        try simp only [List.setIfInBounds_toArray]
        try simp only [List.set_cons_succ, List.set_cons_zero]
        refine anyK_take (i := 2) (v := ?v1603) rfl (by kernel_rfl) (by kernel_rfl) (by kernel_rfl) (by kernel_rfl) (fun _ _ _ h => h) (by rfl) hHeld ?hy1603 (some 46) (by rfl) ?rest1603
        case hy1603 => (intro W hSw; (try dsimp only at hSw); go_simp; (try with_reducible rfl))
        try simp only [Act.put]
        try simp only [List.setIfInBounds_toArray]
        try simp only [List.set_cons_succ, List.set_cons_zero]
        refine anyK_take (i := 4) (v := ?v1604) rfl (by kernel_rfl) (by kernel_rfl) (by kernel_rfl) (by kernel_rfl) (fun _ _ _ h => h) (by rfl) hHeld ?hy1604 (some 48) (by rfl) ?rest1604
        case hy1604 => (intro W hSw; (try dsimp only at hSw); go_simp; (try with_reducible rfl))
        try simp only [Act.put]
        try simp only [List.setIfInBounds_toArray]
        try simp only [List.set_cons_succ, List.set_cons_zero]
        refine anyK_step (i := 3) (by kernel_rfl) rfl (fun K hK => ?_)
        go_simp
        refine hK.out _ _ ?_ (fun hH2 => ?_)
        · exact HK'.out _ ((bel_al (Below.refl _ wt) _).drew)
        clear hK K hHeld
        have hHeld := hH2
        clear hH2
        try simp only [Act.put]
        try simp only [List.setIfInBounds_toArray]
        try simp only [List.set_cons_succ, List.set_cons_zero]
        refine anyK_step (i := 5) (by kernel_rfl) rfl (fun K hK => ?_)
        refine step_append_lies _ (by rfl) _ _ _ (by rfl) wt.heap.size 5 k0' (.int .u8 0) 1 1 Tryd.underlying22 ki kz0 kz1 kz2 rfl (by omega) (.slice (some ⟨wt.heap.size, 0, none⟩) 0 0) 0 [] (by rfl) (by simpa using H0.out.drew) ⟨bx, ox, none⟩ 64 cD (bys zs) (by rfl) (by rw [bys_length, HM.out]) (HRz.out.below (bel_al (Below.refl _ wt) _).drew (Nat.le_refl _)).news (bys_one _) (by omega) (by unfold maxLen; omega) (by omega) (by simp) _ rfl ?_
        intro gv cv u hob hgb hab hlb
        rw [Nat.zero_add, List.nil_append] at hob
        have bu := ((bel_al (Below.refl wt.heap.size wt) (.cells #[] 5)).drew).grown hgb (by simp) (fun q hq => by cases hq; exact Nat.le_refl _)
        have HO1 := hid hob
        have HBU := hid bu
        clear hob hgb hab hlb bu
        refine hK.out _ _ ?_ (fun hH2 => ?_)
        · exact HK'.out _ HBU.out
        clear hK K hHeld
        have hHeld := hH2
        clear hH2
        try simp only [Act.put]
        try simp only [List.setIfInBounds_toArray]
        try simp only [List.set_cons_succ, List.set_cons_zero]
        refine anyK_take (i := 6) (v := ?v1607) rfl (by kernel_rfl) (by kernel_rfl) (by kernel_rfl) (by kernel_rfl) (fun _ _ _ h => h) (by rfl) hHeld ?hy1607 (some 50) (by rfl) ?rest1607
        case hy1607 => (intro W hSw; (try dsimp only at hSw); go_simp; (try with_reducible rfl))
        try simp only [Act.put]
        try simp only [List.setIfInBounds_toArray]
        try simp only [List.set_cons_succ, List.set_cons_zero]
        refine anyK_step (i := 7) (by kernel_rfl) rfl (fun K hK => ?_)
        go_simp
        refine hK.out _ _ ?_ (fun hH2 => ?_)
        · exact HK'.out _ (bel_al HBU.out _)
        clear hK K hHeld
        have hHeld := hH2
        clear hH2
        try simp only [Act.put]
        try simp only [List.setIfInBounds_toArray]
        try simp only [List.set_cons_succ, List.set_cons_zero]
        refine anyK_step (i := 8) (by kernel_rfl) rfl (fun K hK => ?_)
        refine step_append_lies _ (by rfl) _ _ _ (by rfl) w1.heap.size 40 j0 (.agg #[.int .i64 0, .slice none 0 0]) 2 32 Tryd.underlying25 ji jz0 jz1 jz2 rfl (by omega) (.slice a2 nW c2) nW (cellsW ws ys) (by rfl) (owns_below (bel_al HBU.out _) (Nat.le_refl _) howW.out) ⟨u.heap.size, 0, none⟩ 1 1 [.int .i64 at', (.slice (some ⟨gv, 0, none⟩) 64 cv)] (by rfl) rfl (World.news_of_block (heap_alloc_new u _)) (by simp [Value.oneCell']) (by omega) (by unfold maxLen; omega) (by omega) (by have := HBU.out.size; simp; omega) _ rfl ?_
        intro g' cap w4 hown1 hgrow hat hlt1
        obtain ⟨s1', s2'⟩ := HK'.out _ (bel_al HBU.out (.cells #[.int .i64 at', (.slice (some ⟨gv, 0, none⟩) 64 cv)] 40))
        have k0 := hgrow.cell s1' HNE.out
        have k1 := (hgrow.frozen_far ⟨w2.heap.size, 1, none⟩ (by have := HPl.out; have := HBU.out.size; simp; omega) HNE.out).trans s2'
        clear s1' s2'
        refine hK.out _ _ ?_ (fun hH2 => ?_)
        · exact ⟨k0, k1⟩
        clear hK K hHeld
        have hHeld := hH2
        clear hH2
        try simp only [Act.put]
        try simp only [List.setIfInBounds_toArray]
        try simp only [List.set_cons_succ, List.set_cons_zero]
        refine anyK_take (i := 9) (v := ?v1610) rfl (by kernel_rfl) (by kernel_rfl) (by kernel_rfl) (by kernel_rfl) (fun _ _ _ h => h) (by rfl) hHeld ?hy1610 (some 53) (by rfl) ?rest1610
        case hy1610 => (intro W hSw; (try dsimp only at hSw); go_simp; (try with_reducible rfl))
        try simp only [Act.put]
        try simp only [List.setIfInBounds_toArray]
        try simp only [List.set_cons_succ, List.set_cons_zero]
        refine anyK_last (by kernel_rfl) rfl (fun K hK => ?_)
        go_simp
        refine hK.out _ _ ?_
        clear hK K hHeld
        refine anyK_done (by kernel_rfl) ?_ _
        have bX := bel_al HBU.out (.cells #[.int .i64 at', (.slice (some ⟨gv, 0, none⟩) 64 cv)] 40)
        have oWX := owns_below bX (Nat.le_refl _) howW.out
        have oSX := owns_below bX (Nat.le_refl _) hown.out
        have hB1 := hB.out.grow hlt1w bX (by rw [HM.out]; exact HO1.out.alloc _) Hbd.out oWX (by decide) hgrow
        have oS1 := oSX.kept hgrow (owns_ne oSX oWX (by decide))
        rw [← cellsW_snoc ws ys (at', zs) (.slice (some ⟨gv, 0, none⟩) 64 cv) HLX.out.2] at hown1
        have V3 : w4.heap[w2.heap.size]? = _ := (hgrow.block w2.heap.size (by have := bX.size; have := HPl.out; omega) HNE.out).trans ((bX.block w2.heap.size HPl.out).trans HBOX.out)
        have V2 : w4.heap[w.heap.size + 1]? = _ := (hgrow.block (w.heap.size + 1) (by have := bX.size; have := HPl.out; have := HZ2.out; omega) (fun e => by have := (howW.out.lt _ e.symm).1; have := HZ.out; omega)).trans ((bX.block (w.heap.size + 1) (by have := HPl.out; have := HZ2.out; omega)).trans T1.out)
        have T2' := hid (show (w4.setCell ⟨w2.heap.size, 1, none⟩ (.slice (some ⟨g', 0, none⟩) (nW + 1) cap)).heap[w2.heap.size]? = some (.cells #[.slice a1 nS c1, .slice (some ⟨g', 0, none⟩) (nW + 1) cap, .int .i64 F', .bool D'] 27) from heap_setCell_same w4 w2.heap.size 1 _ 27 (.slice (some ⟨g', 0, none⟩) (nW + 1) cap) V3)
        have T1' := hid ((heap_set_ne w4 w2.heap.size 1 (w.heap.size + 1) (.slice (some ⟨g', 0, none⟩) (nW + 1) cap) (by have := HZ2.out; omega)).trans V2)
        have oth : ∀ q, q ≠ w2.heap.size → (w4.setCell ⟨w2.heap.size, 1, none⟩ (.slice (some ⟨g', 0, none⟩) (nW + 1) cap)).heap[q]? = w4.heap[q]? := fun q hq => heap_set_ne _ _ _ _ _ hq
        have HO' := hid (owns_oth hown1 V3 (by decide) oth)
        have HS1 := hid (owns_oth oS1 V3 (by decide) oth)
        have HBs0 : Bands w4 w1.heap.size w4.heap.size ((xs ++ ys) ++ [(.slice (some ⟨gv, 0, none⟩) 64 cv)]) ((ss ++ ws.map (·.2)) ++ [zs]) := hB1
        have HBs := hid (HBs0.oth V3 (by decide) oth)
        have HBl := hid (((BC.out.trans (bX.mono BC.out.size)).grown hgrow (Nat.le_trans BC.out.size bX.size) (fun q hq => by have := (howW.out.lt q hq).1; have := HZ.out; omega)).setCell (p := ⟨w2.heap.size, 1, none⟩) (by have := HZ2.out; show w.heap.size ≤ w2.heap.size; omega) (.slice (some ⟨g', 0, none⟩) (nW + 1) cap))
        have HL1 := hid (show ∀ q, (Value.slice a1 nS c1).ownBlock = some q → q < w4.heap.size from fun q hq => (oS1.lt q hq).2)
        have HL2 := hid (show ∀ q, (Value.slice (some ⟨g', 0, none⟩) (nW + 1) cap).ownBlock = some q → q < w4.heap.size from fun q hq => (hown1.lt q hq).2)
        have l9 : (ws ++ [(at', zs)]).length = nW + 1 := by simp [lW]
        have HL9 := hid l9
        have HZ1 := hid (show (w4.setCell ⟨w2.heap.size, 1, none⟩ (.slice (some ⟨g', 0, none⟩) (nW + 1) cap)).heap.size = w4.heap.size by simp)
        have OW := hid (show OwnD (w4.setCell ⟨w2.heap.size, 1, none⟩ (.slice (some ⟨g', 0, none⟩) (nW + 1) cap)) w1.heap.size w4.heap.size (.slice a1 nS c1) (.slice (some ⟨g', 0, none⟩) (nW + 1) cap) ss (ws ++ [(at', zs)]) from ⟨⟨xs, ys ++ [(.slice (some ⟨gv, 0, none⟩) 64 cv)], HLX.out.1, by simp [HLX.out.2], by rw [← List.append_assoc, List.map_append, ← List.append_assoc]; exact HBs.out, by rw [lS]; exact HS1.out, by rw [l9]; exact HO'.out⟩, HL1.out, HL2.out⟩)
        clear bX oWX oSX hB1 oS1 V3 V2 oth hown1 hgrow hat hlt1 k0 k1 HBs0 l9 HO' HS1 HBs HL1 HL2 T1 T2
        clear ji jz0 jz1 jz2 ki kz0 kz1 kz2
        generalize w4.setCell ⟨w2.heap.size, 1, none⟩ (.slice (some ⟨g', 0, none⟩) (nW + 1) cap) = w5 at *
        have r0 : w5.cell? ⟨w.heap.size + 1, 0, none⟩ = some (.slice none 0 0) := by rw [cell_of_row _ _ _ _ _ _ T1'.out]; rfl
        have fr0 : w5.frozen? ⟨w.heap.size + 1, 0, none⟩ = false := frozen_of_row _ _ _ _ _ T1'.out
        have u0 : w5.cell? ⟨w2.heap.size, 0, none⟩ = some (.slice a1 nS c1) := by rw [cell_of_row _ _ _ _ _ _ T2'.out]; rfl
        have r1 : w5.cell? ⟨w.heap.size + 1, 1, none⟩ = some (.slice none 0 0) := by rw [cell_of_row _ _ _ _ _ _ T1'.out]; rfl
        have fr1 : w5.frozen? ⟨w.heap.size + 1, 1, none⟩ = false := frozen_of_row _ _ _ _ _ T1'.out
        have u1 : w5.cell? ⟨w2.heap.size, 1, none⟩ = some (.slice (some ⟨g', 0, none⟩) (nW + 1) cap) := by rw [cell_of_row _ _ _ _ _ _ T2'.out]; rfl
        have r2 : w5.cell? ⟨w.heap.size + 1, 2, none⟩ = some (.int .i64 0) := by rw [cell_of_row _ _ _ _ _ _ T1'.out]; rfl
        have fr2 : w5.frozen? ⟨w.heap.size + 1, 2, none⟩ = false := frozen_of_row _ _ _ _ _ T1'.out
        have u2 : w5.cell? ⟨w2.heap.size, 2, none⟩ = some (.int .i64 F') := by rw [cell_of_row _ _ _ _ _ _ T2'.out]; rfl
        have r3 : w5.cell? ⟨w.heap.size + 1, 3, none⟩ = some (.bool false) := by rw [cell_of_row _ _ _ _ _ _ T1'.out]; rfl
        have fr3 : w5.frozen? ⟨w.heap.size + 1, 3, none⟩ = false := frozen_of_row _ _ _ _ _ T1'.out
        have u3 : w5.cell? ⟨w2.heap.size, 3, none⟩ = some (.bool D') := by rw [cell_of_row _ _ _ _ _ _ T2'.out]; rfl
        go_wp2_with fail
        have hz2 := HZ2.out
        have hz9 := HZ.out
        have Z0 := heap_setCell_same _ (w.heap.size + 1) 0 _ 27 (.slice a1 nS c1) T1'.out
        have Z1 := heap_setCell_same _ (w.heap.size + 1) 1 _ 27 (.slice (some ⟨g', 0, none⟩) (nW + 1) cap) Z0
        have Z2 := heap_setCell_same _ (w.heap.size + 1) 2 _ 27 (.int .i64 F') Z1
        have Z3 := heap_setCell_same _ (w.heap.size + 1) 3 _ 27 (.bool D') Z2
        refine bodyPost_ret (results_cell_tmp Tryd.results10 _ _ (w.heap.size + 1) 27 #[.slice a1 nS c1, .slice (some ⟨g', 0, none⟩) (nW + 1) cap, .int .i64 F', .bool D'] (0, 0) _ rfl Z3 Tryd.underlying27 rfl sizeDk) rfl ⟨⟨a1, nS, c1, some ⟨g', 0, none⟩, nW + 1, cap, by first | exact lS | simp [lS], by first | exact HL9.out | simp [lW], rfl, (OW.out.agree fun j h1 h2 => ?_).mono (by omega) (by have := HZ1.out; simp; omega), ((((HBl.out.setCell (p := ⟨w.heap.size + 1, 0, none⟩) (by simp) (.slice a1 nS c1)).setCell (p := ⟨w.heap.size + 1, 1, none⟩) (by simp) (.slice (some ⟨g', 0, none⟩) (nW + 1) cap)).setCell (p := ⟨w.heap.size + 1, 2, none⟩) (by simp) (.int .i64 F')).setCell (p := ⟨w.heap.size + 1, 3, none⟩) (by simp) (.bool D'))⟩⟩
        rw [heap_set_ne _ _ _ _ _ (by omega), heap_set_ne _ _ _ _ _ (by omega), heap_set_ne _ _ _ _ _ (by omega), heap_set_ne _ _ _ _ _ (by omega)]
    · obtain ⟨rfl, rfl, rfl, rfl, rfl⟩ := writeD_bad hR (fun hh => hg ⟨hh.2.1, by have := hh.2.2.1; simp only at this; omega, by rw [← hlz]; exact hh.2.2.2⟩)
      clear hR hok
      have hh2 : at' < 0 ∨ (¬ at' < 0 ∧ (nS : Int) ≤ at') ∨ (¬ at' < 0 ∧ ¬ (nS : Int) ≤ at' ∧ ((nD : Int) != 64) = true) := by
        by_cases k1 : at' < 0
        · exact .inl k1
        · by_cases k2 : (nS : Int) ≤ at'
          · exact .inr (.inl ⟨k1, k2⟩)
          · exact .inr (.inr ⟨k1, k2, by simp; omega⟩)
      clear hg
      rcases hh2 with q1 | ⟨q1, q2⟩ | ⟨q1, q2, q3⟩
      · go_enter Tryd.func10, Tryd.ntmps10
        go_wp2_with fail
        generalize (w.alloc (.cells #[.slice aS nS cS, .slice aW nW cW, .int .i64 F, .bool D] 27)).alloc (.cells #[.slice none 0 0, .slice none 0 0, .int .i64 0, .bool false] 27) = W0 at *
        refine (HO.out _ R0.out).mono ?_
        rintro e w1 ⟨rfl, b1⟩
        have Y0 := (b1.block w.heap.size (by omega)).trans X0
        have Y1 := (b1.block (w.heap.size + 1) (by omega)).trans X1
        have HB1 := hid (B0.trans (b1.mono B0.size))
        have HR1 := hid (R0.out.below b1 (Nat.le_refl _))
        have HZ := hid (show w.heap.size + 2 ≤ w1.heap.size by have := b1.size; omega)
        have HY1 := hid Y1
        obtain ⟨y0, y1, y2, y3⟩ : BoxD w1 w.heap.size aS nS cS aW nW cW F D := ⟨by rw [cell_of_row _ _ _ _ _ _ Y0]; rfl, by rw [cell_of_row _ _ _ _ _ _ Y0]; rfl, by rw [cell_of_row _ _ _ _ _ _ Y0]; rfl, by rw [cell_of_row _ _ _ _ _ _ Y0]; rfl⟩
        have T1 := hid Y1
        have r0 : w1.cell? ⟨w.heap.size + 1, 0, none⟩ = some (.slice none 0 0) := by rw [cell_of_row _ _ _ _ _ _ Y1]; rfl
        have fr0 : w1.frozen? ⟨w.heap.size + 1, 0, none⟩ = false := frozen_of_row _ _ _ _ _ Y1
        have r1 : w1.cell? ⟨w.heap.size + 1, 1, none⟩ = some (.slice none 0 0) := by rw [cell_of_row _ _ _ _ _ _ Y1]; rfl
        have fr1 : w1.frozen? ⟨w.heap.size + 1, 1, none⟩ = false := frozen_of_row _ _ _ _ _ Y1
        have r2 : w1.cell? ⟨w.heap.size + 1, 2, none⟩ = some (.int .i64 0) := by rw [cell_of_row _ _ _ _ _ _ Y1]; rfl
        have fr2 : w1.frozen? ⟨w.heap.size + 1, 2, none⟩ = false := frozen_of_row _ _ _ _ _ Y1
        have r3 : w1.cell? ⟨w.heap.size + 1, 3, none⟩ = some (.bool false) := by rw [cell_of_row _ _ _ _ _ _ Y1]; rfl
        have fr3 : w1.frozen? ⟨w.heap.size + 1, 3, none⟩ = false := frozen_of_row _ _ _ _ _ Y1
        clear Y0 Y1 X0 X1 XZ B0 b1 R0 HO
        go_wp2_with fail
        have Z0 := heap_setCell_same _ (w.heap.size + 1) 0 _ 27 (.slice none 0 0) T1.out
        have Z1 := heap_setCell_same _ (w.heap.size + 1) 1 _ 27 (.slice none 0 0) Z0
        have Z2 := heap_setCell_same _ (w.heap.size + 1) 2 _ 27 (.int .i64 0) Z1
        have Z3 := heap_setCell_same _ (w.heap.size + 1) 3 _ 27 (.bool false) Z2
        exact bodyPost_ret (results_cell_tmp Tryd.results10 _ _ (w.heap.size + 1) 27 #[.slice none 0 0, .slice none 0 0, .int .i64 0, .bool false] (0, 0) _ rfl Z3 Tryd.underlying27 rfl sizeDk) rfl ⟨⟨none, 0, 0, none, 0, 0, rfl, rfl, rfl, OwnD.nil _ _ _, ((((HB1.out.setCell (p := ⟨w.heap.size + 1, 0, none⟩) (by simp) (.slice none 0 0)).setCell (p := ⟨w.heap.size + 1, 1, none⟩) (by simp) (.slice none 0 0)).setCell (p := ⟨w.heap.size + 1, 2, none⟩) (by simp) (.int .i64 0)).setCell (p := ⟨w.heap.size + 1, 3, none⟩) (by simp) (.bool false))⟩⟩
      · go_enter Tryd.func10, Tryd.ntmps10
        go_wp2_with fail
        generalize (w.alloc (.cells #[.slice aS nS cS, .slice aW nW cW, .int .i64 F, .bool D] 27)).alloc (.cells #[.slice none 0 0, .slice none 0 0, .int .i64 0, .bool false] 27) = W0 at *
        refine (HO.out _ R0.out).mono ?_
        rintro e w1 ⟨rfl, b1⟩
        have Y0 := (b1.block w.heap.size (by omega)).trans X0
        have Y1 := (b1.block (w.heap.size + 1) (by omega)).trans X1
        have HB1 := hid (B0.trans (b1.mono B0.size))
        have HR1 := hid (R0.out.below b1 (Nat.le_refl _))
        have HZ := hid (show w.heap.size + 2 ≤ w1.heap.size by have := b1.size; omega)
        have HY1 := hid Y1
        obtain ⟨y0, y1, y2, y3⟩ : BoxD w1 w.heap.size aS nS cS aW nW cW F D := ⟨by rw [cell_of_row _ _ _ _ _ _ Y0]; rfl, by rw [cell_of_row _ _ _ _ _ _ Y0]; rfl, by rw [cell_of_row _ _ _ _ _ _ Y0]; rfl, by rw [cell_of_row _ _ _ _ _ _ Y0]; rfl⟩
        have T1 := hid Y1
        have r0 : w1.cell? ⟨w.heap.size + 1, 0, none⟩ = some (.slice none 0 0) := by rw [cell_of_row _ _ _ _ _ _ Y1]; rfl
        have fr0 : w1.frozen? ⟨w.heap.size + 1, 0, none⟩ = false := frozen_of_row _ _ _ _ _ Y1
        have r1 : w1.cell? ⟨w.heap.size + 1, 1, none⟩ = some (.slice none 0 0) := by rw [cell_of_row _ _ _ _ _ _ Y1]; rfl
        have fr1 : w1.frozen? ⟨w.heap.size + 1, 1, none⟩ = false := frozen_of_row _ _ _ _ _ Y1
        have r2 : w1.cell? ⟨w.heap.size + 1, 2, none⟩ = some (.int .i64 0) := by rw [cell_of_row _ _ _ _ _ _ Y1]; rfl
        have fr2 : w1.frozen? ⟨w.heap.size + 1, 2, none⟩ = false := frozen_of_row _ _ _ _ _ Y1
        have r3 : w1.cell? ⟨w.heap.size + 1, 3, none⟩ = some (.bool false) := by rw [cell_of_row _ _ _ _ _ _ Y1]; rfl
        have fr3 : w1.frozen? ⟨w.heap.size + 1, 3, none⟩ = false := frozen_of_row _ _ _ _ _ Y1
        clear Y0 Y1 X0 X1 XZ B0 b1 R0 HO
        go_wp2_with fail
        have Z0 := heap_setCell_same _ (w.heap.size + 1) 0 _ 27 (.slice none 0 0) T1.out
        have Z1 := heap_setCell_same _ (w.heap.size + 1) 1 _ 27 (.slice none 0 0) Z0
        have Z2 := heap_setCell_same _ (w.heap.size + 1) 2 _ 27 (.int .i64 0) Z1
        have Z3 := heap_setCell_same _ (w.heap.size + 1) 3 _ 27 (.bool false) Z2
        exact bodyPost_ret (results_cell_tmp Tryd.results10 _ _ (w.heap.size + 1) 27 #[.slice none 0 0, .slice none 0 0, .int .i64 0, .bool false] (0, 0) _ rfl Z3 Tryd.underlying27 rfl sizeDk) rfl ⟨⟨none, 0, 0, none, 0, 0, rfl, rfl, rfl, OwnD.nil _ _ _, ((((HB1.out.setCell (p := ⟨w.heap.size + 1, 0, none⟩) (by simp) (.slice none 0 0)).setCell (p := ⟨w.heap.size + 1, 1, none⟩) (by simp) (.slice none 0 0)).setCell (p := ⟨w.heap.size + 1, 2, none⟩) (by simp) (.int .i64 0)).setCell (p := ⟨w.heap.size + 1, 3, none⟩) (by simp) (.bool false))⟩⟩
      · go_enter Tryd.func10, Tryd.ntmps10
        go_wp2_with fail
        generalize (w.alloc (.cells #[.slice aS nS cS, .slice aW nW cW, .int .i64 F, .bool D] 27)).alloc (.cells #[.slice none 0 0, .slice none 0 0, .int .i64 0, .bool false] 27) = W0 at *
        refine (HO.out _ R0.out).mono ?_
        rintro e w1 ⟨rfl, b1⟩
        have Y0 := (b1.block w.heap.size (by omega)).trans X0
        have Y1 := (b1.block (w.heap.size + 1) (by omega)).trans X1
        have HB1 := hid (B0.trans (b1.mono B0.size))
        have HR1 := hid (R0.out.below b1 (Nat.le_refl _))
        have HZ := hid (show w.heap.size + 2 ≤ w1.heap.size by have := b1.size; omega)
        have HY1 := hid Y1
        obtain ⟨y0, y1, y2, y3⟩ : BoxD w1 w.heap.size aS nS cS aW nW cW F D := ⟨by rw [cell_of_row _ _ _ _ _ _ Y0]; rfl, by rw [cell_of_row _ _ _ _ _ _ Y0]; rfl, by rw [cell_of_row _ _ _ _ _ _ Y0]; rfl, by rw [cell_of_row _ _ _ _ _ _ Y0]; rfl⟩
        have T1 := hid Y1
        have r0 : w1.cell? ⟨w.heap.size + 1, 0, none⟩ = some (.slice none 0 0) := by rw [cell_of_row _ _ _ _ _ _ Y1]; rfl
        have fr0 : w1.frozen? ⟨w.heap.size + 1, 0, none⟩ = false := frozen_of_row _ _ _ _ _ Y1
        have r1 : w1.cell? ⟨w.heap.size + 1, 1, none⟩ = some (.slice none 0 0) := by rw [cell_of_row _ _ _ _ _ _ Y1]; rfl
        have fr1 : w1.frozen? ⟨w.heap.size + 1, 1, none⟩ = false := frozen_of_row _ _ _ _ _ Y1
        have r2 : w1.cell? ⟨w.heap.size + 1, 2, none⟩ = some (.int .i64 0) := by rw [cell_of_row _ _ _ _ _ _ Y1]; rfl
        have fr2 : w1.frozen? ⟨w.heap.size + 1, 2, none⟩ = false := frozen_of_row _ _ _ _ _ Y1
        have r3 : w1.cell? ⟨w.heap.size + 1, 3, none⟩ = some (.bool false) := by rw [cell_of_row _ _ _ _ _ _ Y1]; rfl
        have fr3 : w1.frozen? ⟨w.heap.size + 1, 3, none⟩ = false := frozen_of_row _ _ _ _ _ Y1
        clear Y0 Y1 X0 X1 XZ B0 b1 R0 HO
        go_wp2_with fail
        have Z0 := heap_setCell_same _ (w.heap.size + 1) 0 _ 27 (.slice none 0 0) T1.out
        have Z1 := heap_setCell_same _ (w.heap.size + 1) 1 _ 27 (.slice none 0 0) Z0
        have Z2 := heap_setCell_same _ (w.heap.size + 1) 2 _ 27 (.int .i64 0) Z1
        have Z3 := heap_setCell_same _ (w.heap.size + 1) 3 _ 27 (.bool false) Z2
        exact bodyPost_ret (results_cell_tmp Tryd.results10 _ _ (w.heap.size + 1) 27 #[.slice none 0 0, .slice none 0 0, .int .i64 0, .bool false] (0, 0) _ rfl Z3 Tryd.underlying27 rfl sizeDk) rfl ⟨⟨none, 0, 0, none, 0, 0, rfl, rfl, rfl, OwnD.nil _ _ _, ((((HB1.out.setCell (p := ⟨w.heap.size + 1, 0, none⟩) (by simp) (.slice none 0 0)).setCell (p := ⟨w.heap.size + 1, 1, none⟩) (by simp) (.slice none 0 0)).setCell (p := ⟨w.heap.size + 1, 2, none⟩) (by simp) (.int .i64 0)).setCell (p := ⟨w.heap.size + 1, 3, none⟩) (by simp) (.bool false))⟩⟩
  · have hok' : okD ⟨ss, ws, F, D⟩ = false := by simpa using hok
    rw [hok'] at hO
    obtain ⟨rfl, rfl, rfl, rfl, rfl⟩ := writeD_bad hR (fun hh => hok hh.1)
    have HO := hid hO
    clear hok hok' hR hO h
    go_enter Tryd.func10, Tryd.ntmps10
    go_wp2_with fail
    generalize (w.alloc (.cells #[.slice aS nS cS, .slice aW nW cW, .int .i64 F, .bool D] 27)).alloc (.cells #[.slice none 0 0, .slice none 0 0, .int .i64 0, .bool false] 27) = W0 at *
    refine (HO.out _ R0.out).mono ?_
    rintro e w1 ⟨rfl, b1⟩
    have Y0 := (b1.block w.heap.size (by omega)).trans X0
    have Y1 := (b1.block (w.heap.size + 1) (by omega)).trans X1
    have HB1 := hid (B0.trans (b1.mono B0.size))
    have HR1 := hid (R0.out.below b1 (Nat.le_refl _))
    have HZ := hid (show w.heap.size + 2 ≤ w1.heap.size by have := b1.size; omega)
    have HY1 := hid Y1
    obtain ⟨y0, y1, y2, y3⟩ : BoxD w1 w.heap.size aS nS cS aW nW cW F D := ⟨by rw [cell_of_row _ _ _ _ _ _ Y0]; rfl, by rw [cell_of_row _ _ _ _ _ _ Y0]; rfl, by rw [cell_of_row _ _ _ _ _ _ Y0]; rfl, by rw [cell_of_row _ _ _ _ _ _ Y0]; rfl⟩
    have T1 := hid Y1
    have r0 : w1.cell? ⟨w.heap.size + 1, 0, none⟩ = some (.slice none 0 0) := by rw [cell_of_row _ _ _ _ _ _ Y1]; rfl
    have fr0 : w1.frozen? ⟨w.heap.size + 1, 0, none⟩ = false := frozen_of_row _ _ _ _ _ Y1
    have r1 : w1.cell? ⟨w.heap.size + 1, 1, none⟩ = some (.slice none 0 0) := by rw [cell_of_row _ _ _ _ _ _ Y1]; rfl
    have fr1 : w1.frozen? ⟨w.heap.size + 1, 1, none⟩ = false := frozen_of_row _ _ _ _ _ Y1
    have r2 : w1.cell? ⟨w.heap.size + 1, 2, none⟩ = some (.int .i64 0) := by rw [cell_of_row _ _ _ _ _ _ Y1]; rfl
    have fr2 : w1.frozen? ⟨w.heap.size + 1, 2, none⟩ = false := frozen_of_row _ _ _ _ _ Y1
    have r3 : w1.cell? ⟨w.heap.size + 1, 3, none⟩ = some (.bool false) := by rw [cell_of_row _ _ _ _ _ _ Y1]; rfl
    have fr3 : w1.frozen? ⟨w.heap.size + 1, 3, none⟩ = false := frozen_of_row _ _ _ _ _ Y1
    clear Y0 Y1 X0 X1 XZ B0 b1 R0 HO
    go_wp2_with fail
    have Z0 := heap_setCell_same _ (w.heap.size + 1) 0 _ 27 (.slice none 0 0) T1.out
    have Z1 := heap_setCell_same _ (w.heap.size + 1) 1 _ 27 (.slice none 0 0) Z0
    have Z2 := heap_setCell_same _ (w.heap.size + 1) 2 _ 27 (.int .i64 0) Z1
    have Z3 := heap_setCell_same _ (w.heap.size + 1) 3 _ 27 (.bool false) Z2
    exact bodyPost_ret (results_cell_tmp Tryd.results10 _ _ (w.heap.size + 1) 27 #[.slice none 0 0, .slice none 0 0, .int .i64 0, .bool false] (0, 0) _ rfl Z3 Tryd.underlying27 rfl sizeDk) rfl ⟨⟨none, 0, 0, none, 0, 0, rfl, rfl, rfl, OwnD.nil _ _ _, ((((HB1.out.setCell (p := ⟨w.heap.size + 1, 0, none⟩) (by simp) (.slice none 0 0)).setCell (p := ⟨w.heap.size + 1, 1, none⟩) (by simp) (.slice none 0 0)).setCell (p := ⟨w.heap.size + 1, 2, none⟩) (by simp) (.int .i64 0)).setCell (p := ⟨w.heap.size + 1, 3, none⟩) (by simp) (.bool false))⟩⟩

set_option maxRecDepth 100000 in
set_option maxHeartbeats 6400000 in
theorem impl_Write {aS aW : Option Addr} {nS nW : Nat} (cS cW : Nat) {ss : List (List Int)} {ws : List (Int × List Int)} {F : Int} {D : Bool} (at' : Int) {w : World} (h : ReadsD w aS aW ss ws) (lS : ss.length = nS) (lW : ws.length = nW) {aD : Option Addr} {nD : Nat} (cD : Nat) {zs : List Int} (hd : Reads w aD nD zs) (hF : F ≤ 9223372036854775807) {s0 s1 : Addr} {e0 e1 : Array Value} {u0 u1 : TypeId} (hs : Sents w w.heap.size s0 s1 e0 e1 u0 u1)
    {RS : List (List Int)} {RW : List (Int × List Int)} {RF : Int} {RD : Bool} {RC : Int} (hR : writeD ⟨ss, ws, F, D⟩ at' zs = (⟨RS, RW, RF, RD⟩, RC)) :
    Calls Tryd.prog 11 #[.agg #[.slice aS nS cS, .slice aW nW cW, .int .i64 F, .bool D], .int .i64 at', .slice aD nD cD] w fun e w' => ∃ aR n1 cR dR n2 eR, RS.length = n1 ∧ RW.length = n2 ∧ e = .returned (.tuple #[.agg #[.slice aR n1 cR, .slice dR n2 eR, .int .i64 RF, .bool RD], .int .i64 RC]) ∧ OwnD w' w.heap.size w'.heap.size (.slice aR n1 cR) (.slice dR n2 eR) RS RW ∧ Below w.heap.size w w' := by
  have B0 := two w (.cells #[.slice aS nS cS, .slice aW nW cW, .int .i64 F, .bool D] 27) (.cells #[.slice none 0 0, .slice none 0 0, .int .i64 0, .bool false] 27)
  have X1 := heap_new2 w (.cells #[.slice aS nS cS, .slice aW nW cW, .int .i64 F, .bool D] 27) (.cells #[.slice none 0 0, .slice none 0 0, .int .i64 0, .bool false] 27)
  have X0 := heap_new1 w (.cells #[.slice aS nS cS, .slice aW nW cW, .int .i64 F, .bool D] 27) (.cells #[.slice none 0 0, .slice none 0 0, .int .i64 0, .bool false] 27)
  have XZ : ((w.alloc (.cells #[.slice aS nS cS, .slice aW nW cW, .int .i64 F, .bool D] 27)).alloc (.cells #[.slice none 0 0, .slice none 0 0, .int .i64 0, .bool false] 27)).heap.size = w.heap.size + 2 := by simp
  have HD0 := hid hd
  have hlz := hd.len
  clear hd
  have HS := hid hs
  clear hs
  have hO := fun (W : World) (r : ReadsD W aS aW ss ws) => impl_DiskOk cS cW F D r lS lW
  have R0 := hid (h.below B0 (Nat.le_refl _))
  by_cases hok : okD ⟨ss, ws, F, D⟩ = true
  · rw [hok] at hO
    have okk := okD_of hok
    have l1 : nS ≤ 512 := by have := okk.s1; simp only at this; omega
    have l2 : nW ≤ 600 := by have := okk.w1; simp only at this; omega
    have HL3 := hid (show ∀ i, i < nS → (ss.getD i []).length = 64 from fun i hi => okk.s i (by simp only; omega))
    have HL4 := hid (show ∀ i, i < nW → 0 ≤ (ws.getD i w0).1 ∧ (ws.getD i w0).1 < nS ∧ (ws.getD i w0).2.length = 64 from fun i hi => by have := okk.w i (by simp only; omega); simp only [lS] at this; exact this)
    have HO := hid hO
    clear hO h okk
    by_cases hg : 0 ≤ at' ∧ at' < (nS : Int) ∧ nD = 64
    · obtain ⟨g1, g2, rfl⟩ := hg
      rw [writeD_I hok g1 (by simp only; omega) hlz] at hR
      have HRR := hid hR
      have HRS := hid (show RS.length = nS by rw [writeI_len hR]; exact lS)
      have g3 : ¬ at' < 0 := by omega
      have g4 : ¬ (nS : Int) ≤ at' := by omega
      clear hok hR
      go_enter Tryd.func11, Tryd.ntmps11
      go_wp2_with fail
      generalize (w.alloc (.cells #[.slice aS nS cS, .slice aW nW cW, .int .i64 F, .bool D] 27)).alloc (.cells #[.slice none 0 0, .slice none 0 0, .int .i64 0, .bool false] 27) = W0 at *
      refine (HO.out _ R0.out).mono ?_
      rintro e w1 ⟨rfl, b1⟩
      have Y0 := (b1.block w.heap.size (by omega)).trans X0
      have Y1 := (b1.block (w.heap.size + 1) (by omega)).trans X1
      have HB1 := hid (B0.trans (b1.mono B0.size))
      have HR1 := hid (R0.out.below b1 (Nat.le_refl _))
      have HZ := hid (show w.heap.size + 2 ≤ w1.heap.size by have := b1.size; omega)
      have HY1 := hid Y1
      obtain ⟨y0, y1, y2, y3⟩ : BoxD w1 w.heap.size aS nS cS aW nW cW F D := ⟨by rw [cell_of_row _ _ _ _ _ _ Y0]; rfl, by rw [cell_of_row _ _ _ _ _ _ Y0]; rfl, by rw [cell_of_row _ _ _ _ _ _ Y0]; rfl, by rw [cell_of_row _ _ _ _ _ _ Y0]; rfl⟩
      clear Y0 Y1 X0 X1 XZ B0 b1 R0 HO
      go_wp2_with fail
      refine (impl_fits w.heap.size at' aD 64 cD aS nS cS y0).mono ?_
      rintro e wf ⟨rfl, hwf⟩
      obtain rfl := hwf.symm
      rw [show fitS at' nS 64 = true from decide_eq_true (by omega)]
      go_wp2_with fail
      refine (impl_copied (BoxD.mk y0 y1 y2 y3) HR1.out lS lW (by omega) (by omega) (len_any HL3.out lS) (lenW_any (fun i hi => (HL4.out i hi).2.2) lW)).mono ?_
      rintro e w2 ⟨a1, c1, a2, c2, rfl, o2, b2⟩
      clear y0 y1 y2 y3
      have hz2 : w.heap.size + 2 ≤ w2.heap.size := by have := HZ.out; have := b2.size; omega
      have V1 := (b2.block (w.heap.size + 1) (by have := HZ.out; omega)).trans HY1.out
      have bA := Below.alloc1 w2 (.cells #[.slice a1 nS c1, .slice a2 nW c2, .int .i64 F, .bool D] 27)
      obtain ⟨xs, ys, hx, hy, hBs, oS, oW⟩ := o2.own
      rw [lS] at oS
      rw [lW] at oW
      have HLv := hid (show Live (w2.alloc (.cells #[.slice a1 nS c1, .slice a2 nW c2, .int .i64 F, .bool D] 27)) w1.heap.size w2.heap.size w2.heap.size a1 nS c1 a2 nW c2 F D xs ys ss ws from ⟨heap_alloc_new _ _, oS.alloc _, oW.alloc _, hBs.agree (Agree.below bA (Nat.le_refl _)), hx, hy, o2.topS⟩)
      have HV1 := hid ((bA.block (w.heap.size + 1) (by omega)).trans V1)
      have HB2 := hid ((HB1.out.trans (b2.mono HB1.out.size)).trans (bA.mono (by omega)))
      have HZ2 := hid (And.intro hz2 (show w1.heap.size ≤ w2.heap.size from b2.size))
      have HA2 := hid (alloc_size w2 (.cells #[.slice a1 nS c1, .slice a2 nW c2, .int .i64 F, .bool D] 27))
      have HS2 := hid ((HS.out.below HB2.out).up (show w.heap.size ≤ w.heap.size + 2 by omega))
      clear o2 b2 V1 hz2 HY1 HB1 bA hBs oS oW hx hy
      go_wp2_with fail
      generalize w2.alloc (.cells #[.slice a1 nS c1, .slice a2 nW c2, .int .i64 F, .bool D] 27) = W2 at *
      refine (impl_write (B := w.heap.size + 2) at' cD HLv.out (by have := HA2.out; omega) HS2.out (fun X bb => HD0.out.below (HB2.out.trans (bb.mono (by omega))) (Nat.le_refl _)) hF (by have := HZ.out; omega) HZ2.out.1 (Nat.le_refl _) (by have := HA2.out; have := HZ2.out.1; omega) (by have := HA2.out; have := HZ2.out.2; omega) lS lW l2).mono ?_
      rintro e w3 ⟨⟨v, a2', n2, c2', rfl, hc, hl, hbx, o3⟩, b3⟩
      rw [HRR.out] at hc hl hbx o3
      simp only at hc hl hbx o3
      have T2 := hid hbx
      have T1 := hid ((b3.block (w.heap.size + 1) (by omega)).trans HV1.out)
      have O2 := hid o3
      have BC := hid (HB2.out.trans (b3.mono (by omega)))
      have HS3 := hid (HS2.out.below b3)
      have HC := hid hc
      have HLn := hid hl
      clear hbx o3 b3 HLv HV1 HB2 HS2 hc hl
      go_wp2_with fail
      have T2d : w3.drew.heap[w2.heap.size]? = some (.cells #[.slice a1 nS c1, .slice a2' n2 c2', .int .i64 RF, .bool RD] 27) := T2.out
      have T1d := hid (show w3.drew.heap[w.heap.size + 1]? = some (.cells #[.slice none 0 0, .slice none 0 0, .int .i64 0, .bool false] 27) from T1.out)
      have HS4 := hid (HS3.out.below (Below.refl _ w3).drew)
      have H4 := hid (show w3.drew.cell? ⟨w2.heap.size, 0, none⟩ = some (.slice a1 nS c1) ∧ w3.drew.cell? ⟨w2.heap.size, 1, none⟩ = some (.slice a2' n2 c2') ∧ w3.drew.cell? ⟨w2.heap.size, 2, none⟩ = some (.int .i64 RF) ∧ w3.drew.cell? ⟨w2.heap.size, 3, none⟩ = some (.bool RD) from ⟨by rw [cell_of_row _ _ _ _ _ _ T2d]; rfl, by rw [cell_of_row _ _ _ _ _ _ T2d]; rfl, by rw [cell_of_row _ _ _ _ _ _ T2d]; rfl, by rw [cell_of_row _ _ _ _ _ _ T2d]; rfl⟩)
      have T2h := hid T2d
      clear T2d
      refine region_K 4 (fun X => X.cell? ⟨w2.heap.size, 0, none⟩ = some (.slice a1 nS c1) ∧ X.cell? ⟨w2.heap.size, 1, none⟩ = some (.slice a2' n2 c2') ∧ X.cell? ⟨w2.heap.size, 2, none⟩ = some (.int .i64 RF) ∧ X.cell? ⟨w2.heap.size, 3, none⟩ = some (.bool RD)) (by kernel_rfl) ?_ (fun hHeld => ?_)
      · exact H4.out
      refine anyK_take (i := 0) (v := ?v1612) rfl (by kernel_rfl) (by kernel_rfl) (by kernel_rfl) (by kernel_rfl) (fun _ _ _ h => h) (by rfl) hHeld ?hy1612 (some 24) (by rfl) ?rest1612
      case hy1612 => (intro W hSw; (try dsimp only at hSw); go_simp; (try with_reducible rfl))
      try simp only [Act.put]
      try simp only [List.setIfInBounds_toArray]
      try simp only [List.set_cons_succ, List.set_cons_zero]
      refine anyK_take (i := 1) (v := ?v1613) rfl (by kernel_rfl) (by kernel_rfl) (by kernel_rfl) (by kernel_rfl) (fun _ _ _ h => h) (by rfl) hHeld ?hy1613 (some 25) (by rfl) ?rest1613
      case hy1613 => (intro W hSw; (try dsimp only at hSw); go_simp; (try with_reducible rfl))
      try simp only [Act.put]
      try simp only [List.setIfInBounds_toArray]
      try simp only [List.set_cons_succ, List.set_cons_zero]
      refine anyK_step (i := 2) (by kernel_rfl) rfl (fun K hK => ?_)
      go_simp
      refine (disk_code HS4.out HC.out).mono ?_
      rintro e w' ⟨rfl, rfl⟩
      go_wp2_with fail
      refine hK.out _ _ ?_ (fun hH2 => ?_)
      · exact H4.out
      clear hK K hHeld
      have hHeld := hH2
      clear hH2
      try simp only [Act.put]
      try simp only [List.setIfInBounds_toArray]
      try simp only [List.set_cons_succ, List.set_cons_zero]
      refine anyK_step (i := 3) (by kernel_rfl) rfl (fun K hK => ?_)
      rw [if_pos (by rfl)]
      refine wp_store_row 27 (.tmp 6) (.tmp 24) rfl (w.heap.size + 1) #[.slice a1 nS c1, .slice a2' n2 c2', .int .i64 RF, .bool RD] rfl rfl 27 _ T1d.out sizeDk rfl (by simp [Value.oneCell']) ?_
      have TS : (w3.drew.setRow (w.heap.size + 1) #[.slice a1 nS c1, .slice a2' n2 c2', .int .i64 RF, .bool RD]).heap[w2.heap.size]? = some (.cells #[.slice a1 nS c1, .slice a2' n2 c2', .int .i64 RF, .bool RD] 27) := by
        rw [setRow_other _ _ _ _ (by have := HZ2.out.1; omega)]
        exact T2h.out
      refine hK.out _ _ ?_ (fun hH2 => ?_)
      · exact ⟨by rw [cell_of_row _ _ _ _ _ _ TS]; rfl, by rw [cell_of_row _ _ _ _ _ _ TS]; rfl, by rw [cell_of_row _ _ _ _ _ _ TS]; rfl, by rw [cell_of_row _ _ _ _ _ _ TS]; rfl⟩
      clear hK K hHeld
      have hHeld := hH2
      clear hH2
      try simp only [Act.put]
      try simp only [List.setIfInBounds_toArray]
      try simp only [List.set_cons_succ, List.set_cons_zero]
      refine anyK_last (by kernel_rfl) rfl (fun K hK => ?_)
      go_simp
      refine hK.out _ _ ?_
      clear hK K hHeld
      refine anyK_done (by kernel_rfl) ?_ _
      go_wp2_with fail
      have hz2 := HZ2.out
      refine bodyPost_ret (results_cell_tmp Tryd.results11 _ _ (w.heap.size + 1) 27 #[.slice a1 nS c1, .slice a2' n2 c2', .int .i64 RF, .bool RD] (0, 0) _ rfl (setRow_heap _ _ _ _ _ _ T1d.out) Tryd.underlying27 rfl sizeDk) rfl ⟨a1, nS, c1, a2', n2, c2', HRS.out, HLn.out, rfl, (O2.out.agree fun j h1 h2 => ?_).mono (by have := HZ.out; omega) (by simp), below_setRow BC.out.drew (by omega) _⟩
      rw [setRow_other _ _ _ _ (by have := HZ.out; omega)]
      rfl
    · obtain ⟨rfl, rfl, rfl, rfl, rfl⟩ := writeD_bad hR (fun hh => hg ⟨hh.2.1, by have := hh.2.2.1; simp only at this; omega, by rw [← hlz]; exact hh.2.2.2⟩)
      clear hR hok
      go_enter Tryd.func11, Tryd.ntmps11
      go_wp2_with fail
      generalize (w.alloc (.cells #[.slice aS nS cS, .slice aW nW cW, .int .i64 F, .bool D] 27)).alloc (.cells #[.slice none 0 0, .slice none 0 0, .int .i64 0, .bool false] 27) = W0 at *
      refine (HO.out _ R0.out).mono ?_
      rintro e w1 ⟨rfl, b1⟩
      have Y0 := (b1.block w.heap.size (by omega)).trans X0
      have Y1 := (b1.block (w.heap.size + 1) (by omega)).trans X1
      have HB1 := hid (B0.trans (b1.mono B0.size))
      have HR1 := hid (R0.out.below b1 (Nat.le_refl _))
      have HZ := hid (show w.heap.size + 2 ≤ w1.heap.size by have := b1.size; omega)
      have HY1 := hid Y1
      obtain ⟨y0, y1, y2, y3⟩ : BoxD w1 w.heap.size aS nS cS aW nW cW F D := ⟨by rw [cell_of_row _ _ _ _ _ _ Y0]; rfl, by rw [cell_of_row _ _ _ _ _ _ Y0]; rfl, by rw [cell_of_row _ _ _ _ _ _ Y0]; rfl, by rw [cell_of_row _ _ _ _ _ _ Y0]; rfl⟩
      have T1 := hid Y1
      clear Y0 Y1 X0 X1 XZ B0 b1 R0 HO
      go_wp2_with fail
      refine (impl_fits w.heap.size at' aD nD cD aS nS cS y0).mono ?_
      rintro e w2 ⟨rfl, rfl⟩
      rw [show fitS at' nS nD = false from decide_eq_false (by omega)]
      go_wp2_with (refine wpList_store_row rfl 27 (.tmp 6) (.tmp 19) rfl (w.heap.size + 1) #[.slice none 0 0, .slice none 0 0, .int .i64 0, .bool false] rfl rfl 27 _ T1.out ?s1 ?s2 ?s3 ?_)
      case s1 => exact sizeDk
      case s2 => rfl
      case s3 => simp [Value.oneCell']
      exact bodyPost_ret (results_cell_tmp Tryd.results11 _ _ (w.heap.size + 1) 27 #[.slice none 0 0, .slice none 0 0, .int .i64 0, .bool false] (0, 0) _ rfl (setRow_heap _ _ _ _ _ _ T1.out) Tryd.underlying27 rfl sizeDk) rfl ⟨none, 0, 0, none, 0, 0, rfl, rfl, rfl, OwnD.nil _ _ _, below_setRow HB1.out (by omega) _⟩
  · have hok' : okD ⟨ss, ws, F, D⟩ = false := by simpa using hok
    rw [hok'] at hO
    obtain ⟨rfl, rfl, rfl, rfl, rfl⟩ := writeD_bad hR (fun hh => hok hh.1)
    have HO := hid hO
    clear hok hok' hR hO h
    go_enter Tryd.func11, Tryd.ntmps11
    go_wp2_with fail
    generalize (w.alloc (.cells #[.slice aS nS cS, .slice aW nW cW, .int .i64 F, .bool D] 27)).alloc (.cells #[.slice none 0 0, .slice none 0 0, .int .i64 0, .bool false] 27) = W0 at *
    refine (HO.out _ R0.out).mono ?_
    rintro e w1 ⟨rfl, b1⟩
    have Y0 := (b1.block w.heap.size (by omega)).trans X0
    have Y1 := (b1.block (w.heap.size + 1) (by omega)).trans X1
    have HB1 := hid (B0.trans (b1.mono B0.size))
    have HR1 := hid (R0.out.below b1 (Nat.le_refl _))
    have HZ := hid (show w.heap.size + 2 ≤ w1.heap.size by have := b1.size; omega)
    have HY1 := hid Y1
    obtain ⟨y0, y1, y2, y3⟩ : BoxD w1 w.heap.size aS nS cS aW nW cW F D := ⟨by rw [cell_of_row _ _ _ _ _ _ Y0]; rfl, by rw [cell_of_row _ _ _ _ _ _ Y0]; rfl, by rw [cell_of_row _ _ _ _ _ _ Y0]; rfl, by rw [cell_of_row _ _ _ _ _ _ Y0]; rfl⟩
    have T1 := hid Y1
    clear Y0 Y1 X0 X1 XZ B0 b1 R0 HO
    go_wp2_with (refine wpList_store_row rfl 27 (.tmp 6) (.tmp 19) rfl (w.heap.size + 1) #[.slice none 0 0, .slice none 0 0, .int .i64 0, .bool false] rfl rfl 27 _ T1.out ?s1 ?s2 ?s3 ?_)
    case s1 => exact sizeDk
    case s2 => rfl
    case s3 => simp [Value.oneCell']
    exact bodyPost_ret (results_cell_tmp Tryd.results11 _ _ (w.heap.size + 1) 27 #[.slice none 0 0, .slice none 0 0, .int .i64 0, .bool false] (0, 0) _ rfl (setRow_heap _ _ _ _ _ _ T1.out) Tryd.underlying27 rfl sizeDk) rfl ⟨none, 0, 0, none, 0, 0, rfl, rfl, rfl, OwnD.nil _ _ _, below_setRow HB1.out (by omega) _⟩
end Go.Proofs.YtnnnehjlegjejaaDoor
