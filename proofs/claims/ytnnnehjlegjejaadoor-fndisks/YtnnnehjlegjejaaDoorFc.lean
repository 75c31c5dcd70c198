/- The contracts of the program's DiskFuse and DiskCrash, in the door seat. -/
import Derived.Test.YtnnnehjlegjejaaDoorDs
import Derived.Test.YtnnnehjlegjejaaDoorDi
namespace Go.Proofs.YtnnnehjlegjejaaDoor
open Go.RowKit

set_option maxRecDepth 100000 in
set_option maxHeartbeats 3200000 in
theorem impl_Fuse {aS aW : Option Addr} {nS nW : Nat} (cS cW : Nat) {ss : List (List Int)} {ws : List (Int × List Int)} {F : Int} {D : Bool} (at' : Int) {w : World} (h : ReadsD w aS aW ss ws) (lS : ss.length = nS) (lW : ws.length = nW)
    {RS : List (List Int)} {RW : List (Int × List Int)} {RF : Int} {RD : Bool} {RC : Int} (hR : fuseD ⟨ss, ws, F, D⟩ at' = (⟨RS, RW, RF, RD⟩, RC)) :
    Calls Tryd.prog 18 #[.agg #[.slice aS nS cS, .slice aW nW cW, .int .i64 F, .bool D], .int .i64 at'] w fun e w' => ∃ aR n1 cR dR n2 eR, RS.length = n1 ∧ RW.length = n2 ∧ e = .returned (.tuple #[.agg #[.slice aR n1 cR, .slice dR n2 eR, .int .i64 RF, .bool RD], .int .i64 RC]) ∧ OwnD w' w.heap.size w'.heap.size (.slice aR n1 cR) (.slice dR n2 eR) RS RW ∧ Below w.heap.size w w' := by
  have B0 := two w (.cells #[.slice aS nS cS, .slice aW nW cW, .int .i64 F, .bool D] 27) (.cells #[.slice none 0 0, .slice none 0 0, .int .i64 0, .bool false] 27)
  have X1 := heap_new2 w (.cells #[.slice aS nS cS, .slice aW nW cW, .int .i64 F, .bool D] 27) (.cells #[.slice none 0 0, .slice none 0 0, .int .i64 0, .bool false] 27)
  have X0 := heap_new1 w (.cells #[.slice aS nS cS, .slice aW nW cW, .int .i64 F, .bool D] 27) (.cells #[.slice none 0 0, .slice none 0 0, .int .i64 0, .bool false] 27)
  have XZ : ((w.alloc (.cells #[.slice aS nS cS, .slice aW nW cW, .int .i64 F, .bool D] 27)).alloc (.cells #[.slice none 0 0, .slice none 0 0, .int .i64 0, .bool false] 27)).heap.size = w.heap.size + 2 := by simp
  have hO := fun (W : World) (r : ReadsD W aS aW ss ws) => impl_DiskOk cS cW F D r lS lW
  by_cases hok : okD ⟨ss, ws, F, D⟩ = true
  · rw [hok] at hO
    obtain ⟨l1, l2, l3, l4⟩ := okD_len hok
    rw [lS] at l1 l3
    rw [lW] at l2 l4
    by_cases hn : -1 ≤ at'
    · obtain ⟨rfl, rfl, rfl, rfl, rfl⟩ : ss = RS ∧ ws = RW ∧ at' = RF ∧ D = RD ∧ 0 = RC := by
        unfold fuseD at hR
        rw [if_pos ⟨hok, hn⟩] at hR
        simp only [Prod.mk.injEq, Dk.mk.injEq] at hR
        obtain ⟨⟨h1, h2, h3, h4⟩, h5⟩ := hR
        exact ⟨h1, h2, h3, h4, h5⟩
      have q1 : ¬ at' < -1 := by omega
      have HL3 := hid l3
      have HL4 := hid l4
      have HO := hid hO
      have R0 := hid (h.below B0 (Nat.le_refl _))
      clear hok hR hn l3 l4 hO h
      go_enter Tryd.func18, Tryd.ntmps18
      go_wp2_with fail
      generalize (w.alloc (.cells #[.slice aS nS cS, .slice aW nW cW, .int .i64 F, .bool D] 27)).alloc (.cells #[.slice none 0 0, .slice none 0 0, .int .i64 0, .bool false] 27) = W0 at *
      refine (HO.out _ R0.out).mono ?_
      rintro e w1 ⟨rfl, b1⟩
      have Y0 := (b1.block w.heap.size (by omega)).trans X0
      have Y1 := (b1.block (w.heap.size + 1) (by omega)).trans X1
      have HB1 := hid (B0.trans (b1.mono B0.size))
      have HR1 := hid (R0.out.below b1 (Nat.le_refl _))
      have HZ := hid (show w.heap.size + 2 ≤ w1.heap.size by have := b1.size; omega)
      have HY1 := hid Y1
      obtain ⟨y0, y1, y2, y3⟩ : BoxD w1 w.heap.size aS nS cS aW nW cW F D := ⟨by rw [cell_of_row _ _ _ _ _ _ Y0]; rfl, by rw [cell_of_row _ _ _ _ _ _ Y0]; rfl, by rw [cell_of_row _ _ _ _ _ _ Y0]; rfl, by rw [cell_of_row _ _ _ _ _ _ Y0]; rfl⟩
      clear Y0 Y1 X0 X1 XZ B0 b1 R0 HO
      go_wp2_with fail
      refine (impl_copied (BoxD.mk y0 y1 y2 y3) HR1.out lS lW (by omega) (by omega) (len_any HL3.out lS) (lenW_any HL4.out lW)).mono ?_
      rintro e w2 ⟨a1, c1, a2, c2, rfl, o2, b2⟩
      clear y0 y1 y2 y3
      have hz2 : w.heap.size + 2 ≤ w2.heap.size := by have := HZ.out; have := b2.size; omega
      have V1 := (b2.block (w.heap.size + 1) (by have := HZ.out; omega)).trans HY1.out
      have N0 := heap_alloc_new w2 (.cells #[.slice a1 nS c1, .slice a2 nW c2, .int .i64 F, .bool D] 27)
      have O2 := hid (show OwnD w2 w1.heap.size w2.heap.size (.slice a1 nS c1) (.slice a2 nW c2) ss ws from o2)
      have T2 := hid (heap_alloc_new w2 (.cells #[.slice a1 nS c1, .slice a2 nW c2, .int .i64 at', .bool D] 27))
      have T1 := hid ((alloc_old w2 (.cells #[.slice a1 nS c1, .slice a2 nW c2, .int .i64 at', .bool D] 27) (w.heap.size + 1) (by omega)).trans V1)
      have BC := hid ((HB1.out.trans (b2.mono HB1.out.size)).alloc (by omega) (.cells #[.slice a1 nS c1, .slice a2 nW c2, .int .i64 at', .bool D] 27))
      have HZ2 := hid hz2
      clear o2 b2 V1 N0 hz2 HY1 HB1
      go_wp2_with (first
        | (refine wpList_load_row rfl 27 (.tmp 6) rfl w2.heap.size rfl 27 _ (0, 0) _ T2.out Tryd.underlying27 rfl sizeDk ?_)
        | (refine wpList_store_row rfl 27 (.tmp 4) (.tmp 18) rfl (w.heap.size + 1) #[.slice a1 nS c1, .slice a2 nW c2, .int .i64 at', .bool D] rfl rfl 27 _ T1.out ?s1 ?s2 ?s3 ?_))
      case s1 => exact sizeDk
      case s2 => rfl
      case s3 => simp [Value.oneCell']
      have hz2 := HZ2.out
      refine bodyPost_ret (results_cell_tmp Tryd.results18 _ _ (w.heap.size + 1) 27 #[.slice a1 nS c1, .slice a2 nW c2, .int .i64 at', .bool D] (0, 0) _ rfl (setRow_heap _ _ _ _ _ _ T1.out) Tryd.underlying27 rfl sizeDk) rfl ⟨a1, nS, c1, a2, nW, c2, lS, lW, rfl, (O2.out.agree fun j h1 h2 => ?_).mono (by have := HZ.out; omega) (by simp), below_setRow BC.out (by omega) _⟩
      rw [setRow_other _ _ _ _ (by have := HZ.out; omega), alloc_old _ _ _ (by omega)]
    · obtain ⟨rfl, rfl, rfl, rfl, rfl⟩ : RS = [] ∧ RW = [] ∧ RF = 0 ∧ RD = false ∧ RC = 1 := by
        unfold fuseD at hR
        rw [if_neg (fun hh => hn hh.2)] at hR
        simp only [z0, Prod.mk.injEq, Dk.mk.injEq] at hR
        obtain ⟨⟨h1, h2, h3, h4⟩, h5⟩ := hR
        exact ⟨h1.symm, h2.symm, h3.symm, h4.symm, h5.symm⟩
      have q1 : at' < -1 := by omega
      have HO := hid hO
      have R0 := hid (h.below B0 (Nat.le_refl _))
      clear hok hR hn l3 l4 hO h
      go_enter Tryd.func18, Tryd.ntmps18
      go_wp2_with fail
      generalize (w.alloc (.cells #[.slice aS nS cS, .slice aW nW cW, .int .i64 F, .bool D] 27)).alloc (.cells #[.slice none 0 0, .slice none 0 0, .int .i64 0, .bool false] 27) = W0 at *
      refine (HO.out _ R0.out).mono ?_
      rintro e w1 ⟨rfl, b1⟩
      have Y1 := (b1.block (w.heap.size + 1) (by omega)).trans X1
      have T1 := hid Y1
      have HB1 := hid (B0.trans (b1.mono B0.size))
      clear Y1 X0 X1 XZ B0 b1 R0 HO
      go_wp2_with (refine wpList_store_row rfl 27 (.tmp 4) (.tmp 14) rfl (w.heap.size + 1) #[.slice none 0 0, .slice none 0 0, .int .i64 0, .bool false] rfl rfl 27 _ T1.out ?s1 ?s2 ?s3 ?_)
      case s1 => exact sizeDk
      case s2 => rfl
      case s3 => simp [Value.oneCell']
      exact bodyPost_ret (results_cell_tmp Tryd.results18 _ _ (w.heap.size + 1) 27 #[.slice none 0 0, .slice none 0 0, .int .i64 0, .bool false] (0, 0) _ rfl (setRow_heap _ _ _ _ _ _ T1.out) Tryd.underlying27 rfl sizeDk) rfl ⟨none, 0, 0, none, 0, 0, rfl, rfl, rfl, OwnD.nil _ _ _, below_setRow HB1.out (by omega) _⟩
  · have hok' : okD ⟨ss, ws, F, D⟩ = false := by simpa using hok
    rw [hok'] at hO
    obtain ⟨rfl, rfl, rfl, rfl, rfl⟩ : RS = [] ∧ RW = [] ∧ RF = 0 ∧ RD = false ∧ RC = 1 := by
      unfold fuseD at hR
      rw [if_neg (fun hh => hok hh.1)] at hR
      simp only [z0, Prod.mk.injEq, Dk.mk.injEq] at hR
      obtain ⟨⟨h1, h2, h3, h4⟩, h5⟩ := hR
      exact ⟨h1.symm, h2.symm, h3.symm, h4.symm, h5.symm⟩
    have HO := hid hO
    have R0 := hid (h.below B0 (Nat.le_refl _))
    clear hok hok' hR hO h
    go_enter Tryd.func18, Tryd.ntmps18
    go_wp2_with fail
    generalize (w.alloc (.cells #[.slice aS nS cS, .slice aW nW cW, .int .i64 F, .bool D] 27)).alloc (.cells #[.slice none 0 0, .slice none 0 0, .int .i64 0, .bool false] 27) = W0 at *
    refine (HO.out _ R0.out).mono ?_
    rintro e w1 ⟨rfl, b1⟩
    have Y1 := (b1.block (w.heap.size + 1) (by omega)).trans X1
    have T1 := hid Y1
    have HB1 := hid (B0.trans (b1.mono B0.size))
    clear Y1 X0 X1 XZ B0 b1 R0 HO
    go_wp2_with (refine wpList_store_row rfl 27 (.tmp 4) (.tmp 14) rfl (w.heap.size + 1) #[.slice none 0 0, .slice none 0 0, .int .i64 0, .bool false] rfl rfl 27 _ T1.out ?s1 ?s2 ?s3 ?_)
    case s1 => exact sizeDk
    case s2 => rfl
    case s3 => simp [Value.oneCell']
    exact bodyPost_ret (results_cell_tmp Tryd.results18 _ _ (w.heap.size + 1) 27 #[.slice none 0 0, .slice none 0 0, .int .i64 0, .bool false] (0, 0) _ rfl (setRow_heap _ _ _ _ _ _ T1.out) Tryd.underlying27 rfl sizeDk) rfl ⟨none, 0, 0, none, 0, 0, rfl, rfl, rfl, OwnD.nil _ _ _, below_setRow HB1.out (by omega) _⟩

set_option maxRecDepth 100000 in
set_option maxHeartbeats 3200000 in
theorem impl_Crash {aS aW : Option Addr} {nS nW : Nat} (cS cW : Nat) {ss : List (List Int)} {ws : List (Int × List Int)} {F : Int} {D : Bool} {w : World} (h : ReadsD w aS aW ss ws) (lS : ss.length = nS) (lW : ws.length = nW) {aK : Option Addr} {nK : Nat} (cK : Nat) {ks : List Bool} (hK : ReadsB w aK nK ks)
    {RS : List (List Int)} {RW : List (Int × List Int)} {RF : Int} {RD : Bool} (hR : crashD ⟨ss, ws, F, D⟩ ks = ⟨RS, RW, RF, RD⟩) :
    Calls Tryd.prog 15 #[.agg #[.slice aS nS cS, .slice aW nW cW, .int .i64 F, .bool D], .slice aK nK cK] w fun e w' => ∃ aR n1 cR dR n2 eR, RS.length = n1 ∧ RW.length = n2 ∧ e = .returned (.agg #[.slice aR n1 cR, .slice dR n2 eR, .int .i64 RF, .bool RD]) ∧ OwnD w' w.heap.size w'.heap.size (.slice aR n1 cR) (.slice dR n2 eR) RS RW ∧ Below w.heap.size w w' := by
  have B0 := two w (.cells #[.slice aS nS cS, .slice aW nW cW, .int .i64 F, .bool D] 27) (.cells #[.slice none 0 0, .slice none 0 0, .int .i64 0, .bool false] 27)
  have X1 := heap_new2 w (.cells #[.slice aS nS cS, .slice aW nW cW, .int .i64 F, .bool D] 27) (.cells #[.slice none 0 0, .slice none 0 0, .int .i64 0, .bool false] 27)
  have X0 := heap_new1 w (.cells #[.slice aS nS cS, .slice aW nW cW, .int .i64 F, .bool D] 27) (.cells #[.slice none 0 0, .slice none 0 0, .int .i64 0, .bool false] 27)
  have XZ : ((w.alloc (.cells #[.slice aS nS cS, .slice aW nW cW, .int .i64 F, .bool D] 27)).alloc (.cells #[.slice none 0 0, .slice none 0 0, .int .i64 0, .bool false] 27)).heap.size = w.heap.size + 2 := by simp
  have hO := fun (W : World) (r : ReadsD W aS aW ss ws) => impl_DiskOk cS cW F D r lS lW
  have HK0 := hid hK
  clear hK
  by_cases hok : okD ⟨ss, ws, F, D⟩ = true
  · rw [hok] at hO
    have okk := okD_of hok
    have l1 : nS ≤ 512 := by have := okk.s1; simp only at this; omega
    have l2 : nW ≤ 600 := by have := okk.w1; simp only at this; omega
    have HL3 := hid (show ∀ i, i < nS → (ss.getD i []).length = 64 from fun i hi => okk.s i (by simp only; omega))
    have HL4 := hid (show ∀ i, i < nW → 0 ≤ (ws.getD i w0).1 ∧ (ws.getD i w0).1 < nS ∧ (ws.getD i w0).2.length = 64 from fun i hi => by have := okk.w i (by simp only; omega); simp only [lS] at this; exact this)
    have s := Small.ok hok
    have HDL := hid (show (doneS ss ws ks false).length = nS by rw [(doneS_small ws ss ks false s.s s.bs s.bw).1]; exact lS)
    obtain ⟨rfl, rfl, rfl, rfl⟩ : doneS ss ws ks false = RS ∧ [] = RW ∧ -1 = RF ∧ false = RD := by
      unfold crashD at hR
      rw [if_pos hok] at hR
      simpa only [Dk.mk.injEq] using hR
    have HO := hid hO
    have R0 := hid (h.below B0 (Nat.le_refl _))
    clear hok hR hO h okk s
    go_enter Tryd.func15, Tryd.ntmps15
    go_wp2_with fail
    generalize (w.alloc (.cells #[.slice aS nS cS, .slice aW nW cW, .int .i64 F, .bool D] 27)).alloc (.cells #[.slice none 0 0, .slice none 0 0, .int .i64 0, .bool false] 27) = W0 at *
    refine (HO.out _ R0.out).mono ?_
    rintro e w1 ⟨rfl, b1⟩
    · have Y0 := (b1.block w.heap.size (by omega)).trans X0
      have Y1 := (b1.block (w.heap.size + 1) (by omega)).trans X1
      have HB1 := hid (B0.trans (b1.mono B0.size))
      have HR1 := hid (R0.out.below b1 (Nat.le_refl _))
      have HZ := hid (show w.heap.size + 2 ≤ w1.heap.size by have := b1.size; omega)
      have HY1 := hid Y1
      obtain ⟨y0, y1, y2, y3⟩ : BoxD w1 w.heap.size aS nS cS aW nW cW F D := ⟨by rw [cell_of_row _ _ _ _ _ _ Y0]; rfl, by rw [cell_of_row _ _ _ _ _ _ Y0]; rfl, by rw [cell_of_row _ _ _ _ _ _ Y0]; rfl, by rw [cell_of_row _ _ _ _ _ _ Y0]; rfl⟩
      clear Y0 Y1 X0 X1 XZ B0 b1 R0 HO
      go_wp2_with fail
      refine (impl_copied (BoxD.mk y0 y1 y2 y3) HR1.out lS lW (by omega) (by omega) (len_any HL3.out lS) (lenW_any (fun i hi => (HL4.out i hi).2.2) lW)).mono ?_
      rintro e w2 ⟨a1, c1, a2, c2, rfl, o2, b2⟩
      clear y0 y1 y2 y3
      have hz2 : w.heap.size + 2 ≤ w2.heap.size := by have := HZ.out; have := b2.size; omega
      have V1 := (b2.block (w.heap.size + 1) (by have := HZ.out; omega)).trans HY1.out
      have bA := Below.alloc1 w2 (.cells #[.slice a1 nS c1, .slice a2 nW c2, .int .i64 F, .bool D] 27)
      obtain ⟨xs, ys, hx, hy, hBs, oS, oW⟩ := o2.own
      rw [lS] at oS
      rw [lW] at oW
      have HLv := hid (show Live (w2.alloc (.cells #[.slice a1 nS c1, .slice a2 nW c2, .int .i64 F, .bool D] 27)) w1.heap.size w2.heap.size w2.heap.size a1 nS c1 a2 nW c2 F D xs ys ss ws from ⟨heap_alloc_new _ _, oS.alloc _, oW.alloc _, hBs.agree (Agree.below bA (Nat.le_refl _)), hx, hy, o2.topS⟩)
      have HV1 := hid ((bA.block (w.heap.size + 1) (by omega)).trans V1)
      have HB2 := hid ((HB1.out.trans (b2.mono HB1.out.size)).trans (bA.mono (by omega)))
      have HZ2 := hid (And.intro hz2 (show w1.heap.size ≤ w2.heap.size from b2.size))
      have HA2 := hid (alloc_size w2 (.cells #[.slice a1 nS c1, .slice a2 nW c2, .int .i64 F, .bool D] 27))
      clear o2 b2 V1 hz2 HY1 HB1 bA hBs oS oW hx hy
      go_wp2_with fail
      generalize w2.alloc (.cells #[.slice a1 nS c1, .slice a2 nW c2, .int .i64 F, .bool D] 27) = W2 at *
      refine (impl_crash (B := w.heap.size + 2) cK HLv.out (by have := HA2.out; omega) (fun X bb => HK0.out.below (HB2.out.trans (bb.mono (by omega))) (Nat.le_refl _)) (by have := HZ.out; omega) HZ2.out.1 (Nat.le_refl _) (by have := HA2.out; have := HZ2.out.1; omega) lS lW HL3.out HL4.out l2).mono ?_
      rintro e w3 ⟨⟨v, rfl⟩, hbx, o3, b3⟩
      have T2 := hid hbx
      have T1 := hid ((b3.block (w.heap.size + 1) (by omega)).trans HV1.out)
      have O2 := hid o3
      have BC := hid (HB2.out.trans (b3.mono (by omega)))
      clear hbx o3 b3 HLv HV1 HB2
      go_wp2_with (first
        | (refine wpList_load_row rfl 27 (.tmp 5) rfl w2.heap.size rfl 27 _ (0, 0) _ T2.out Tryd.underlying27 rfl sizeDk ?_)
        | (refine wpList_store_row rfl 27 (.tmp 4) (.tmp 13) rfl (w.heap.size + 1) #[.slice a1 nS c1, .slice none 0 0, .int .i64 (-1), .bool false] rfl rfl 27 _ T1.out ?s1 ?s2 ?s3 ?_))
      case s1 => exact sizeDk
      case s2 => rfl
      case s3 => simp [Value.oneCell']
      have hz2 := HZ2.out
      refine bodyPost_ret (results_cell_row Tryd.results15 _ _ (w.heap.size + 1) 27 #[.slice a1 nS c1, .slice none 0 0, .int .i64 (-1), .bool false] (0, 0) _ rfl (setRow_heap _ _ _ _ _ _ T1.out) Tryd.underlying27 rfl sizeDk) rfl ⟨a1, nS, c1, none, 0, 0, HDL.out, rfl, rfl, (O2.out.agree fun j h1 h2 => ?_).mono (by have := HZ.out; omega) (by simp), below_setRow BC.out (by omega) _⟩
      rw [setRow_other _ _ _ _ (by have := HZ.out; omega)]
  · have hok' : okD ⟨ss, ws, F, D⟩ = false := by simpa using hok
    rw [hok'] at hO
    obtain ⟨rfl, rfl, rfl, rfl⟩ : RS = [] ∧ RW = [] ∧ RF = 0 ∧ RD = false := by
      unfold crashD at hR
      rw [if_neg hok] at hR
      simp only [z0, Dk.mk.injEq] at hR
      obtain ⟨h1, h2, h3, h4⟩ := hR
      exact ⟨h1.symm, h2.symm, h3.symm, h4.symm⟩
    have HO := hid hO
    have R0 := hid (h.below B0 (Nat.le_refl _))
    clear hok hok' hR hO h
    go_enter Tryd.func15, Tryd.ntmps15
    go_wp2_with fail
    generalize (w.alloc (.cells #[.slice aS nS cS, .slice aW nW cW, .int .i64 F, .bool D] 27)).alloc (.cells #[.slice none 0 0, .slice none 0 0, .int .i64 0, .bool false] 27) = W0 at *
    refine (HO.out _ R0.out).mono ?_
    rintro e w1 ⟨rfl, b1⟩
    have Y1 := (b1.block (w.heap.size + 1) (by omega)).trans X1
    have T1 := hid Y1
    have HB1 := hid (B0.trans (b1.mono B0.size))
    clear Y1 X0 X1 XZ B0 b1 R0 HO
    go_wp2_with (refine wpList_store_row rfl 27 (.tmp 4) (.tmp 9) rfl (w.heap.size + 1) #[.slice none 0 0, .slice none 0 0, .int .i64 0, .bool false] rfl rfl 27 _ T1.out ?s1 ?s2 ?s3 ?_)
    case s1 => exact sizeDk
    case s2 => rfl
    case s3 => simp [Value.oneCell']
    exact bodyPost_ret (results_cell_row Tryd.results15 _ _ (w.heap.size + 1) 27 #[.slice none 0 0, .slice none 0 0, .int .i64 0, .bool false] (0, 0) _ rfl (setRow_heap _ _ _ _ _ _ T1.out) Tryd.underlying27 rfl sizeDk) rfl ⟨none, 0, 0, none, 0, 0, rfl, rfl, rfl, OwnD.nil _ _ _, below_setRow HB1.out (by omega) _⟩
end Go.Proofs.YtnnnehjlegjejaaDoor
