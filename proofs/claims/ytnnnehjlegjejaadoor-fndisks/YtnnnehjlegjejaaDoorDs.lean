/- The contracts of the specification's DiskSync and of the program's. Conditions: the fuse is an int; the two variables hold two different sentinels. -/
import Derived.Test.YtnnnehjlegjejaaDoorYs
import Derived.Test.YtnnnehjlegjejaaDoorCl
import Derived.Test.YtnnnehjlegjejaaDoorLdd
import Derived.Test.YtnnnehjlegjejaaDoorSm
namespace Go.Proofs.YtnnnehjlegjejaaDoor
open Go.RowKit

theorem doneS_small : ∀ (ws : List (Int × List Int)) (ss : List (List Int)) (ks : List Bool) (all : Bool), ss.length ≤ 512 → (∀ i, (ss.getD i []).length ≤ 64) → (∀ i, (ws.getD i w0).2.length ≤ 64) → (doneS ss ws ks all).length = ss.length ∧ ∀ i, ((doneS ss ws ks all).getD i []).length ≤ 64
  | [], ss, ks, all, _, h, _ => ⟨rfl, h⟩
  | p :: ws, ss, ks, all, hl, h, hw => by
    rw [doneS]
    split
    · have ih := doneS_small ws (ss.set p.1.toNat p.2) ks.tail all (by rw [List.length_set]; exact hl) (fun i => by
        by_cases hi : p.1.toNat < ss.length
        · rw [getD_set' ss _ i p.2 [] hi]
          split
          · have := hw 0; simpa using this
          · exact h i
        · rw [List.set_eq_of_length_le (by omega)]; exact h i) (fun i => by have := hw (i + 1); simpa using this)
      rw [List.length_set] at ih
      exact ih
    · exact doneS_small ws ss ks.tail all hl h (fun i => by have := hw (i + 1); simpa using this)
theorem syncD_I {d : Dk} (h : okD d = true) : syncD d = syncI d := by
  unfold syncD syncI
  rw [if_pos h, (callD_parts d).1, (callD_parts d).2]
  by_cases hc : (callD d).2 = true
  · rw [if_pos hc, if_pos hc]
  · rw [if_neg hc, if_neg hc]
    rw [Prod.mk.injEq]
    refine ⟨?_, rfl⟩
    obtain ⟨e1, e2⟩ := callD_parts d
    rw [← e1, ← e2]
theorem sync_small {d : Dk} {RS : List (List Int)} {RW : List (Int × List Int)} {RF : Int} {RD : Bool} {RC : Int} (h : syncD d = (⟨RS, RW, RF, RD⟩, RC)) : Small RS RW := by
  by_cases hc : okD d = true
  · rw [syncD_I hc] at h
    have s := Small.ok (F := d.F) (D := d.D) hc
    unfold syncI at h
    split at h
    · simp only [Prod.mk.injEq, Dk.mk.injEq] at h
      obtain ⟨⟨rfl, rfl, _, _⟩, _⟩ := h
      have := doneS_small d.W d.S [] true s.s s.bs s.bw
      exact ⟨by rw [this.1]; exact s.s, by simp, this.2, fun i => by simp [w0]⟩
    · simp only [Prod.mk.injEq, Dk.mk.injEq] at h
      obtain ⟨⟨rfl, rfl, _, _⟩, _⟩ := h
      exact s
  · unfold syncD at h
    rw [if_neg hc] at h
    simp only [z0, Prod.mk.injEq, Dk.mk.injEq] at h
    obtain ⟨⟨rfl, rfl, _, _⟩, _⟩ := h
    exact Small.nil

set_option maxRecDepth 100000 in
set_option maxHeartbeats 3200000 in
theorem spec_Sync {aS aW : Option Addr} {nS nW : Nat} (cS cW : Nat) {ss : List (List Int)} {ws : List (Int × List Int)} {F : Int} {D : Bool} {w : World} (h : ReadsD w aS aW ss ws) (lS : ss.length = nS) (lW : ws.length = nW) (hF : F ≤ 9223372036854775807)
    {RS : List (List Int)} {RW : List (Int × List Int)} {RF : Int} {RD : Bool} {RC : Int} (hR : syncD ⟨ss, ws, F, D⟩ = (⟨RS, RW, RF, RD⟩, RC)) :
    Calls Tryd.prog 28 #[.agg #[.slice aS nS cS, .slice aW nW cW, .int .i64 F, .bool D]] w fun e w' => ∃ aR n1 cR dR n2 eR, RS.length = n1 ∧ RW.length = n2 ∧ e = .returned (.tuple #[.agg #[.slice aR n1 cR, .slice dR n2 eR, .int .i64 RF, .bool RD], .int .i64 RC]) ∧ OwnD w' w.heap.size w'.heap.size (.slice aR n1 cR) (.slice dR n2 eR) RS RW ∧ Below w.heap.size w w' := by
  have B0 := two w (.cells #[.slice aS nS cS, .slice aW nW cW, .int .i64 F, .bool D] 27) (.cells #[.slice none 0 0, .slice none 0 0, .int .i64 0, .bool false] 27)
  have X1 := heap_new2 w (.cells #[.slice aS nS cS, .slice aW nW cW, .int .i64 F, .bool D] 27) (.cells #[.slice none 0 0, .slice none 0 0, .int .i64 0, .bool false] 27)
  have X0 := heap_new1 w (.cells #[.slice aS nS cS, .slice aW nW cW, .int .i64 F, .bool D] 27) (.cells #[.slice none 0 0, .slice none 0 0, .int .i64 0, .bool false] 27)
  have XZ : ((w.alloc (.cells #[.slice aS nS cS, .slice aW nW cW, .int .i64 F, .bool D] 27)).alloc (.cells #[.slice none 0 0, .slice none 0 0, .int .i64 0, .bool false] 27)).heap.size = w.heap.size + 2 := by simp
  have hO := fun (W : World) (r : ReadsD W aS aW ss ws) => spec_DiskOk cS cW F D r lS lW
  by_cases hok : okD ⟨ss, ws, F, D⟩ = true
  · rw [hok] at hO
    have okk := okD_of hok
    have l1 : nS ≤ 512 := by have := okk.s1; simp only at this; omega
    have l2 : nW ≤ 600 := by have := okk.w1; simp only at this; omega
    have HL3 := hid (show ∀ i, i < nS → (ss.getD i []).length = 64 from fun i hi => okk.s i (by simp only; omega))
    have HL4 := hid (show ∀ i, i < nW → 0 ≤ (ws.getD i w0).1 ∧ (ws.getD i w0).1 < nS ∧ (ws.getD i w0).2.length = 64 from fun i hi => by have := okk.w i (by simp only; omega); simp only [lS] at this; exact this)
    have s := Small.ok hok
    have HDL := hid (show (doneS ss ws [] true).length = nS by rw [(doneS_small ws ss [] true s.s s.bs s.bw).1]; exact lS)
    rw [syncD_I hok] at hR
    have HRR := hid hR
    have HRS := hid (show RS.length = nS by unfold syncI at hR; split at hR <;> (simp only [Prod.mk.injEq, Dk.mk.injEq] at hR; rw [← hR.1.1]); exact HDL.out; exact lS)
    have HO := hid hO
    have R0 := hid (h.below B0 (Nat.le_refl _))
    clear hok hR hO h okk s
    go_enter Tryd.func28, Tryd.ntmps28
    go_wp2_with fail
    generalize (w.alloc (.cells #[.slice aS nS cS, .slice aW nW cW, .int .i64 F, .bool D] 27)).alloc (.cells #[.slice none 0 0, .slice none 0 0, .int .i64 0, .bool false] 27) = W0 at *
    refine (HO.out _ R0.out).mono ?_
    rintro e w1 ⟨rfl, b1⟩
    have Y0 := (b1.block w.heap.size (by omega)).trans X0
    have Y1 := (b1.block (w.heap.size + 1) (by omega)).trans X1
    have HB1 := hid (B0.trans (b1.mono B0.size))
    have HR1 := hid (R0.out.below b1 (Nat.le_refl _))
    have HZ := hid (show w.heap.size + 2 ≤ w1.heap.size by have := b1.size; omega)
    have HY1 := hid Y1
    obtain ⟨y0, y1, y2, y3⟩ : BoxD w1 w.heap.size aS nS cS aW nW cW F D := ⟨by rw [cell_of_row _ _ _ _ _ _ Y0]; rfl, by rw [cell_of_row _ _ _ _ _ _ Y0]; rfl, by rw [cell_of_row _ _ _ _ _ _ Y0]; rfl, by rw [cell_of_row _ _ _ _ _ _ Y0]; rfl⟩
    clear Y0 Y1 X0 X1 XZ B0 b1 R0 HO
    go_wp2_with fail
    refine (spec_l4call cS cW F D HR1.out lS lW l1 l2 HL3.out (fun i hi => (HL4.out i hi).2.2) hF).mono ?_
    rintro e w2 ⟨a1, c1, a2, c2, rfl, o2, b2⟩
    clear y0 y1 y2 y3
    have hRR := HRR.out
    unfold syncI at hRR
    clear HRR
    generalize (callD ⟨ss, ws, F, D⟩).1.F = F' at *
    generalize (callD ⟨ss, ws, F, D⟩).1.D = D' at *
    have hz2 : w.heap.size + 2 ≤ w2.heap.size := by have := HZ.out; have := b2.size; omega
    have V1 := (b2.block (w.heap.size + 1) (by have := HZ.out; omega)).trans HY1.out
    have bA := Below.alloc1 w2 (.cells #[.slice a1 nS c1, .slice a2 nW c2, .int .i64 F', .bool D'] 27)
    have O2 := hid (show OwnD w2 w1.heap.size w2.heap.size (.slice a1 nS c1) (.slice a2 nW c2) ss ws from o2)
    have T2 := hid (heap_alloc_new w2 (.cells #[.slice a1 nS c1, .slice a2 nW c2, .int .i64 F', .bool D'] 27))
    have T1 := hid ((alloc_old w2 (.cells #[.slice a1 nS c1, .slice a2 nW c2, .int .i64 F', .bool D'] 27) (w.heap.size + 1) (by omega)).trans V1)
    have BC := hid ((HB1.out.trans (b2.mono HB1.out.size)).alloc (by omega) (.cells #[.slice a1 nS c1, .slice a2 nW c2, .int .i64 F', .bool D'] 27))
    have HZ2 := hid hz2
    have RC2 := hid (o2.rd.below bA (Nat.le_refl _))
    have HA2 := hid (alloc_size w2 (.cells #[.slice a1 nS c1, .slice a2 nW c2, .int .i64 F', .bool D'] 27))
    clear o2 b2 V1 hz2 HY1 HB1 bA
    cases hq : (callD ⟨ss, ws, F, D⟩).2 with
    | false =>
      rw [hq, if_neg (by simp)] at hRR
      simp only [Prod.mk.injEq, Dk.mk.injEq] at hRR
      obtain ⟨⟨rfl, rfl, rfl, rfl⟩, rfl⟩ := hRR
      clear hq RC2
      go_wp2_with (first
        | (refine wpList_load_row rfl 27 (.tmp 4) rfl w2.heap.size rfl 27 _ (0, 0) _ T2.out Tryd.underlying27 rfl sizeDk ?_)
        | (refine wpList_store_row rfl 27 (.tmp 2) (.tmp 17) rfl (w.heap.size + 1) #[.slice a1 nS c1, .slice a2 nW c2, .int .i64 F', .bool D'] rfl rfl 27 _ T1.out ?s1 ?s2 ?s3 ?_))
      case s1 => exact sizeDk
      case s2 => rfl
      case s3 => simp [Value.oneCell']
      have hz2 := HZ2.out
      refine bodyPost_ret (results_cell_tmp Tryd.results28 _ _ (w.heap.size + 1) 27 #[.slice a1 nS c1, .slice a2 nW c2, .int .i64 F', .bool D'] (0, 0) _ rfl (setRow_heap _ _ _ _ _ _ T1.out) Tryd.underlying27 rfl sizeDk) rfl ⟨a1, nS, c1, a2, nW, c2, lS, lW, rfl, (O2.out.agree fun j h1 h2 => ?_).mono (by have := HZ.out; omega) (by simp), below_setRow BC.out (by omega) _⟩
      rw [setRow_other _ _ _ _ (by have := HZ.out; omega), alloc_old _ _ _ (by omega)]
    | true =>
      rw [hq, if_pos rfl] at hRR
      simp only [Prod.mk.injEq, Dk.mk.injEq] at hRR
      obtain ⟨⟨rfl, rfl, rfl, rfl⟩, rfl⟩ := hRR
      clear hq
      go_wp2_with (refine wpList_load_row rfl 27 (.tmp 4) rfl w2.heap.size rfl 27 _ (0, 0) _ T2.out Tryd.underlying27 rfl sizeDk ?_)
      generalize w2.alloc (.cells #[.slice a1 nS c1, .slice a2 nW c2, .int .i64 F', .bool D'] 27) = W2 at *
      refine (spec_l4done (aK := none) (nK := 0) (ks := []) c1 c2 F' D' 0 true RC2.out ⟨rfl, .inl rfl⟩ lS lW l1 l2 HL3.out HL4.out).mono ?_
      rintro e w3 ⟨a3, c3, rfl, o3, b3⟩
      have T1' := hid ((b3.block (w.heap.size + 1) (by have := HZ2.out; have := HA2.out; omega)).trans T1.out)
      have O3 := hid (show OwnD w3 W2.heap.size w3.heap.size (.slice a3 nS c3) (.slice none 0 0) (doneS ss ws [] true) [] from o3)
      have BC3 := hid (BC.out.trans (b3.mono BC.out.size))
      clear o3 b3 T1 T2 BC RC2
      go_wp2_with (refine wpList_store_row rfl 27 (.tmp 2) (.tmp 19) rfl (w.heap.size + 1) #[.slice a3 nS c3, .slice none 0 0, .int .i64 F', .bool D'] rfl rfl 27 _ T1'.out ?s1 ?s2 ?s3 ?_)
      case s1 => exact sizeDk
      case s2 => rfl
      case s3 => simp [Value.oneCell']
      have hz2 := HZ2.out
      refine bodyPost_ret (results_cell_tmp Tryd.results28 _ _ (w.heap.size + 1) 27 #[.slice a3 nS c3, .slice none 0 0, .int .i64 F', .bool D'] (0, 0) _ rfl (setRow_heap _ _ _ _ _ _ T1'.out) Tryd.underlying27 rfl sizeDk) rfl ⟨a3, nS, c3, none, 0, 0, HDL.out, rfl, rfl, (O3.out.agree fun j h1 h2 => ?_).mono (by have := HA2.out; omega) (by simp), below_setRow BC3.out (by omega) _⟩
      rw [setRow_other _ _ _ _ (by have := HA2.out; omega)]
  · have hok' : okD ⟨ss, ws, F, D⟩ = false := by simpa using hok
    rw [hok'] at hO
    obtain ⟨rfl, rfl, rfl, rfl, rfl⟩ : RS = [] ∧ RW = [] ∧ RF = 0 ∧ RD = false ∧ RC = 1 := by
      unfold syncD at hR
      rw [if_neg hok] at hR
      simp only [z0, Prod.mk.injEq, Dk.mk.injEq] at hR
      obtain ⟨⟨h1, h2, h3, h4⟩, h5⟩ := hR
      exact ⟨h1.symm, h2.symm, h3.symm, h4.symm, h5.symm⟩
    have HO := hid hO
    have R0 := hid (h.below B0 (Nat.le_refl _))
    clear hok hok' hR hO h
    go_enter Tryd.func28, Tryd.ntmps28
    go_wp2_with fail
    generalize (w.alloc (.cells #[.slice aS nS cS, .slice aW nW cW, .int .i64 F, .bool D] 27)).alloc (.cells #[.slice none 0 0, .slice none 0 0, .int .i64 0, .bool false] 27) = W0 at *
    refine (HO.out _ R0.out).mono ?_
    rintro e w1 ⟨rfl, b1⟩
    have Y1 := (b1.block (w.heap.size + 1) (by omega)).trans X1
    have T1 := hid Y1
    have HB1 := hid (B0.trans (b1.mono B0.size))
    clear Y1 X0 X1 XZ B0 b1 R0 HO
    go_wp2_with (refine wpList_store_row rfl 27 (.tmp 2) (.tmp 9) rfl (w.heap.size + 1) #[.slice none 0 0, .slice none 0 0, .int .i64 0, .bool false] rfl rfl 27 _ T1.out ?s1 ?s2 ?s3 ?_)
    case s1 => exact sizeDk
    case s2 => rfl
    case s3 => simp [Value.oneCell']
    exact bodyPost_ret (results_cell_tmp Tryd.results28 _ _ (w.heap.size + 1) 27 #[.slice none 0 0, .slice none 0 0, .int .i64 0, .bool false] (0, 0) _ rfl (setRow_heap _ _ _ _ _ _ T1.out) Tryd.underlying27 rfl sizeDk) rfl ⟨none, 0, 0, none, 0, 0, rfl, rfl, rfl, OwnD.nil _ _ _, below_setRow HB1.out (by omega) _⟩

set_option maxRecDepth 100000 in
set_option maxHeartbeats 3200000 in
theorem impl_Sync {aS aW : Option Addr} {nS nW : Nat} (cS cW : Nat) {ss : List (List Int)} {ws : List (Int × List Int)} {F : Int} {D : Bool} {w : World} (h : ReadsD w aS aW ss ws) (lS : ss.length = nS) (lW : ws.length = nW) (hF : F ≤ 9223372036854775807) {s0 s1 : Addr} {e0 e1 : Array Value} {u0 u1 : TypeId} (hs : Sents w w.heap.size s0 s1 e0 e1 u0 u1)
    {RS : List (List Int)} {RW : List (Int × List Int)} {RF : Int} {RD : Bool} {RC : Int} (hR : syncD ⟨ss, ws, F, D⟩ = (⟨RS, RW, RF, RD⟩, RC)) :
    Calls Tryd.prog 16 #[.agg #[.slice aS nS cS, .slice aW nW cW, .int .i64 F, .bool D]] w fun e w' => ∃ aR n1 cR dR n2 eR, RS.length = n1 ∧ RW.length = n2 ∧ e = .returned (.tuple #[.agg #[.slice aR n1 cR, .slice dR n2 eR, .int .i64 RF, .bool RD], .int .i64 RC]) ∧ OwnD w' w.heap.size w'.heap.size (.slice aR n1 cR) (.slice dR n2 eR) RS RW ∧ Below w.heap.size w w' := by
  have B0 := two w (.cells #[.slice aS nS cS, .slice aW nW cW, .int .i64 F, .bool D] 27) (.cells #[.slice none 0 0, .slice none 0 0, .int .i64 0, .bool false] 27)
  have X1 := heap_new2 w (.cells #[.slice aS nS cS, .slice aW nW cW, .int .i64 F, .bool D] 27) (.cells #[.slice none 0 0, .slice none 0 0, .int .i64 0, .bool false] 27)
  have X0 := heap_new1 w (.cells #[.slice aS nS cS, .slice aW nW cW, .int .i64 F, .bool D] 27) (.cells #[.slice none 0 0, .slice none 0 0, .int .i64 0, .bool false] 27)
  have XZ : ((w.alloc (.cells #[.slice aS nS cS, .slice aW nW cW, .int .i64 F, .bool D] 27)).alloc (.cells #[.slice none 0 0, .slice none 0 0, .int .i64 0, .bool false] 27)).heap.size = w.heap.size + 2 := by simp
  have HS := hid hs
  clear hs
  have hO := fun (W : World) (r : ReadsD W aS aW ss ws) => impl_DiskOk cS cW F D r lS lW
  by_cases hok : okD ⟨ss, ws, F, D⟩ = true
  · rw [hok] at hO
    have okk := okD_of hok
    have l1 : nS ≤ 512 := by have := okk.s1; simp only at this; omega
    have l2 : nW ≤ 600 := by have := okk.w1; simp only at this; omega
    have HL3 := hid (show ∀ i, i < nS → (ss.getD i []).length = 64 from fun i hi => okk.s i (by simp only; omega))
    have HL4 := hid (show ∀ i, i < nW → 0 ≤ (ws.getD i w0).1 ∧ (ws.getD i w0).1 < nS ∧ (ws.getD i w0).2.length = 64 from fun i hi => by have := okk.w i (by simp only; omega); simp only [lS] at this; exact this)
    have s := Small.ok hok
    have HDL := hid (show (doneS ss ws [] true).length = nS by rw [(doneS_small ws ss [] true s.s s.bs s.bw).1]; exact lS)
    rw [syncD_I hok] at hR
    have HRR := hid hR
    have HRS := hid (show RS.length = nS by unfold syncI at hR; split at hR <;> (simp only [Prod.mk.injEq, Dk.mk.injEq] at hR; rw [← hR.1.1]); exact HDL.out; exact lS)
    have HO := hid hO
    have R0 := hid (h.below B0 (Nat.le_refl _))
    clear hok hR hO h okk s
    go_enter Tryd.func16, Tryd.ntmps16
    go_wp2_with fail
    generalize (w.alloc (.cells #[.slice aS nS cS, .slice aW nW cW, .int .i64 F, .bool D] 27)).alloc (.cells #[.slice none 0 0, .slice none 0 0, .int .i64 0, .bool false] 27) = W0 at *
    refine (HO.out _ R0.out).mono ?_
    rintro e w1 ⟨rfl, b1⟩
    have Y0 := (b1.block w.heap.size (by omega)).trans X0
    have Y1 := (b1.block (w.heap.size + 1) (by omega)).trans X1
    have HB1 := hid (B0.trans (b1.mono B0.size))
    have HR1 := hid (R0.out.below b1 (Nat.le_refl _))
    have HZ := hid (show w.heap.size + 2 ≤ w1.heap.size by have := b1.size; omega)
    have HY1 := hid Y1
    obtain ⟨y0, y1, y2, y3⟩ : BoxD w1 w.heap.size aS nS cS aW nW cW F D := ⟨by rw [cell_of_row _ _ _ _ _ _ Y0]; rfl, by rw [cell_of_row _ _ _ _ _ _ Y0]; rfl, by rw [cell_of_row _ _ _ _ _ _ Y0]; rfl, by rw [cell_of_row _ _ _ _ _ _ Y0]; rfl⟩
    clear Y0 Y1 X0 X1 XZ B0 b1 R0 HO
    go_wp2_with fail
    refine (impl_copied (BoxD.mk y0 y1 y2 y3) HR1.out lS lW (by omega) (by omega) (len_any HL3.out lS) (lenW_any (fun i hi => (HL4.out i hi).2.2) lW)).mono ?_
    rintro e w2 ⟨a1, c1, a2, c2, rfl, o2, b2⟩
    clear y0 y1 y2 y3
    have hz2 : w.heap.size + 2 ≤ w2.heap.size := by have := HZ.out; have := b2.size; omega
    have V1 := (b2.block (w.heap.size + 1) (by have := HZ.out; omega)).trans HY1.out
    have bA := Below.alloc1 w2 (.cells #[.slice a1 nS c1, .slice a2 nW c2, .int .i64 F, .bool D] 27)
    obtain ⟨xs, ys, hx, hy, hBs, oS, oW⟩ := o2.own
    rw [lS] at oS
    rw [lW] at oW
    have HLv := hid (show Live (w2.alloc (.cells #[.slice a1 nS c1, .slice a2 nW c2, .int .i64 F, .bool D] 27)) w1.heap.size w2.heap.size w2.heap.size a1 nS c1 a2 nW c2 F D xs ys ss ws from ⟨heap_alloc_new _ _, oS.alloc _, oW.alloc _, hBs.agree (Agree.below bA (Nat.le_refl _)), hx, hy, o2.topS⟩)
    have HV1 := hid ((bA.block (w.heap.size + 1) (by omega)).trans V1)
    have HB2 := hid ((HB1.out.trans (b2.mono HB1.out.size)).trans (bA.mono (by omega)))
    have HZ2 := hid (And.intro hz2 (show w1.heap.size ≤ w2.heap.size from b2.size))
    have HA2 := hid (alloc_size w2 (.cells #[.slice a1 nS c1, .slice a2 nW c2, .int .i64 F, .bool D] 27))
    have HS2 := hid ((HS.out.below HB2.out).up (show w.heap.size ≤ w.heap.size + 2 by omega))
    clear o2 b2 V1 hz2 HY1 HB1 bA hBs oS oW hx hy
    go_wp2_with fail
    generalize w2.alloc (.cells #[.slice a1 nS c1, .slice a2 nW c2, .int .i64 F, .bool D] 27) = W2 at *
    refine (impl_sync (B := w.heap.size + 2) HLv.out (by have := HA2.out; omega) HS2.out hF (by have := HZ.out; omega) HZ2.out.1 (Nat.le_refl _) (by have := HA2.out; have := HZ2.out.1; omega) lS lW HL3.out HL4.out l2).mono ?_
    rintro e w3 ⟨⟨v, a2', n2, c2', rfl, hc, hl, hbx, o3⟩, b3⟩
    rw [HRR.out] at hc hl hbx o3
    simp only at hc hl hbx o3
    have T2 := hid hbx
    have T1 := hid ((b3.block (w.heap.size + 1) (by omega)).trans HV1.out)
    have O2 := hid o3
    have BC := hid (HB2.out.trans (b3.mono (by omega)))
    have HS3 := hid (HS2.out.below b3)
    have HC := hid hc
    have HLn := hid hl
    clear hbx o3 b3 HLv HV1 HB2 HS2 hc hl
    go_wp2_with fail
    have T2d : w3.drew.heap[w2.heap.size]? = some (.cells #[.slice a1 nS c1, .slice a2' n2 c2', .int .i64 RF, .bool RD] 27) := T2.out
    have T1d := hid (show w3.drew.heap[w.heap.size + 1]? = some (.cells #[.slice none 0 0, .slice none 0 0, .int .i64 0, .bool false] 27) from T1.out)
    have HS4 := hid (HS3.out.below (Below.refl _ w3).drew)
    have H4 := hid (show w3.drew.cell? ⟨w2.heap.size, 0, none⟩ = some (.slice a1 nS c1) ∧ w3.drew.cell? ⟨w2.heap.size, 1, none⟩ = some (.slice a2' n2 c2') ∧ w3.drew.cell? ⟨w2.heap.size, 2, none⟩ = some (.int .i64 RF) ∧ w3.drew.cell? ⟨w2.heap.size, 3, none⟩ = some (.bool RD) from ⟨by rw [cell_of_row _ _ _ _ _ _ T2d]; rfl, by rw [cell_of_row _ _ _ _ _ _ T2d]; rfl, by rw [cell_of_row _ _ _ _ _ _ T2d]; rfl, by rw [cell_of_row _ _ _ _ _ _ T2d]; rfl⟩)
    have T2h := hid T2d
    clear T2d
    refine region_K 4 (fun X => X.cell? ⟨w2.heap.size, 0, none⟩ = some (.slice a1 nS c1) ∧ X.cell? ⟨w2.heap.size, 1, none⟩ = some (.slice a2' n2 c2') ∧ X.cell? ⟨w2.heap.size, 2, none⟩ = some (.int .i64 RF) ∧ X.cell? ⟨w2.heap.size, 3, none⟩ = some (.bool RD)) (by kernel_rfl) ?_ (fun hHeld => ?_)
    · exact H4.out
    refine anyK_take (i := 0) (v := ?v1201) rfl (by kernel_rfl) (by kernel_rfl) (by kernel_rfl) (by kernel_rfl) (fun _ _ _ h => h) (by rfl) hHeld ?hy1201 (some 12) (by rfl) ?rest1201
    case hy1201 => (intro W hSw; (try dsimp only at hSw); go_simp; (try with_reducible rfl))
    try simp only [Act.put]
    try simp only [List.setIfInBounds_toArray]
    try simp only [List.set_cons_succ, List.set_cons_zero]
    refine anyK_take (i := 1) (v := ?v1202) rfl (by kernel_rfl) (by kernel_rfl) (by kernel_rfl) (by kernel_rfl) (fun _ _ _ h => h) (by rfl) hHeld ?hy1202 (some 13) (by rfl) ?rest1202
    case hy1202 => (intro W hSw; (try dsimp only at hSw); go_simp; (try with_reducible rfl))
    try simp only [Act.put]
    try simp only [List.setIfInBounds_toArray]
    try simp only [List.set_cons_succ, List.set_cons_zero]
    refine anyK_step (i := 2) (by kernel_rfl) rfl (fun K hK => ?_)
    go_simp
    refine (disk_code HS4.out HC.out).mono ?_
    rintro e w' ⟨rfl, rfl⟩
    go_wp2_with fail
    refine hK.out _ _ ?_ (fun hH2 => ?_)
    · exact H4.out
    clear hK K hHeld
    have hHeld := hH2
    clear hH2
    try simp only [Act.put]
    try simp only [List.setIfInBounds_toArray]
    try simp only [List.set_cons_succ, List.set_cons_zero]
    refine anyK_step (i := 3) (by kernel_rfl) rfl (fun K hK => ?_)
    rw [if_pos (by rfl)]
    refine wp_store_row 27 (.tmp 2) (.tmp 12) rfl (w.heap.size + 1) #[.slice a1 nS c1, .slice a2' n2 c2', .int .i64 RF, .bool RD] rfl rfl 27 _ T1d.out sizeDk rfl (by simp [Value.oneCell']) ?_
    have TS : (w3.drew.setRow (w.heap.size + 1) #[.slice a1 nS c1, .slice a2' n2 c2', .int .i64 RF, .bool RD]).heap[w2.heap.size]? = some (.cells #[.slice a1 nS c1, .slice a2' n2 c2', .int .i64 RF, .bool RD] 27) := by
      rw [setRow_other _ _ _ _ (by have := HZ2.out.1; omega)]
      exact T2h.out
    refine hK.out _ _ ?_ (fun hH2 => ?_)
    · exact ⟨by rw [cell_of_row _ _ _ _ _ _ TS]; rfl, by rw [cell_of_row _ _ _ _ _ _ TS]; rfl, by rw [cell_of_row _ _ _ _ _ _ TS]; rfl, by rw [cell_of_row _ _ _ _ _ _ TS]; rfl⟩
    clear hK K hHeld
    have hHeld := hH2
    clear hH2
    try simp only [Act.put]
    try simp only [List.setIfInBounds_toArray]
    try simp only [List.set_cons_succ, List.set_cons_zero]
    refine anyK_last (by kernel_rfl) rfl (fun K hK => ?_)
    go_simp
    refine hK.out _ _ ?_
    clear hK K hHeld
    refine anyK_done (by kernel_rfl) ?_ _
    go_wp2_with fail
    have hz2 := HZ2.out
    refine bodyPost_ret (results_cell_tmp Tryd.results16 _ _ (w.heap.size + 1) 27 #[.slice a1 nS c1, .slice a2' n2 c2', .int .i64 RF, .bool RD] (0, 0) _ rfl (setRow_heap _ _ _ _ _ _ T1d.out) Tryd.underlying27 rfl sizeDk) rfl ⟨a1, nS, c1, a2', n2, c2', HRS.out, HLn.out, rfl, (O2.out.agree fun j h1 h2 => ?_).mono (by have := HZ.out; omega) (by simp), below_setRow BC.out.drew (by omega) _⟩
    rw [setRow_other _ _ _ _ (by have := HZ.out; omega)]
    rfl

  · have hok' : okD ⟨ss, ws, F, D⟩ = false := by simpa using hok
    rw [hok'] at hO
    obtain ⟨rfl, rfl, rfl, rfl, rfl⟩ : RS = [] ∧ RW = [] ∧ RF = 0 ∧ RD = false ∧ RC = 1 := by
      unfold syncD at hR
      rw [if_neg hok] at hR
      simp only [z0, Prod.mk.injEq, Dk.mk.injEq] at hR
      obtain ⟨⟨h1, h2, h3, h4⟩, h5⟩ := hR
      exact ⟨h1.symm, h2.symm, h3.symm, h4.symm, h5.symm⟩
    have HO := hid hO
    have R0 := hid (h.below B0 (Nat.le_refl _))
    clear hok hok' hR hO h
    go_enter Tryd.func16, Tryd.ntmps16
    go_wp2_with fail
    generalize (w.alloc (.cells #[.slice aS nS cS, .slice aW nW cW, .int .i64 F, .bool D] 27)).alloc (.cells #[.slice none 0 0, .slice none 0 0, .int .i64 0, .bool false] 27) = W0 at *
    refine (HO.out _ R0.out).mono ?_
    rintro e w1 ⟨rfl, b1⟩
    have Y1 := (b1.block (w.heap.size + 1) (by omega)).trans X1
    have T1 := hid Y1
    have HB1 := hid (B0.trans (b1.mono B0.size))
    clear Y1 X0 X1 XZ B0 b1 R0 HO
    go_wp2_with (refine wpList_store_row rfl 27 (.tmp 2) (.tmp 9) rfl (w.heap.size + 1) #[.slice none 0 0, .slice none 0 0, .int .i64 0, .bool false] rfl rfl 27 _ T1.out ?s1 ?s2 ?s3 ?_)
    case s1 => exact sizeDk
    case s2 => rfl
    case s3 => simp [Value.oneCell']
    exact bodyPost_ret (results_cell_tmp Tryd.results16 _ _ (w.heap.size + 1) 27 #[.slice none 0 0, .slice none 0 0, .int .i64 0, .bool false] (0, 0) _ rfl (setRow_heap _ _ _ _ _ _ T1.out) Tryd.underlying27 rfl sizeDk) rfl ⟨none, 0, 0, none, 0, 0, rfl, rfl, rfl, OwnD.nil _ _ _, below_setRow HB1.out (by omega) _⟩
end Go.Proofs.YtnnnehjlegjejaaDoor
