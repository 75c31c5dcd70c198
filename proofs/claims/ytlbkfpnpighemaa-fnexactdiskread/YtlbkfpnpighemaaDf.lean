/- The contracts of the specification's DiskFuse and of the program's. Conditions: lists of at most 2^20. -/
import Derived.Test.YtlbkfpnpighemaaDl
import Derived.Test.YtlbkfpnpighemaaDi
namespace Go.Proofs.Ytlbkfpnpighemaa
open Go.RowKit

theorem results_cell_tmp {P : Program} {fn : Func} {p q : Tmp} {ty : TypeId} (h : fn.results = #[.cell p ty, .tmp q]) (tmps : Array Value) (w : World) (g : Nat) (t : TypeId) (cs : Array Value) (fr : Nat × Nat) (d : TypeDesc)
    (hp : tmps.getD p undef = .pointer (some ⟨g, 0, none⟩)) (hg : w.heap[g]? = some (.cells cs t fr))
    (hu : P.underlying ty = some d) (hd : (match d with | .struct _ | .array _ _ => true | _ => false) = true) (hi : (P.info? ty).map (·.size) = some cs.size) :
    (results fn tmps).run P w = .ok (.tuple #[.agg cs, tmps.getD q undef]) w := by
  have hp' : tmps[p]?.getD undef = .pointer (some ⟨g, 0, none⟩) := by simpa using hp
  simp [results, h, hp', asAddr, run_loadVar_row w g t ty cs fr d hg hu hd hi]

theorem okD_len {ss : List (List Int)} {ws : List (Int × List Int)} {F : Int} {D : Bool} (h : okD ⟨ss, ws, F, D⟩ = true) : ss.length ≤ 512 ∧ ws.length ≤ 600 ∧ (∀ i, i < ss.length → (ss.getD i []).length = 64) ∧ (∀ i, i < ws.length → (ws.getD i w0).2.length = 64) := by
  have o := okD_of h
  exact ⟨o.s1, o.w1, o.s, fun i hi => (o.w i hi).2.2⟩
theorem len_any {ss : List (List Int)} {n : Nat} (h : ∀ i, i < n → (ss.getD i []).length = 64) (hl : ss.length = n) : ∀ i, (ss.getD i []).length ≤ 2097152 := by
  intro i
  by_cases hi : i < n
  · rw [h i hi]; omega
  · rw [List.getD_eq_getElem?_getD, List.getElem?_eq_none (by omega)]; simp
theorem lenW_any {ws : List (Int × List Int)} {n : Nat} (h : ∀ i, i < n → (ws.getD i w0).2.length = 64) (hl : ws.length = n) : ∀ i, (ws.getD i w0).2.length ≤ 2097152 := by
  intro i
  by_cases hi : i < n
  · rw [h i hi]; omega
  · rw [List.getD_eq_getElem?_getD, List.getElem?_eq_none (by omega)]; simp [w0]

set_option maxRecDepth 100000 in
set_option maxHeartbeats 3200000 in
theorem spec_Fuse {aS aW : Option Addr} {nS nW : Nat} (cS cW : Nat) {ss : List (List Int)} {ws : List (Int × List Int)} {F : Int} {D : Bool} (at' : Int) {w : World} (h : ReadsD w aS aW ss ws) (lS : ss.length = nS) (lW : ws.length = nW)
    {RS : List (List Int)} {RW : List (Int × List Int)} {RF : Int} {RD : Bool} {RC : Int} (hR : fuseD ⟨ss, ws, F, D⟩ at' = (⟨RS, RW, RF, RD⟩, RC)) :
    Calls Try.prog 29 #[.agg #[.slice aS nS cS, .slice aW nW cW, .int .i64 F, .bool D], .int .i64 at'] w fun e w' => ∃ aR n1 cR dR n2 eR, RS.length = n1 ∧ RW.length = n2 ∧ e = .returned (.tuple #[.agg #[.slice aR n1 cR, .slice dR n2 eR, .int .i64 RF, .bool RD], .int .i64 RC]) ∧ OwnD w' w.heap.size w'.heap.size (.slice aR n1 cR) (.slice dR n2 eR) RS RW ∧ Below w.heap.size w w' := by
  have B0 := two w (.cells #[.slice aS nS cS, .slice aW nW cW, .int .i64 F, .bool D] 36) (.cells #[.slice none 0 0, .slice none 0 0, .int .i64 0, .bool false] 36)
  have X1 := heap_new2 w (.cells #[.slice aS nS cS, .slice aW nW cW, .int .i64 F, .bool D] 36) (.cells #[.slice none 0 0, .slice none 0 0, .int .i64 0, .bool false] 36)
  have X0 := heap_new1 w (.cells #[.slice aS nS cS, .slice aW nW cW, .int .i64 F, .bool D] 36) (.cells #[.slice none 0 0, .slice none 0 0, .int .i64 0, .bool false] 36)
  have XZ : ((w.alloc (.cells #[.slice aS nS cS, .slice aW nW cW, .int .i64 F, .bool D] 36)).alloc (.cells #[.slice none 0 0, .slice none 0 0, .int .i64 0, .bool false] 36)).heap.size = w.heap.size + 2 := by simp
  have hO := fun (W : World) (r : ReadsD W aS aW ss ws) => spec_DiskOk cS cW F D r lS lW
  by_cases hok : okD ⟨ss, ws, F, D⟩ = true
  · rw [hok] at hO
    obtain ⟨l1, l2, l3, l4⟩ := okD_len hok
    rw [lS] at l1 l3
    rw [lW] at l2 l4
    by_cases hn : -1 ≤ at'
    · obtain ⟨rfl, rfl, rfl, rfl, rfl⟩ : ss = RS ∧ ws = RW ∧ at' = RF ∧ D = RD ∧ 0 = RC := by
        unfold fuseD at hR
        rw [if_pos ⟨hok, hn⟩] at hR
        simp only [Prod.mk.injEq, Dk.mk.injEq] at hR
        obtain ⟨⟨h1, h2, h3, h4⟩, h5⟩ := hR
        exact ⟨h1, h2, h3, h4, h5⟩
      have q1 : ¬ at' < -1 := by omega
      have HL3 := hid l3
      have HL4 := hid l4
      have HO := hid hO
      have R0 := hid (h.below B0 (Nat.le_refl _))
      clear hok hR hn l3 l4 hO h
      go_enter Try.func29, Try.ntmps29
      go_wp2_with fail
      generalize (w.alloc (.cells #[.slice aS nS cS, .slice aW nW cW, .int .i64 F, .bool D] 36)).alloc (.cells #[.slice none 0 0, .slice none 0 0, .int .i64 0, .bool false] 36) = W0 at *
      refine (HO.out _ R0.out).mono ?_
      rintro e w1 ⟨rfl, b1⟩
      have Y0 := (b1.block w.heap.size (by omega)).trans X0
      have Y1 := (b1.block (w.heap.size + 1) (by omega)).trans X1
      have HB1 := hid (B0.trans (b1.mono B0.size))
      have HR1 := hid (R0.out.below b1 (Nat.le_refl _))
      have HZ := hid (show w.heap.size + 2 ≤ w1.heap.size by have := b1.size; omega)
      have HY1 := hid Y1
      obtain ⟨y0, y1, y2, y3⟩ : BoxD w1 w.heap.size aS nS cS aW nW cW F D := ⟨by rw [cell_of_row _ _ _ _ _ _ Y0]; rfl, by rw [cell_of_row _ _ _ _ _ _ Y0]; rfl, by rw [cell_of_row _ _ _ _ _ _ Y0]; rfl, by rw [cell_of_row _ _ _ _ _ _ Y0]; rfl⟩
      clear Y0 Y1 X0 X1 XZ B0 b1 R0 HO
      go_wp2_with fail
      refine (spec_l4copy cS cW F D HR1.out lS lW (by omega) (by omega) HL3.out HL4.out).mono ?_
      rintro e w2 ⟨a1, c1, a2, c2, rfl, o2, b2⟩
      clear y0 y1 y2 y3
      have hz2 : w.heap.size + 2 ≤ w2.heap.size := by have := HZ.out; have := b2.size; omega
      have V1 := (b2.block (w.heap.size + 1) (by have := HZ.out; omega)).trans HY1.out
      have N0 := heap_alloc_new w2 (.cells #[.slice a1 nS c1, .slice a2 nW c2, .int .i64 F, .bool D] 36)
      have O2 := hid (show OwnD w2 w1.heap.size w2.heap.size (.slice a1 nS c1) (.slice a2 nW c2) ss ws from o2)
      have T2 := hid (heap_alloc_new w2 (.cells #[.slice a1 nS c1, .slice a2 nW c2, .int .i64 at', .bool D] 36))
      have T1 := hid ((alloc_old w2 (.cells #[.slice a1 nS c1, .slice a2 nW c2, .int .i64 at', .bool D] 36) (w.heap.size + 1) (by omega)).trans V1)
      have BC := hid ((HB1.out.trans (b2.mono HB1.out.size)).alloc (by omega) (.cells #[.slice a1 nS c1, .slice a2 nW c2, .int .i64 at', .bool D] 36))
      have HZ2 := hid hz2
      clear o2 b2 V1 N0 hz2 HY1 HB1
      go_wp2_with (first
        | (refine wpList_load_row rfl 36 (.tmp 6) rfl w2.heap.size rfl 36 _ (0, 0) _ T2.out Try.underlying36 rfl sizeDk ?_)
        | (refine wpList_store_row rfl 36 (.tmp 4) (.tmp 19) rfl (w.heap.size + 1) #[.slice a1 nS c1, .slice a2 nW c2, .int .i64 at', .bool D] rfl rfl 36 _ T1.out ?s1 ?s2 ?s3 ?_))
      case s1 => exact sizeDk
      case s2 => rfl
      case s3 => simp [Value.oneCell']
      have hz2 := HZ2.out
      refine bodyPost_ret (results_cell_tmp Try.results29 _ _ (w.heap.size + 1) 36 #[.slice a1 nS c1, .slice a2 nW c2, .int .i64 at', .bool D] (0, 0) _ rfl (setRow_heap _ _ _ _ _ _ T1.out) Try.underlying36 rfl sizeDk) rfl ⟨a1, nS, c1, a2, nW, c2, lS, lW, rfl, (O2.out.agree fun j h1 h2 => ?_).mono (by have := HZ.out; omega) (by simp), below_setRow BC.out (by omega) _⟩
      rw [setRow_other _ _ _ _ (by have := HZ.out; omega), alloc_old _ _ _ (by omega)]
    · obtain ⟨rfl, rfl, rfl, rfl, rfl⟩ : RS = [] ∧ RW = [] ∧ RF = 0 ∧ RD = false ∧ RC = 1 := by
        unfold fuseD at hR
        rw [if_neg (fun hh => hn hh.2)] at hR
        simp only [z0, Prod.mk.injEq, Dk.mk.injEq] at hR
        obtain ⟨⟨h1, h2, h3, h4⟩, h5⟩ := hR
        exact ⟨h1.symm, h2.symm, h3.symm, h4.symm, h5.symm⟩
      have q1 : at' < -1 := by omega
      have HO := hid hO
      have R0 := hid (h.below B0 (Nat.le_refl _))
      clear hok hR hn l3 l4 hO h
      go_enter Try.func29, Try.ntmps29
      go_wp2_with fail
      generalize (w.alloc (.cells #[.slice aS nS cS, .slice aW nW cW, .int .i64 F, .bool D] 36)).alloc (.cells #[.slice none 0 0, .slice none 0 0, .int .i64 0, .bool false] 36) = W0 at *
      refine (HO.out _ R0.out).mono ?_
      rintro e w1 ⟨rfl, b1⟩
      have Y1 := (b1.block (w.heap.size + 1) (by omega)).trans X1
      have T1 := hid Y1
      have HB1 := hid (B0.trans (b1.mono B0.size))
      clear Y1 X0 X1 XZ B0 b1 R0 HO
      go_wp2_with (refine wpList_store_row rfl 36 (.tmp 4) (.tmp 14) rfl (w.heap.size + 1) #[.slice none 0 0, .slice none 0 0, .int .i64 0, .bool false] rfl rfl 36 _ T1.out ?s1 ?s2 ?s3 ?_)
      case s1 => exact sizeDk
      case s2 => rfl
      case s3 => simp [Value.oneCell']
      exact bodyPost_ret (results_cell_tmp Try.results29 _ _ (w.heap.size + 1) 36 #[.slice none 0 0, .slice none 0 0, .int .i64 0, .bool false] (0, 0) _ rfl (setRow_heap _ _ _ _ _ _ T1.out) Try.underlying36 rfl sizeDk) rfl ⟨none, 0, 0, none, 0, 0, rfl, rfl, rfl, OwnD.nil _ _ _, below_setRow HB1.out (by omega) _⟩
  · have hok' : okD ⟨ss, ws, F, D⟩ = false := by simpa using hok
    rw [hok'] at hO
    obtain ⟨rfl, rfl, rfl, rfl, rfl⟩ : RS = [] ∧ RW = [] ∧ RF = 0 ∧ RD = false ∧ RC = 1 := by
      unfold fuseD at hR
      rw [if_neg (fun hh => hok hh.1)] at hR
      simp only [z0, Prod.mk.injEq, Dk.mk.injEq] at hR
      obtain ⟨⟨h1, h2, h3, h4⟩, h5⟩ := hR
      exact ⟨h1.symm, h2.symm, h3.symm, h4.symm, h5.symm⟩
    have HO := hid hO
    have R0 := hid (h.below B0 (Nat.le_refl _))
    clear hok hok' hR hO h
    go_enter Try.func29, Try.ntmps29
    go_wp2_with fail
    generalize (w.alloc (.cells #[.slice aS nS cS, .slice aW nW cW, .int .i64 F, .bool D] 36)).alloc (.cells #[.slice none 0 0, .slice none 0 0, .int .i64 0, .bool false] 36) = W0 at *
    refine (HO.out _ R0.out).mono ?_
    rintro e w1 ⟨rfl, b1⟩
    have Y1 := (b1.block (w.heap.size + 1) (by omega)).trans X1
    have T1 := hid Y1
    have HB1 := hid (B0.trans (b1.mono B0.size))
    clear Y1 X0 X1 XZ B0 b1 R0 HO
    go_wp2_with (refine wpList_store_row rfl 36 (.tmp 4) (.tmp 14) rfl (w.heap.size + 1) #[.slice none 0 0, .slice none 0 0, .int .i64 0, .bool false] rfl rfl 36 _ T1.out ?s1 ?s2 ?s3 ?_)
    case s1 => exact sizeDk
    case s2 => rfl
    case s3 => simp [Value.oneCell']
    exact bodyPost_ret (results_cell_tmp Try.results29 _ _ (w.heap.size + 1) 36 #[.slice none 0 0, .slice none 0 0, .int .i64 0, .bool false] (0, 0) _ rfl (setRow_heap _ _ _ _ _ _ T1.out) Try.underlying36 rfl sizeDk) rfl ⟨none, 0, 0, none, 0, 0, rfl, rfl, rfl, OwnD.nil _ _ _, below_setRow HB1.out (by omega) _⟩

set_option maxRecDepth 100000 in
set_option maxHeartbeats 3200000 in
theorem impl_Fuse {aS aW : Option Addr} {nS nW : Nat} (cS cW : Nat) {ss : List (List Int)} {ws : List (Int × List Int)} {F : Int} {D : Bool} (at' : Int) {w : World} (h : ReadsD w aS aW ss ws) (lS : ss.length = nS) (lW : ws.length = nW)
    {RS : List (List Int)} {RW : List (Int × List Int)} {RF : Int} {RD : Bool} {RC : Int} (hR : fuseD ⟨ss, ws, F, D⟩ at' = (⟨RS, RW, RF, RD⟩, RC)) :
    Calls Try.prog 30 #[.agg #[.slice aS nS cS, .slice aW nW cW, .int .i64 F, .bool D], .int .i64 at'] w fun e w' => ∃ aR n1 cR dR n2 eR, RS.length = n1 ∧ RW.length = n2 ∧ e = .returned (.tuple #[.agg #[.slice aR n1 cR, .slice dR n2 eR, .int .i64 RF, .bool RD], .int .i64 RC]) ∧ OwnD w' w.heap.size w'.heap.size (.slice aR n1 cR) (.slice dR n2 eR) RS RW ∧ Below w.heap.size w w' := by
  have B0 := two w (.cells #[.slice aS nS cS, .slice aW nW cW, .int .i64 F, .bool D] 36) (.cells #[.slice none 0 0, .slice none 0 0, .int .i64 0, .bool false] 36)
  have X1 := heap_new2 w (.cells #[.slice aS nS cS, .slice aW nW cW, .int .i64 F, .bool D] 36) (.cells #[.slice none 0 0, .slice none 0 0, .int .i64 0, .bool false] 36)
  have X0 := heap_new1 w (.cells #[.slice aS nS cS, .slice aW nW cW, .int .i64 F, .bool D] 36) (.cells #[.slice none 0 0, .slice none 0 0, .int .i64 0, .bool false] 36)
  have XZ : ((w.alloc (.cells #[.slice aS nS cS, .slice aW nW cW, .int .i64 F, .bool D] 36)).alloc (.cells #[.slice none 0 0, .slice none 0 0, .int .i64 0, .bool false] 36)).heap.size = w.heap.size + 2 := by simp
  have hO := fun (W : World) (r : ReadsD W aS aW ss ws) => impl_DiskOk cS cW F D r lS lW
  by_cases hok : okD ⟨ss, ws, F, D⟩ = true
  · rw [hok] at hO
    obtain ⟨l1, l2, l3, l4⟩ := okD_len hok
    rw [lS] at l1 l3
    rw [lW] at l2 l4
    by_cases hn : -1 ≤ at'
    · obtain ⟨rfl, rfl, rfl, rfl, rfl⟩ : ss = RS ∧ ws = RW ∧ at' = RF ∧ D = RD ∧ 0 = RC := by
        unfold fuseD at hR
        rw [if_pos ⟨hok, hn⟩] at hR
        simp only [Prod.mk.injEq, Dk.mk.injEq] at hR
        obtain ⟨⟨h1, h2, h3, h4⟩, h5⟩ := hR
        exact ⟨h1, h2, h3, h4, h5⟩
      have q1 : ¬ at' < -1 := by omega
      have HL3 := hid l3
      have HL4 := hid l4
      have HO := hid hO
      have R0 := hid (h.below B0 (Nat.le_refl _))
      clear hok hR hn l3 l4 hO h
      go_enter Try.func30, Try.ntmps30
      go_wp2_with fail
      generalize (w.alloc (.cells #[.slice aS nS cS, .slice aW nW cW, .int .i64 F, .bool D] 36)).alloc (.cells #[.slice none 0 0, .slice none 0 0, .int .i64 0, .bool false] 36) = W0 at *
      refine (HO.out _ R0.out).mono ?_
      rintro e w1 ⟨rfl, b1⟩
      have Y0 := (b1.block w.heap.size (by omega)).trans X0
      have Y1 := (b1.block (w.heap.size + 1) (by omega)).trans X1
      have HB1 := hid (B0.trans (b1.mono B0.size))
      have HR1 := hid (R0.out.below b1 (Nat.le_refl _))
      have HZ := hid (show w.heap.size + 2 ≤ w1.heap.size by have := b1.size; omega)
      have HY1 := hid Y1
      obtain ⟨y0, y1, y2, y3⟩ : BoxD w1 w.heap.size aS nS cS aW nW cW F D := ⟨by rw [cell_of_row _ _ _ _ _ _ Y0]; rfl, by rw [cell_of_row _ _ _ _ _ _ Y0]; rfl, by rw [cell_of_row _ _ _ _ _ _ Y0]; rfl, by rw [cell_of_row _ _ _ _ _ _ Y0]; rfl⟩
      clear Y0 Y1 X0 X1 XZ B0 b1 R0 HO
      go_wp2_with fail
      refine (impl_copied (BoxD.mk y0 y1 y2 y3) HR1.out lS lW (by omega) (by omega) (len_any HL3.out lS) (lenW_any HL4.out lW)).mono ?_
      rintro e w2 ⟨a1, c1, a2, c2, rfl, o2, b2⟩
      clear y0 y1 y2 y3
      have hz2 : w.heap.size + 2 ≤ w2.heap.size := by have := HZ.out; have := b2.size; omega
      have V1 := (b2.block (w.heap.size + 1) (by have := HZ.out; omega)).trans HY1.out
      have N0 := heap_alloc_new w2 (.cells #[.slice a1 nS c1, .slice a2 nW c2, .int .i64 F, .bool D] 36)
      have O2 := hid (show OwnD w2 w1.heap.size w2.heap.size (.slice a1 nS c1) (.slice a2 nW c2) ss ws from o2)
      have T2 := hid (heap_alloc_new w2 (.cells #[.slice a1 nS c1, .slice a2 nW c2, .int .i64 at', .bool D] 36))
      have T1 := hid ((alloc_old w2 (.cells #[.slice a1 nS c1, .slice a2 nW c2, .int .i64 at', .bool D] 36) (w.heap.size + 1) (by omega)).trans V1)
      have BC := hid ((HB1.out.trans (b2.mono HB1.out.size)).alloc (by omega) (.cells #[.slice a1 nS c1, .slice a2 nW c2, .int .i64 at', .bool D] 36))
      have HZ2 := hid hz2
      clear o2 b2 V1 N0 hz2 HY1 HB1
      go_wp2_with (first
        | (refine wpList_load_row rfl 36 (.tmp 6) rfl w2.heap.size rfl 36 _ (0, 0) _ T2.out Try.underlying36 rfl sizeDk ?_)
        | (refine wpList_store_row rfl 36 (.tmp 4) (.tmp 18) rfl (w.heap.size + 1) #[.slice a1 nS c1, .slice a2 nW c2, .int .i64 at', .bool D] rfl rfl 36 _ T1.out ?s1 ?s2 ?s3 ?_))
      case s1 => exact sizeDk
      case s2 => rfl
      case s3 => simp [Value.oneCell']
      have hz2 := HZ2.out
      refine bodyPost_ret (results_cell_tmp Try.results30 _ _ (w.heap.size + 1) 36 #[.slice a1 nS c1, .slice a2 nW c2, .int .i64 at', .bool D] (0, 0) _ rfl (setRow_heap _ _ _ _ _ _ T1.out) Try.underlying36 rfl sizeDk) rfl ⟨a1, nS, c1, a2, nW, c2, lS, lW, rfl, (O2.out.agree fun j h1 h2 => ?_).mono (by have := HZ.out; omega) (by simp), below_setRow BC.out (by omega) _⟩
      rw [setRow_other _ _ _ _ (by have := HZ.out; omega), alloc_old _ _ _ (by omega)]
    · obtain ⟨rfl, rfl, rfl, rfl, rfl⟩ : RS = [] ∧ RW = [] ∧ RF = 0 ∧ RD = false ∧ RC = 1 := by
        unfold fuseD at hR
        rw [if_neg (fun hh => hn hh.2)] at hR
        simp only [z0, Prod.mk.injEq, Dk.mk.injEq] at hR
        obtain ⟨⟨h1, h2, h3, h4⟩, h5⟩ := hR
        exact ⟨h1.symm, h2.symm, h3.symm, h4.symm, h5.symm⟩
      have q1 : at' < -1 := by omega
      have HO := hid hO
      have R0 := hid (h.below B0 (Nat.le_refl _))
      clear hok hR hn l3 l4 hO h
      go_enter Try.func30, Try.ntmps30
      go_wp2_with fail
      generalize (w.alloc (.cells #[.slice aS nS cS, .slice aW nW cW, .int .i64 F, .bool D] 36)).alloc (.cells #[.slice none 0 0, .slice none 0 0, .int .i64 0, .bool false] 36) = W0 at *
      refine (HO.out _ R0.out).mono ?_
      rintro e w1 ⟨rfl, b1⟩
      have Y1 := (b1.block (w.heap.size + 1) (by omega)).trans X1
      have T1 := hid Y1
      have HB1 := hid (B0.trans (b1.mono B0.size))
      clear Y1 X0 X1 XZ B0 b1 R0 HO
      go_wp2_with (refine wpList_store_row rfl 36 (.tmp 4) (.tmp 14) rfl (w.heap.size + 1) #[.slice none 0 0, .slice none 0 0, .int .i64 0, .bool false] rfl rfl 36 _ T1.out ?s1 ?s2 ?s3 ?_)
      case s1 => exact sizeDk
      case s2 => rfl
      case s3 => simp [Value.oneCell']
      exact bodyPost_ret (results_cell_tmp Try.results30 _ _ (w.heap.size + 1) 36 #[.slice none 0 0, .slice none 0 0, .int .i64 0, .bool false] (0, 0) _ rfl (setRow_heap _ _ _ _ _ _ T1.out) Try.underlying36 rfl sizeDk) rfl ⟨none, 0, 0, none, 0, 0, rfl, rfl, rfl, OwnD.nil _ _ _, below_setRow HB1.out (by omega) _⟩
  · have hok' : okD ⟨ss, ws, F, D⟩ = false := by simpa using hok
    rw [hok'] at hO
    obtain ⟨rfl, rfl, rfl, rfl, rfl⟩ : RS = [] ∧ RW = [] ∧ RF = 0 ∧ RD = false ∧ RC = 1 := by
      unfold fuseD at hR
      rw [if_neg (fun hh => hok hh.1)] at hR
      simp only [z0, Prod.mk.injEq, Dk.mk.injEq] at hR
      obtain ⟨⟨h1, h2, h3, h4⟩, h5⟩ := hR
      exact ⟨h1.symm, h2.symm, h3.symm, h4.symm, h5.symm⟩
    have HO := hid hO
    have R0 := hid (h.below B0 (Nat.le_refl _))
    clear hok hok' hR hO h
    go_enter Try.func30, Try.ntmps30
    go_wp2_with fail
    generalize (w.alloc (.cells #[.slice aS nS cS, .slice aW nW cW, .int .i64 F, .bool D] 36)).alloc (.cells #[.slice none 0 0, .slice none 0 0, .int .i64 0, .bool false] 36) = W0 at *
    refine (HO.out _ R0.out).mono ?_
    rintro e w1 ⟨rfl, b1⟩
    have Y1 := (b1.block (w.heap.size + 1) (by omega)).trans X1
    have T1 := hid Y1
    have HB1 := hid (B0.trans (b1.mono B0.size))
    clear Y1 X0 X1 XZ B0 b1 R0 HO
    go_wp2_with (refine wpList_store_row rfl 36 (.tmp 4) (.tmp 14) rfl (w.heap.size + 1) #[.slice none 0 0, .slice none 0 0, .int .i64 0, .bool false] rfl rfl 36 _ T1.out ?s1 ?s2 ?s3 ?_)
    case s1 => exact sizeDk
    case s2 => rfl
    case s3 => simp [Value.oneCell']
    exact bodyPost_ret (results_cell_tmp Try.results30 _ _ (w.heap.size + 1) 36 #[.slice none 0 0, .slice none 0 0, .int .i64 0, .bool false] (0, 0) _ rfl (setRow_heap _ _ _ _ _ _ T1.out) Try.underlying36 rfl sizeDk) rfl ⟨none, 0, 0, none, 0, 0, rfl, rfl, rfl, OwnD.nil _ _ _, below_setRow HB1.out (by omega) _⟩
end Go.Proofs.Ytlbkfpnpighemaa
