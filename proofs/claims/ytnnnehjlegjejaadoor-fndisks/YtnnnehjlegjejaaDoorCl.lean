/- The contract of the specification's l4call: a copy of the disk, the call taken off it. Conditions: a disk that is DiskOk; the fuse is an int. -/
import Derived.Test.YtnnnehjlegjejaaDoorDfh
import Derived.Test.YtnnnehjlegjejaaDoorDl
namespace Go.Proofs.YtnnnehjlegjejaaDoor
open Go.RowKit

set_option maxRecDepth 100000 in
set_option maxHeartbeats 3200000 in
theorem spec_l4call {aS aW : Option Addr} {nS nW : Nat} (cS cW : Nat) {ss : List (List Int)} {ws : List (Int × List Int)} (F : Int) (D : Bool) {w : World} (h : ReadsD w aS aW ss ws) (lS : ss.length = nS) (lW : ws.length = nW) (hS : nS ≤ 512) (hW : nW ≤ 600)
    (h64 : ∀ i, i < nS → (ss.getD i []).length = 64) (hw64 : ∀ i, i < nW → (ws.getD i w0).2.length = 64) (hF : F ≤ 9223372036854775807) :
    Calls Tryd.prog 35 #[.agg #[.slice aS nS cS, .slice aW nW cW, .int .i64 F, .bool D]] w fun e w' => ∃ a1 c1 a2 c2, e = .returned (.tuple #[.agg #[.slice a1 nS c1, .slice a2 nW c2, .int .i64 (callD ⟨ss, ws, F, D⟩).1.F, .bool (callD ⟨ss, ws, F, D⟩).1.D], .bool (callD ⟨ss, ws, F, D⟩).2]) ∧ OwnD w' w.heap.size w'.heap.size (.slice a1 nS c1) (.slice a2 nW c2) ss ws ∧ Below w.heap.size w w' := by
  have B0 := two w (.cells #[.slice aS nS cS, .slice aW nW cW, .int .i64 F, .bool D] 27) (.cells #[.slice none 0 0, .slice none 0 0, .int .i64 0, .bool false] 27)
  have X1 := heap_new2 w (.cells #[.slice aS nS cS, .slice aW nW cW, .int .i64 F, .bool D] 27) (.cells #[.slice none 0 0, .slice none 0 0, .int .i64 0, .bool false] 27)
  have X0 := heap_new1 w (.cells #[.slice aS nS cS, .slice aW nW cW, .int .i64 F, .bool D] 27) (.cells #[.slice none 0 0, .slice none 0 0, .int .i64 0, .bool false] 27)
  have XZ : ((w.alloc (.cells #[.slice aS nS cS, .slice aW nW cW, .int .i64 F, .bool D] 27)).alloc (.cells #[.slice none 0 0, .slice none 0 0, .int .i64 0, .bool false] 27)).heap.size = w.heap.size + 2 := by simp
  have R0 := hid (h.below B0 (Nat.le_refl _))
  have HL3 := hid h64
  have HL4 := hid hw64
  clear h h64 hw64
  cases D with
  | true =>
    have hR : callD ⟨ss, ws, F, true⟩ = (⟨ss, ws, F, true⟩, false) := by
      rfl
    rw [hR]
    clear hR
    go_enter Tryd.func35, Tryd.ntmps35
    go_wp2_with fail
    generalize (w.alloc (.cells #[.slice aS nS cS, .slice aW nW cW, .int .i64 F, .bool true] 27)).alloc (.cells #[.slice none 0 0, .slice none 0 0, .int .i64 0, .bool false] 27) = W0 at *
    refine (spec_l4copy cS cW F true R0.out lS lW (by omega) (by omega) HL3.out HL4.out).mono ?_
    rintro e w2 ⟨a1, c1, a2, c2, rfl, o2, b2⟩
    have Y0 := (b2.block w.heap.size (by omega)).trans X0
    have V1 := (b2.block (w.heap.size + 1) (by omega)).trans X1
    have z2 := cell_old (.cells #[.slice a1 nS c1, .slice a2 nW c2, .int .i64 F, .bool true] 27) (show w2.cell? ⟨w.heap.size, 2, none⟩ = some (.int .i64 F) by rw [cell_of_row _ _ _ _ _ _ Y0]; rfl)
    have z3 := cell_old (.cells #[.slice a1 nS c1, .slice a2 nW c2, .int .i64 F, .bool true] 27) (show w2.cell? ⟨w.heap.size, 3, none⟩ = some (.bool true) by rw [cell_of_row _ _ _ _ _ _ Y0]; rfl)
    have hz2 : w.heap.size + 2 ≤ w2.heap.size := by have := b2.size; omega
    have O2 := hid (show OwnD w2 W0.heap.size w2.heap.size (.slice a1 nS c1) (.slice a2 nW c2) ss ws from o2)
    have T2 := hid (heap_alloc_new w2 (.cells #[.slice a1 nS c1, .slice a2 nW c2, .int .i64 F, .bool true] 27))
    have T1 := hid ((alloc_old w2 (.cells #[.slice a1 nS c1, .slice a2 nW c2, .int .i64 F, .bool true] 27) (w.heap.size + 1) (by omega)).trans V1)
    have BC := hid ((B0.trans (b2.mono B0.size)).alloc (by omega) (.cells #[.slice a1 nS c1, .slice a2 nW c2, .int .i64 F, .bool true] 27))
    have HZ2 := hid hz2
    have HZ := hid XZ
    clear o2 b2 V1 Y0 hz2 XZ X0 X1 B0 R0
    go_wp2_with (first
      | (refine wpList_load_row rfl 27 (.tmp 4) rfl w2.heap.size rfl 27 _ (0, 0) _ T2.out Tryd.underlying27 rfl sizeDk ?_)
      | (refine wpList_store_row rfl 27 (.tmp 2) (.tmp 9) rfl (w.heap.size + 1) #[.slice a1 nS c1, .slice a2 nW c2, .int .i64 F, .bool true] rfl rfl 27 _ T1.out ?s1 ?s2 ?s3 ?_))
    case s1 => exact sizeDk
    case s2 => rfl
    case s3 => simp [Value.oneCell']
    have hz2 := HZ2.out
    refine bodyPost_ret (results_cell_tmp Tryd.results35 _ _ (w.heap.size + 1) 27 #[.slice a1 nS c1, .slice a2 nW c2, .int .i64 F, .bool true] (0, 0) _ rfl (setRow_heap _ _ _ _ _ _ T1.out) Tryd.underlying27 rfl sizeDk) rfl ⟨a1, c1, a2, c2, rfl, (O2.out.agree fun j h1 h2 => ?_).mono (by have := HZ.out; omega) (by simp), below_setRow BC.out (by omega) _⟩
    rw [setRow_other _ _ _ _ (by have := HZ.out; omega), alloc_old _ _ _ (by omega)]
  | false =>
    by_cases h0 : F = 0
    · subst h0
      have hR : callD ⟨ss, ws, 0, false⟩ = (⟨ss, ws, 0, true⟩, false) := by
        rfl
      rw [hR]
      clear hR
      go_enter Tryd.func35, Tryd.ntmps35
      go_wp2_with fail
      generalize (w.alloc (.cells #[.slice aS nS cS, .slice aW nW cW, .int .i64 0, .bool false] 27)).alloc (.cells #[.slice none 0 0, .slice none 0 0, .int .i64 0, .bool false] 27) = W0 at *
      refine (spec_l4copy cS cW 0 false R0.out lS lW (by omega) (by omega) HL3.out HL4.out).mono ?_
      rintro e w2 ⟨a1, c1, a2, c2, rfl, o2, b2⟩
      have Y0 := (b2.block w.heap.size (by omega)).trans X0
      have V1 := (b2.block (w.heap.size + 1) (by omega)).trans X1
      have z2 := cell_old (.cells #[.slice a1 nS c1, .slice a2 nW c2, .int .i64 0, .bool false] 27) (show w2.cell? ⟨w.heap.size, 2, none⟩ = some (.int .i64 0) by rw [cell_of_row _ _ _ _ _ _ Y0]; rfl)
      have z3 := cell_old (.cells #[.slice a1 nS c1, .slice a2 nW c2, .int .i64 0, .bool false] 27) (show w2.cell? ⟨w.heap.size, 3, none⟩ = some (.bool false) by rw [cell_of_row _ _ _ _ _ _ Y0]; rfl)
      have hz2 : w.heap.size + 2 ≤ w2.heap.size := by have := b2.size; omega
      have O2 := hid (show OwnD w2 W0.heap.size w2.heap.size (.slice a1 nS c1) (.slice a2 nW c2) ss ws from o2)
      have T2 := hid (heap_alloc_new w2 (.cells #[.slice a1 nS c1, .slice a2 nW c2, .int .i64 0, .bool true] 27))
      have T1 := hid ((alloc_old w2 (.cells #[.slice a1 nS c1, .slice a2 nW c2, .int .i64 0, .bool true] 27) (w.heap.size + 1) (by omega)).trans V1)
      have BC := hid ((B0.trans (b2.mono B0.size)).alloc (by omega) (.cells #[.slice a1 nS c1, .slice a2 nW c2, .int .i64 0, .bool true] 27))
      have HZ2 := hid hz2
      have HZ := hid XZ
      clear o2 b2 V1 Y0 hz2 XZ X0 X1 B0 R0
      go_wp2_with (first
        | (refine wpList_load_row rfl 27 (.tmp 4) rfl w2.heap.size rfl 27 _ (0, 0) _ T2.out Tryd.underlying27 rfl sizeDk ?_)
        | (refine wpList_store_row rfl 27 (.tmp 2) (.tmp 14) rfl (w.heap.size + 1) #[.slice a1 nS c1, .slice a2 nW c2, .int .i64 0, .bool true] rfl rfl 27 _ T1.out ?s1 ?s2 ?s3 ?_))
      case s1 => exact sizeDk
      case s2 => rfl
      case s3 => simp [Value.oneCell']
      have hz2 := HZ2.out
      refine bodyPost_ret (results_cell_tmp Tryd.results35 _ _ (w.heap.size + 1) 27 #[.slice a1 nS c1, .slice a2 nW c2, .int .i64 0, .bool true] (0, 0) _ rfl (setRow_heap _ _ _ _ _ _ T1.out) Tryd.underlying27 rfl sizeDk) rfl ⟨a1, c1, a2, c2, rfl, (O2.out.agree fun j h1 h2 => ?_).mono (by have := HZ.out; omega) (by simp), below_setRow BC.out (by omega) _⟩
      rw [setRow_other _ _ _ _ (by have := HZ.out; omega), alloc_old _ _ _ (by omega)]
    · have q0 : (F == 0) = false := by simp [h0]
      by_cases h1 : 0 < F
      · have hR : callD ⟨ss, ws, F, false⟩ = (⟨ss, ws, (F - 1), false⟩, true) := by
          unfold callD; rw [if_neg (by simp), if_neg h0, if_pos h1]
        rw [hR]
        clear hR
        go_enter Tryd.func35, Tryd.ntmps35
        go_wp2_with fail
        generalize (w.alloc (.cells #[.slice aS nS cS, .slice aW nW cW, .int .i64 F, .bool false] 27)).alloc (.cells #[.slice none 0 0, .slice none 0 0, .int .i64 0, .bool false] 27) = W0 at *
        refine (spec_l4copy cS cW F false R0.out lS lW (by omega) (by omega) HL3.out HL4.out).mono ?_
        rintro e w2 ⟨a1, c1, a2, c2, rfl, o2, b2⟩
        have Y0 := (b2.block w.heap.size (by omega)).trans X0
        have V1 := (b2.block (w.heap.size + 1) (by omega)).trans X1
        have z2 := cell_old (.cells #[.slice a1 nS c1, .slice a2 nW c2, .int .i64 F, .bool false] 27) (show w2.cell? ⟨w.heap.size, 2, none⟩ = some (.int .i64 F) by rw [cell_of_row _ _ _ _ _ _ Y0]; rfl)
        have z3 := cell_old (.cells #[.slice a1 nS c1, .slice a2 nW c2, .int .i64 F, .bool false] 27) (show w2.cell? ⟨w.heap.size, 3, none⟩ = some (.bool false) by rw [cell_of_row _ _ _ _ _ _ Y0]; rfl)
        have hz2 : w.heap.size + 2 ≤ w2.heap.size := by have := b2.size; omega
        have O2 := hid (show OwnD w2 W0.heap.size w2.heap.size (.slice a1 nS c1) (.slice a2 nW c2) ss ws from o2)
        have T2 := hid (heap_alloc_new w2 (.cells #[.slice a1 nS c1, .slice a2 nW c2, .int .i64 (F - 1), .bool false] 27))
        have T1 := hid ((alloc_old w2 (.cells #[.slice a1 nS c1, .slice a2 nW c2, .int .i64 (F - 1), .bool false] 27) (w.heap.size + 1) (by omega)).trans V1)
        have BC := hid ((B0.trans (b2.mono B0.size)).alloc (by omega) (.cells #[.slice a1 nS c1, .slice a2 nW c2, .int .i64 (F - 1), .bool false] 27))
        have HZ2 := hid hz2
        have HZ := hid XZ
        clear o2 b2 V1 Y0 hz2 XZ X0 X1 B0 R0
        go_wp2_with (first
          | (refine wpList_load_row rfl 27 (.tmp 4) rfl w2.heap.size rfl 27 _ (0, 0) _ T2.out Tryd.underlying27 rfl sizeDk ?_)
          | (refine wpList_store_row rfl 27 (.tmp 2) (.tmp 22) rfl (w.heap.size + 1) #[.slice a1 nS c1, .slice a2 nW c2, .int .i64 (F - 1), .bool false] rfl rfl 27 _ T1.out ?s1 ?s2 ?s3 ?_))
        case s1 => exact sizeDk
        case s2 => rfl
        case s3 => simp [Value.oneCell']
        have hz2 := HZ2.out
        refine bodyPost_ret (results_cell_tmp Tryd.results35 _ _ (w.heap.size + 1) 27 #[.slice a1 nS c1, .slice a2 nW c2, .int .i64 (F - 1), .bool false] (0, 0) _ rfl (setRow_heap _ _ _ _ _ _ T1.out) Tryd.underlying27 rfl sizeDk) rfl ⟨a1, c1, a2, c2, rfl, (O2.out.agree fun j h1 h2 => ?_).mono (by have := HZ.out; omega) (by simp), below_setRow BC.out (by omega) _⟩
        rw [setRow_other _ _ _ _ (by have := HZ.out; omega), alloc_old _ _ _ (by omega)]
      · have hR : callD ⟨ss, ws, F, false⟩ = (⟨ss, ws, F, false⟩, true) := by
          unfold callD; rw [if_neg (by simp), if_neg h0, if_neg h1]
        rw [hR]
        clear hR
        go_enter Tryd.func35, Tryd.ntmps35
        go_wp2_with fail
        generalize (w.alloc (.cells #[.slice aS nS cS, .slice aW nW cW, .int .i64 F, .bool false] 27)).alloc (.cells #[.slice none 0 0, .slice none 0 0, .int .i64 0, .bool false] 27) = W0 at *
        refine (spec_l4copy cS cW F false R0.out lS lW (by omega) (by omega) HL3.out HL4.out).mono ?_
        rintro e w2 ⟨a1, c1, a2, c2, rfl, o2, b2⟩
        have Y0 := (b2.block w.heap.size (by omega)).trans X0
        have V1 := (b2.block (w.heap.size + 1) (by omega)).trans X1
        have z2 := cell_old (.cells #[.slice a1 nS c1, .slice a2 nW c2, .int .i64 F, .bool false] 27) (show w2.cell? ⟨w.heap.size, 2, none⟩ = some (.int .i64 F) by rw [cell_of_row _ _ _ _ _ _ Y0]; rfl)
        have z3 := cell_old (.cells #[.slice a1 nS c1, .slice a2 nW c2, .int .i64 F, .bool false] 27) (show w2.cell? ⟨w.heap.size, 3, none⟩ = some (.bool false) by rw [cell_of_row _ _ _ _ _ _ Y0]; rfl)
        have hz2 : w.heap.size + 2 ≤ w2.heap.size := by have := b2.size; omega
        have O2 := hid (show OwnD w2 W0.heap.size w2.heap.size (.slice a1 nS c1) (.slice a2 nW c2) ss ws from o2)
        have T2 := hid (heap_alloc_new w2 (.cells #[.slice a1 nS c1, .slice a2 nW c2, .int .i64 F, .bool false] 27))
        have T1 := hid ((alloc_old w2 (.cells #[.slice a1 nS c1, .slice a2 nW c2, .int .i64 F, .bool false] 27) (w.heap.size + 1) (by omega)).trans V1)
        have BC := hid ((B0.trans (b2.mono B0.size)).alloc (by omega) (.cells #[.slice a1 nS c1, .slice a2 nW c2, .int .i64 F, .bool false] 27))
        have HZ2 := hid hz2
        have HZ := hid XZ
        clear o2 b2 V1 Y0 hz2 XZ X0 X1 B0 R0
        go_wp2_with (first
          | (refine wpList_load_row rfl 27 (.tmp 4) rfl w2.heap.size rfl 27 _ (0, 0) _ T2.out Tryd.underlying27 rfl sizeDk ?_)
          | (refine wpList_store_row rfl 27 (.tmp 2) (.tmp 22) rfl (w.heap.size + 1) #[.slice a1 nS c1, .slice a2 nW c2, .int .i64 F, .bool false] rfl rfl 27 _ T1.out ?s1 ?s2 ?s3 ?_))
        case s1 => exact sizeDk
        case s2 => rfl
        case s3 => simp [Value.oneCell']
        have hz2 := HZ2.out
        refine bodyPost_ret (results_cell_tmp Tryd.results35 _ _ (w.heap.size + 1) 27 #[.slice a1 nS c1, .slice a2 nW c2, .int .i64 F, .bool false] (0, 0) _ rfl (setRow_heap _ _ _ _ _ _ T1.out) Tryd.underlying27 rfl sizeDk) rfl ⟨a1, c1, a2, c2, rfl, (O2.out.agree fun j h1 h2 => ?_).mono (by have := HZ.out; omega) (by simp), below_setRow BC.out (by omega) _⟩
        rw [setRow_other _ _ _ _ (by have := HZ.out; omega), alloc_old _ _ _ (by omega)]
end Go.Proofs.YtnnnehjlegjejaaDoor
