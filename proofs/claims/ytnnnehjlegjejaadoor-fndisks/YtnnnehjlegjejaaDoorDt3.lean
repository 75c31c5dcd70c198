/- The contract of the laws' toDisk: the same disk with memory of its own. Conditions: lists of at most 2^21. -/
import Derived.Test.YtnnnehjlegjejaaDoorDt2
namespace Go.Proofs.YtnnnehjlegjejaaDoor
open Go.RowKit

theorem sizeDk : (Tryd.prog.info? 27).map (·.size) = some 4 := by kernel_rfl

theorem OwnD.parts {w : World} {lo mid hi : Nat} {vS vW : Value} {ss : List (List Int)} {ws : List (Int × List Int)} {xs ys : List Value} (h1 : lo ≤ mid) (h2 : mid ≤ hi) (h3 : w.heap.size ≤ hi)
    (oS : w.ownsRow lo 22 1 vS ss.length xs) (bS : Bands w lo mid xs ss) (hx : ys.length = ws.length) (oW : w.ownsRow lo 40 2 vW ws.length (cellsW ws ys)) (bW : Bands w mid hi ys (ws.map (·.2))) : OwnD w lo hi vS vW ss ws :=
  ⟨⟨xs, ys, bS.len, hx, bS.append bW h1 h2, oS, oW⟩, fun g hg => Nat.lt_of_lt_of_le (oS.lt g hg).2 h3, fun g hg => Nat.lt_of_lt_of_le (oW.lt g hg).2 h3⟩

/-- What a block holds is kept while cells of another are written. -/
theorem heap_set_ne (w : World) (g o k : Nat) (u : Value) (h : k ≠ g) : (w.setCell ⟨g, o, none⟩ u).heap[k]? = w.heap[k]? := heap_setCell_other w ⟨g, o, none⟩ k u (by simpa using h)
theorem set_size (w : World) (a : Addr) (u : Value) : (w.setCell a u).heap.size = w.heap.size := by simp

set_option maxRecDepth 100000 in
set_option maxHeartbeats 3200000 in
theorem toDisk {aS aW : Option Addr} {nS nW : Nat} (cS cW : Nat) {ss : List (List Int)} {ws : List (Int × List Int)} (F : Int) (D : Bool) {w : World} (h : ReadsD w aS aW ss ws) (lS : ss.length = nS) (lW : ws.length = nW) (hS : nS ≤ 2097152) (hW : nW ≤ 2097152)
    (hbS : ∀ i, (ss.getD i []).length ≤ 2097152) (hbW : ∀ i, (ws.getD i w0).2.length ≤ 2097152) :
    Calls Tryd.prog 21 #[.agg #[.slice aS nS cS, .slice aW nW cW, .int .i64 F, .bool D]] w fun e w' => ∃ gS gW, e = .returned (.agg #[.slice (some ⟨gS, 0, none⟩) nS nS, .slice (some ⟨gW, 0, none⟩) nW nW, .int .i64 F, .bool D]) ∧ OwnD w' w.heap.size w'.heap.size (.slice (some ⟨gS, 0, none⟩) nS nS) (.slice (some ⟨gW, 0, none⟩) nW nW) ss ws ∧ Below w.heap.size w w' := by
  go_enter Tryd.func21, Tryd.ntmps21
  go_wp2_with fail
  obtain ⟨z, R1, R2, bW⟩ := three w (.cells #[.slice aS nS cS, .slice aW nW cW, .int .i64 F, .bool D] 47) (.cells #[.slice none 0 0, .slice none 0 0, .int .i64 0, .bool false] 27) (.cells #[.slice none 0 0, .slice none 0 0, .int .i64 0, .bool false] 27)
  have R0 : (((w.alloc (.cells #[.slice aS nS cS, .slice aW nW cW, .int .i64 F, .bool D] 47)).alloc (.cells #[.slice none 0 0, .slice none 0 0, .int .i64 0, .bool false] 27)).alloc (.cells #[.slice none 0 0, .slice none 0 0, .int .i64 0, .bool false] 27)).heap[w.heap.size]? = some (.cells #[.slice aS nS cS, .slice aW nW cW, .int .i64 F, .bool D] 47) := by
    rw [alloc_old _ _ _ (by simp; omega), alloc_old _ _ _ (by simp)]
    exact heap_alloc_new _ _
  have zW := hid z
  clear z
  generalize ((w.alloc (.cells #[.slice aS nS cS, .slice aW nW cW, .int .i64 F, .bool D] 47)).alloc (.cells #[.slice none 0 0, .slice none 0 0, .int .i64 0, .bool false] 27)).alloc (.cells #[.slice none 0 0, .slice none 0 0, .int .i64 0, .bool false] 27) = W at *
  have h0 := h.below bW (Nat.le_refl _)
  refine (toByteSS cS h0.s lS hS hbS).mono ?_
  rintro e W1 ⟨xs, rfl, o1, bs1, b1⟩
  have hz := zW.out
  have S0 := (b1.block _ (by omega)).trans R0
  have S1 : W1.heap[w.heap.size + 1]? = _ := (b1.block _ (by omega)).trans R1
  have S2 : W1.heap[w.heap.size + 1 + 1]? = _ := (b1.block _ (by omega)).trans R2
  have hs1 := b1.size
  have c0 : W1.cell? ⟨w.heap.size + 1 + 1, 0, none⟩ = some (.slice none 0 0) := by rw [cell_of_row _ _ _ _ _ _ S2]; rfl
  have f0 : W1.frozen? ⟨w.heap.size + 1 + 1, 0, none⟩ = false := frozen_of_row _ _ _ _ _ S2
  have d1 : W1.cell? ⟨w.heap.size, 1, none⟩ = some (.slice aW nW cW) := by rw [cell_of_row _ _ _ _ _ _ S0]; rfl
  have V0 := (heap_set_ne W1 (w.heap.size + 1 + 1) 0 w.heap.size (.slice (some ⟨W.heap.size, 0, none⟩) nS nS) (by omega)).trans S0
  have V1 := (heap_set_ne W1 (w.heap.size + 1 + 1) 0 (w.heap.size + 1) (.slice (some ⟨W.heap.size, 0, none⟩) nS nS) (by omega)).trans S1
  have V2 := heap_setCell_same W1 (w.heap.size + 1 + 1) 0 _ 27 (.slice (some ⟨W.heap.size, 0, none⟩) nS nS) S2
  have B1 := (bW.trans (b1.mono bW.size)).setCell (p := ⟨w.heap.size + 1 + 1, 0, none⟩) (by simp; omega) (.slice (some ⟨W.heap.size, 0, none⟩) nS nS)
  have ag : Agree W.heap.size W1.heap.size W1 (W1.setCell ⟨w.heap.size + 1 + 1, 0, none⟩ (.slice (some ⟨W.heap.size, 0, none⟩) nS nS)) := fun k h1 _ => heap_set_ne _ _ _ _ _ (by omega)
  have O1 := owns_agree o1 ag (fun g hg => o1.lt g hg)
  have A1 := bs1.agree ag
  have z1 := set_size W1 ⟨w.heap.size + 1 + 1, 0, none⟩ (.slice (some ⟨W.heap.size, 0, none⟩) nS nS)
  have HV := hid (And.intro V0 (And.intro V1 V2))
  have HA := hid (And.intro O1 (And.intro A1 (And.intro B1 (And.intro z1 (And.intro hz hs1)))))
  clear S0 S1 S2 V0 V1 V2 B1 ag O1 A1 z1 hz hs1 zW R0 R1 R2 b1 bs1 o1 h0
  go_wp2_with fail
  clear c0 f0 d1
  generalize W1.setCell ⟨w.heap.size + 1 + 1, 0, none⟩ (.slice (some ⟨W.heap.size, 0, none⟩) nS nS) = W2 at *
  obtain ⟨V0, V1, V2⟩ := HV.out
  obtain ⟨O1, A1, B1, z1, hz, hs1⟩ := HA.out
  refine (toWriteS cW (h.below B1 (Nat.le_refl _)).w lW hW hbW).mono ?_
  rintro e W3 ⟨ys, rfl, hy, o3, bs3, b3⟩
  have U0 := (b3.block _ (by omega)).trans V0
  have U1 := (b3.block _ (by omega)).trans V1
  have U2 := (b3.block _ (by omega)).trans V2
  have hs3 := b3.size
  have vW : Value := .slice (some ⟨W2.heap.size, 0, none⟩) nW nW
  have c1 : W3.cell? ⟨w.heap.size + 1 + 1, 1, none⟩ = some (.slice none 0 0) := by rw [cell_of_row _ _ _ _ _ _ U2]; rfl
  have c2 : W3.cell? ⟨w.heap.size + 1 + 1, 2, none⟩ = some (.int .i64 0) := by rw [cell_of_row _ _ _ _ _ _ U2]; rfl
  have c3 : W3.cell? ⟨w.heap.size + 1 + 1, 3, none⟩ = some (.bool false) := by rw [cell_of_row _ _ _ _ _ _ U2]; rfl
  have f1 : W3.frozen? ⟨w.heap.size + 1 + 1, 1, none⟩ = false := frozen_of_row _ _ _ _ _ U2
  have f2 : W3.frozen? ⟨w.heap.size + 1 + 1, 2, none⟩ = false := frozen_of_row _ _ _ _ _ U2
  have f3 : W3.frozen? ⟨w.heap.size + 1 + 1, 3, none⟩ = false := frozen_of_row _ _ _ _ _ U2
  have d2 : W3.cell? ⟨w.heap.size, 2, none⟩ = some (.int .i64 F) := by rw [cell_of_row _ _ _ _ _ _ U0]; rfl
  have d3 : W3.cell? ⟨w.heap.size, 3, none⟩ = some (.bool D) := by rw [cell_of_row _ _ _ _ _ _ U0]; rfl
  have X1 := heap_setCell_same W3 (w.heap.size + 1 + 1) 1 _ 27 (.slice (some ⟨W2.heap.size, 0, none⟩) nW nW) U2
  have X2 := heap_setCell_same _ (w.heap.size + 1 + 1) 2 _ 27 (.int .i64 F) X1
  have T2 := hid (heap_setCell_same _ (w.heap.size + 1 + 1) 3 _ 27 (.bool D) X2)
  have T1 := hid ((heap_set_ne _ (w.heap.size + 1 + 1) 3 (w.heap.size + 1) (.bool D) (by omega)).trans ((heap_set_ne _ (w.heap.size + 1 + 1) 2 (w.heap.size + 1) (.int .i64 F) (by omega)).trans ((heap_set_ne W3 (w.heap.size + 1 + 1) 1 (w.heap.size + 1) (.slice (some ⟨W2.heap.size, 0, none⟩) nW nW) (by omega)).trans U1)))
  have BC := hid ((((B1.trans (b3.mono B1.size)).setCell (p := ⟨w.heap.size + 1 + 1, 1, none⟩) (by simp; omega) (.slice (some ⟨W2.heap.size, 0, none⟩) nW nW)).setCell (p := ⟨w.heap.size + 1 + 1, 2, none⟩) (by simp; omega) (.int .i64 F)).setCell (p := ⟨w.heap.size + 1 + 1, 3, none⟩) (by simp; omega) (.bool D))
  have own : OwnD W3 W.heap.size W3.heap.size (.slice (some ⟨W.heap.size, 0, none⟩) nS nS) (.slice (some ⟨W2.heap.size, 0, none⟩) nW nW) ss ws :=
    OwnD.parts (xs := xs) (ys := ys) (mid := W2.heap.size) (by omega) hs3 (Nat.le_refl _) (by rw [lS]; exact owns_below b3 (Nat.le_refl _) O1) ((A1.mono (Nat.le_refl _) (by omega)).agree (Agree.below b3 (Nat.le_refl _))) (by omega) (by rw [lW]; exact owns_lower o3 (by omega)) bs3
  have OW := hid own
  have HZ := hid (And.intro hz (And.intro hs1 (And.intro z1 hs3)))
  clear U0 U1 U2 X1 X2 V0 V1 V2 O1 A1 B1 z1 hz hs1 hs3 HV HA own o3 bs3 b3
  go_wp2_with (first
    | (refine wpList_load_row rfl 27 (.tmp 3) rfl (w.heap.size + 1 + 1) rfl 27 _ (0, 0) _ T2.out Tryd.underlying27 rfl sizeDk ?_)
    | (refine wpList_store_row rfl 27 (.tmp 2) (.tmp 18) rfl (w.heap.size + 1) #[.slice (some ⟨W.heap.size, 0, none⟩) nS nS, .slice (some ⟨W2.heap.size, 0, none⟩) nW nW, .int .i64 F, .bool D] rfl rfl 27 _ T1.out ?s1 ?s2 ?s3 ?_))
  case s1 => exact sizeDk
  case s2 => rfl
  case s3 => simp [Value.oneCell']
  obtain ⟨hz, hs1, z1, hs3⟩ := HZ.out
  refine bodyPost_ret (results_cell_row Tryd.results21 _ _ (w.heap.size + 1) 27 #[.slice (some ⟨W.heap.size, 0, none⟩) nS nS, .slice (some ⟨W2.heap.size, 0, none⟩) nW nW, .int .i64 F, .bool D] (0, 0) _ rfl (setRow_heap _ _ _ _ _ _ T1.out) Tryd.underlying27 rfl sizeDk) rfl ⟨W.heap.size, W2.heap.size, rfl, ((OW.out.agree fun k h1 h2 => ?_).mono (by omega) (by simp)), below_setRow BC.out (by omega) _⟩
  rw [setRow_other _ _ _ _ (by omega), heap_set_ne _ _ _ _ _ (by omega), heap_set_ne _ _ _ _ _ (by omega), heap_set_ne _ _ _ _ _ (by omega)]
end Go.Proofs.YtnnnehjlegjejaaDoor
