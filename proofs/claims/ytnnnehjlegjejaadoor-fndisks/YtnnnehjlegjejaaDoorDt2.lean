/- The contracts of the laws' toWrite, toWriteS, toDisk: the same disk with memory of its own. Conditions: lists of at most 2^21. -/
import Derived.Test.YtnnnehjlegjejaaDoorDt
import Derived.Test.YtnnnehjlegjejaaDoorAl
namespace Go.Proofs.YtnnnehjlegjejaaDoor
open Go.RowKit

theorem sizeWr : (Tryd.prog.info? 40).map (·.size) = some 2 := by kernel_rfl

set_option maxRecDepth 100000 in
set_option maxHeartbeats 1600000 in
theorem toWrite (A : Int) {ad : Option Addr} {n : Nat} (cap : Nat) {zs : List Int} {w : World} (h : Reads w ad n zs) (hn : n ≤ 2097152) :
    Calls Tryd.prog 65 #[.agg #[.int .i64 A, .slice ad n cap]] w fun e w' => ∃ g, e = .returned (.agg #[.int .i64 A, .slice (some ⟨g, 0, none⟩) n n]) ∧ w'.ownsRow w.heap.size 5 1 (.slice (some ⟨g, 0, none⟩) n n) n (bys zs) ∧ Below w.heap.size w w' := by
  go_enter Tryd.func65, Tryd.ntmps65
  go_wp2_with fail
  obtain ⟨z, R1, R2, bW⟩ := three w (.cells #[.int .i64 A, .slice ad n cap] 94) (.cells #[.int .i64 0, .slice none 0 0] 40) (.cells #[.int .i64 A, .slice none 0 0] 40)
  have zW := hid z
  clear z
  generalize ((w.alloc (.cells #[.int .i64 A, .slice ad n cap] 94)).alloc (.cells #[.int .i64 0, .slice none 0 0] 40)).alloc (.cells #[.int .i64 A, .slice none 0 0] 40) = W at *
  refine (toByteS_any cap (h.below bW (Nat.le_refl _)) hn).mono ?_
  rintro e W1 ⟨rfl, o1, b1⟩
  have hW := zW.out
  have S1 : W1.heap[w.heap.size + 1]? = _ := (b1.block _ (by omega)).trans R1
  have S2 : W1.heap[w.heap.size + 1 + 1]? = _ := (b1.block _ (by omega)).trans R2
  have B1 := bW.trans (b1.mono bW.size)
  have O1 := hid o1
  have HW := hid hW
  clear o1 hW zW R1 R2 bW b1
  have c3 : W1.cell? ⟨w.heap.size + 1 + 1, 1, none⟩ = some (.slice none 0 0) := by rw [cell_of_row _ _ _ _ _ _ S2]; rfl
  have fz : W1.frozen? ⟨w.heap.size + 1 + 1, 1, none⟩ = false := frozen_of_row _ _ _ _ _ S2
  have T2 := hid (heap_setCell_same W1 (w.heap.size + 1 + 1) 1 _ 40 (.slice (some ⟨W.heap.size, 0, none⟩) n n) S2)
  have T1 := hid ((heap_setCell_other W1 ⟨w.heap.size + 1 + 1, 1, none⟩ (w.heap.size + 1) (.slice (some ⟨W.heap.size, 0, none⟩) n n) (by simp)).trans S1)
  have BC := hid (B1.setCell (p := ⟨w.heap.size + 1 + 1, 1, none⟩) (by simp; omega) (.slice (some ⟨W.heap.size, 0, none⟩) n n))
  clear S1 S2
  go_wp2_with (first
    | (refine wpList_load_row rfl 40 (.tmp 3) rfl (w.heap.size + 1 + 1) rfl 40 _ (0, 0) _ T2.out Tryd.underlying40 rfl sizeWr ?_)
    | (refine wpList_store_row rfl 40 (.tmp 2) (.tmp 11) rfl (w.heap.size + 1) #[.int .i64 A, .slice (some ⟨W.heap.size, 0, none⟩) n n] rfl rfl 40 _ T1.out ?s1 ?s2 ?s3 ?_))
  case s1 => exact sizeWr
  case s2 => rfl
  case s3 => simp [Value.oneCell']
  have hW := HW.out
  refine bodyPost_ret (results_cell_row Tryd.results65 _ _ (w.heap.size + 1) 40 #[.int .i64 A, .slice (some ⟨W.heap.size, 0, none⟩) n n] (0, 0) _ rfl (setRow_heap _ _ _ _ _ _ T1.out) Tryd.underlying40 rfl sizeWr) rfl ⟨W.heap.size, rfl, owns_base (owns_at O1.out fun k hk => ?_) (by omega), below_setRow BC.out (by omega) _⟩
  rw [setRow_other _ _ _ _ (by omega), heap_setCell_other _ _ _ _ (by simp; omega)]

theorem made2 (a b : Value) : ∀ n : Nat, (madeCells #[a, b] (n * 2)).toList = (List.replicate n [a, b]).flatten := by
  intro n
  have h : ∀ n : Nat, (madeCells #[a, b] (n * 2)).toList = (List.range (n * 2)).map (fun i => #[a, b][i % 2]!) := by
    intro n
    simp [madeCells]
  rw [h]
  induction n with
  | zero => rfl
  | succ n ih =>
    rw [show (n + 1) * 2 = n * 2 + 1 + 1 by omega, List.range_succ, List.range_succ, List.map_append, List.map_append, ih, List.replicate_succ', List.flatten_append]
    simp [show (n * 2 + 1) % 2 = 1 by omega]
theorem zeroW (n : Nat) : cellsW (List.replicate n w0) (List.replicate n nilS) = (List.replicate n [Value.int .i64 0, nilS]).flatten := by
  induction n with
  | zero => rfl
  | succ n ih => rw [List.replicate_succ, List.replicate_succ, cellsW, ih, List.replicate_succ]; rfl
theorem cellsW_set2 : ∀ (ws : List (Int × List Int)) (ys : List Value) (k : Nat) (p : Int × List Int) (y : Value), ys.length = ws.length → k < ws.length → ((cellsW ws ys).set (k * 2) (.int .i64 p.1)).set (k * 2 + 1) y = cellsW (ws.set k p) (ys.set k y)
  | q :: ws, x :: ys, 0, p, y, _, _ => by simp [cellsW]
  | q :: ws, x :: ys, k + 1, p, y, h, hk => by
    have ih := cellsW_set2 ws ys k p y (by simpa using h) (by simpa using hk)
    rw [show (k + 1) * 2 + 1 = k * 2 + 1 + 1 + 1 by omega, show (k + 1) * 2 = k * 2 + 1 + 1 by omega]
    simp only [cellsW, List.set_cons_succ, ih]
theorem set_rep {α : Type} (xs : List α) (k n : Nat) (z v : α) (hx : xs.length = k) (hk : k < n) : (xs ++ List.replicate (n - k) z).set k v = (xs ++ [v]) ++ List.replicate (n - (k + 1)) z := by
  rw [List.set_append_right _ _ (by omega), hx, Nat.sub_self, show n - k = (n - (k + 1)) + 1 by omega, List.replicate_succ, List.set_cons_zero]
  simp

set_option maxRecDepth 100000 in
set_option maxHeartbeats 1600000 in
theorem toWriteS {ad : Option Addr} {n : Nat} (cap : Nat) {ws : List (Int × List Int)} {w : World} (h : ReadsW w ad ws) (hl : ws.length = n) (hn : n ≤ 2097152) (hb : ∀ i, (ws.getD i w0).2.length ≤ 2097152) :
    Calls Tryd.prog 48 #[.slice ad n cap] w fun e w' => ∃ ys, e = .returned (.slice (some ⟨w.heap.size, 0, none⟩) n n) ∧ ys.length = n ∧ w'.ownsRow w.heap.size 40 2 (.slice (some ⟨w.heap.size, 0, none⟩) n n) n (cellsW ws ys) ∧ Bands w' w.heap.size w'.heap.size ys (ws.map (·.2)) ∧ Below w.heap.size w w' := by
  obtain ⟨i0, hi, hz0, hz1, hz2⟩ := info_parts Tryd.infoWr
  go_enter Tryd.func48, Tryd.ntmps48
  go_wp2_with (at_make; refine wpList_make_full _ rfl _ _ 25 rfl w.heap.size 40 i0 (.agg #[.int .i64 0, .slice none 0 0]) 2 Tryd.underlying25 hi hz0 hz1 _ _ _ _ n rfl rfl (by omega) (by omega) ?b2 ?b3 (Nat.le_refl _) ?_)
  case b2 => rw [hz2]; omega
  case b3 => unfold maxLen; omega
  intro w0' hown0 hgrow0
  go_wp2
  go_loopw [4] (fun i wr => ∃ (k : Nat) (ys : List Value), k ≤ n ∧ i = .int .i64 k ∧ ys.length = k ∧ Hid (wr.ownsRow w.heap.size 40 2 (.slice (some ⟨w.heap.size, 0, none⟩) n n) n (cellsW (ws.take k ++ List.replicate (n - k) w0) (ys ++ List.replicate (n - k) nilS))) ∧ Hid (Bands wr w.heap.size wr.heap.size ys ((ws.take k).map (·.2))) ∧ Hid (Below w.heap.size w wr))
    (fun i _ => n - (intOf i).toNat)
  case atStart =>
    refine ⟨0, [], Nat.zero_le _, rfl, rfl, hid ?_, hid (by rw [List.take_zero]; exact Bands.nil _ _ _), hid ((Below.refl _ _).grown hgrow0 (Nat.le_refl _) (fun k h => by cases h))⟩
    rw [made2, ← nilS, ← zeroW] at hown0
    simpa using hown0
  case round =>
    obtain ⟨k, ys, hk, rfl, hx, hown, hB, hnx⟩ := hrel
    by_cases hlt : k < n
    · have hlt' : (k : Int) < (n : Int) := by omega
      rcases h.cells with h0 | ⟨b, off, rfl, hc⟩
      · omega
      obtain ⟨hca0, v, hcx0, a, c, rfl, hr0, hnil, hmx⟩ := hc k (by omega)
      have hbl := World.block_lt_of_cell? w _ hcx0
      have hcx : wr.cell? ⟨b, off + k * 2 + 1, none⟩ = some (.slice a (ws.getD k w0).2.length c) := (hnx.out.cell (by exact hbl)).trans hcx0
      have hca : wr.cell? ⟨b, off + k * 2, none⟩ = some (.int .i64 (ws.getD k w0).1) := (hnx.out.cell (by exact hbl)).trans hca0
      have hr := hid (hr0.below hnx.out (Nat.le_refl _))
      have hlen := hb k
      have HT := hid (take_snoc ws k w0 (by omega))
      have Hbd := hid hr0.bd
      generalize ws.getD k w0 = p at *
      obtain ⟨A, zs⟩ := p
      obtain ⟨m, hm⟩ : ∃ m, zs.length = m := ⟨_, rfl⟩
      simp only at hcx hca hlen hr
      rw [hm] at hcx hlen hr
      have HM := hid hm
      clear hc hcx0 hca0 hr0 hnil hmx hm hown0 hgrow0
      go_wp2_with fail
      refine (toWrite A c hr.out (by omega)).mono ?_
      rintro e w1 ⟨g, rfl, o, b1⟩
      have hown1 := owns_below b1 (by have := hnx.out.size; omega) hown.out
      have hz0 : (cellsW (ws.take k ++ List.replicate (n - k) w0) (ys ++ List.replicate (n - k) nilS)).length = n * 2 := by
        rw [cellsW_length _ _ (by simp; omega)]; simp; omega
      have hcy : ∃ v, w1.cell? ⟨w.heap.size, k * 2, none⟩ = some v := by
        rw [hown1.cellAt (k * 2) (by omega)]
        exact ⟨_, List.getElem?_eq_getElem (by omega)⟩
      have hcz : ∃ v, w1.cell? ⟨w.heap.size, k * 2 + 1, none⟩ = some v := by
        rw [hown1.cellAt (k * 2 + 1) (by omega)]
        exact ⟨_, List.getElem?_eq_getElem (by omega)⟩
      obtain ⟨v, hcy⟩ := hcy
      obtain ⟨v', hcz⟩ := hcz
      have hfr : w1.frozen? ⟨w.heap.size, k * 2, none⟩ = false := hown1.frozenAt (k * 2)
      have hfz : w1.frozen? ⟨w.heap.size, k * 2 + 1, none⟩ = false := hown1.frozenAt (k * 2 + 1)
      have R := hown1.stored (k * 2) (.int .i64 A)
      have R' := R.1.stored (k * 2 + 1) (.slice (some ⟨g, 0, none⟩) m m)
      rw [cellsW_set2 _ _ k (A, zs) _ (by simp; omega) (by simp; omega), set_rep _ k n w0 _ (by simp; omega) hlt, set_rep ys k n nilS _ hx hlt, ← HT.out] at R'
      have hB1 : Bands w1 w.heap.size w1.heap.size (ys ++ [.slice (some ⟨g, 0, none⟩) m m]) ((ws.take (k + 1)).map (·.2)) := by
        rw [HT.out, List.map_append]
        exact (hB.out.agree (Agree.below b1 (Nat.le_refl _))).snoc (by have := hnx.out.size; omega) b1.size (by rw [HM.out]; exact o) Hbd.out (Nat.le_refl _)
      have hB2 := hB1.beside R.2 (fun i => owns_ne (hB1.own i) hown1 (by decide))
      have hB3 := hid (hB2.beside R'.2 (fun i => owns_ne (hB2.own i) R.1 (by decide)))
      have R1 := hid R'.1
      have B2 := hid (((hnx.out.trans (b1.mono hnx.out.size)).setCell (p := ⟨w.heap.size, k * 2, none⟩) (Nat.le_refl _) (.int .i64 A)).setCell (p := ⟨w.heap.size, k * 2 + 1, none⟩) (Nat.le_refl _) (.slice (some ⟨g, 0, none⟩) m m))
      clear R R' hB1 hB2 hown1 o b1 hz0
      go_wp2_with fail
      go_roundw
      case rel => exact ⟨k + 1, ys ++ [.slice (some ⟨g, 0, none⟩) m m], by omega, by go_num, by simp [hx], hid R1.out, hid (by simpa using hB3.out), hid B2.out⟩
      case measure => simp [intOf]; omega
    · go_wp2
      go_ret
      have hkn : k = n := by omega
      subst hkn
      refine ⟨ys, rfl, hx, ?_, ?_, hnx.out⟩
      · have := hown.out
        rw [List.take_of_length_le (by omega)] at this
        simpa using this
      · have := hB.out
        rw [List.take_of_length_le (by omega)] at this
        exact this
end Go.Proofs.YtnnnehjlegjejaaDoor
