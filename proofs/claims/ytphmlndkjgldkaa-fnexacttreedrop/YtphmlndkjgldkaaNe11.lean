/- A list without one of its entries; whether a step is behind an entry. Conditions: at most four entries, texts of at most 2^21 bytes. -/
import Derived.Test.YtphmlndkjgldkaaNd11
namespace Go.Proofs.Ytphmlndkjgldkaa
open Go.RowKit
set_option maxRecDepth 100000
theorem eraseIdx_cells : ∀ (es : List En) (xs : List Value) (k : Nat), xs.length = es.length → cellsE (es.take k) (xs.take k) ++ cellsE (es.drop (k + 1)) (xs.drop (k + 1)) = cellsE (es.eraseIdx k) (xs.eraseIdx k)
 | [], [], k, _ => by simp [cellsE_nil]
 | e :: es, x :: xs, 0, _ => by simp [cellsE_nil]
 | e :: es, x :: xs, k + 1, h => by
  rw [List.take_succ_cons, List.take_succ_cons, cellsE_cons, List.eraseIdx_cons_succ, List.eraseIdx_cons_succ, cellsE_cons, List.append_assoc]
  show cellsE1 e x ++ (cellsE (es.take k) (xs.take k) ++ cellsE (es.drop (k + 1)) (xs.drop (k + 1))) = _
  rw [eraseIdx_cells es xs k (by simpa using h)]
theorem ReadsE.vals {w : World} {b off : Nat} {es : List En} (h : ReadsE w (some ⟨b, off, none⟩) es) : ∃ xs : List Value, xs.length = es.length ∧ (∀ i j, i < es.length → j < 5 → w.cell? ⟨b, off + i * 5 + j, none⟩ = (cellsE1 (es.getD i en0) (xs.getD i nilS))[j]?) ∧ ∀ i, i < es.length → Row w (xs.getD i nilS) (es.getD i en0).Z ∧ (es.getD i en0).F < 18446744073709551616 := by
 have key : ∀ i, ∃ x, i < es.length → Box5 w b (off + i * 5) (es.getD i en0).K (es.getD i en0).N (es.getD i en0).F x (es.getD i en0).id ∧ Row w x (es.getD i en0).Z ∧ (es.getD i en0).F < 18446744073709551616 := fun i => by
  by_cases hi : i < es.length
  · rcases h.cells with h0 | ⟨b', off', e, hc⟩
    · omega
    · cases e
      obtain ⟨x, q⟩ := hc i hi
      exact ⟨x, fun _ => q⟩
  · exact ⟨nilS, fun q => absurd q hi⟩
 obtain ⟨f, hf⟩ := Classical.axiomOfChoice key
 have hg : ∀ i, i < es.length → ((List.range es.length).map f).getD i nilS = f i := fun i hi => by simp [List.getD, hi]
 refine ⟨(List.range es.length).map f, by simp, fun i j hi hj => ?_, fun i hi => ?_⟩
 · rw [hg i hi]
   obtain ⟨⟨c0, c1, c2, c3, c4⟩, _⟩ := hf i hi
   match j, hj with
   | 0, _ => exact c0
   | 1, _ => exact c1
   | 2, _ => exact c2
   | 3, _ => exact c3
   | 4, _ => exact c4
 · rw [hg i hi]; exact (hf i hi).2
theorem At5.part {w : World} {b off : Nat} {es : List En} {xs : List Value} (hx : xs.length = es.length) (hc : ∀ i j, i < es.length → j < 5 → w.cell? ⟨b, off + i * 5 + j, none⟩ = (cellsE1 (es.getD i en0) (xs.getD i nilS))[j]?) (s m : Nat) (hm : s + m ≤ es.length) : At5 w ⟨b, off + s * 5, none⟩ m (cellsE ((es.drop s).take m) ((xs.drop s).take m)) := by
 have hl : ((xs.drop s).take m).length = ((es.drop s).take m).length := by simp; omega
 have hl2 : ((es.drop s).take m).length = m := by simp; omega
 refine ⟨by rw [cellsE_len _ _ hl, hl2], fun j u hu => ?_⟩
 have hj : j < m * 5 := by have := (List.getElem?_eq_some_iff.1 hu).1; rw [cellsE_len _ _ hl, hl2] at this; exact this
 have hq := cellsE_at _ _ (j / 5) (j % 5) hl (by omega) (by omega)
 rw [show j / 5 * 5 + j % 5 = j by omega, hu] at hq
 have e1 : ((es.drop s).take m).getD (j / 5) en0 = es.getD (s + j / 5) en0 := by simp [List.getD, List.getElem?_drop, show j / 5 < m by omega]
 have e2 : ((xs.drop s).take m).getD (j / 5) nilS = xs.getD (s + j / 5) nilS := by simp [List.getD, List.getElem?_drop, show j / 5 < m by omega]
 rw [e1, e2] at hq
 rw [hq, ← hc (s + j / 5) (j % 5) (by omega) (by omega), Addr.add_lit]
 congr 2
 omega
theorem row_one {w : World} {x : Value} {Z : List Int} (h : Row w x Z) : x.oneCell' = true := by
 obtain ⟨a, c, rfl, _⟩ := h
 rfl
set_option maxHeartbeats 3200000 in
theorem impl_without {w0 : World} {es : List En} {b off n c k : Nat} {w : World} (hr : ReadsE w0 (some ⟨b, off, none⟩) es) (hn : es.length = n) (hn4 : n ≤ 4) (hk : k < n) (hc : n ≤ c ∧ c ≤ maxLen) (hw : Below w0.heap.size w0 w) :
 Calls Try.prog 56 #[.slice (some ⟨b, off, none⟩) n c, .int .i64 k] w fun e w' => ∃ a' c', e = .returned (.slice a' (n - 1) c') ∧ (∀ W, Below w0.heap.size w0 W → (∀ q, w.heap.size ≤ q → q < w'.heap.size → W.heap[q]? = w'.heap[q]?) → ReadsE W a' (es.eraseIdx k)) ∧ Below w.heap.size w w' := by
 obtain ⟨xs, hx, hcell, hrow⟩ := hr.vals
 have HX := hid hx
 have HRow := hid hrow
 have hA := At5.part hx hcell 0 k (by omega)
 have hB := At5.part hx hcell (k + 1) (n - (k + 1)) (by omega)
 rw [Nat.zero_mul, Nat.add_zero, List.drop_zero, List.drop_zero] at hA
 rw [List.take_of_length_le (by simp; omega), List.take_of_length_le (by simp; omega)] at hB
 have hcells : ∀ i, i < n → (xs.getD i nilS).oneCell' = true := fun i hi => row_one (hrow i (by omega)).1
 have HA1 := hid (cellsE_one (es.take k) (xs.take k) (fun i hi => by
  rw [List.length_take] at hi
  rw [show (xs.take k).getD i nilS = xs.getD i nilS by simp [List.getD, show i < k by omega]]
  exact hcells i (by omega)))
 have HB1 := hid (cellsE_one (es.drop (k + 1)) (xs.drop (k + 1)) (fun i hi => by
  rw [List.length_drop] at hi
  rw [show (xs.drop (k + 1)).getD i nilS = xs.getD (k + 1 + i) nilS by simp [List.getD, List.getElem?_drop]]
  exact hcells _ (by omega)))
 have HA := hid hA
 obtain ⟨p2, hp2, hB2⟩ : ∃ p2 : Addr, (if c = k + 1 then some (⟨b, off, none⟩ : Addr) else some ⟨b, off + (k + 1) * 5, none⟩) = some p2 ∧ At5 w0 p2 (n - (k + 1)) (cellsE (es.drop (k + 1)) (xs.drop (k + 1))) := by
  by_cases e : c = k + 1
  · rw [if_pos e]
    refine ⟨_, rfl, hB.1, fun j u hu => ?_⟩
    have := (List.getElem?_eq_some_iff.1 hu).1
    rw [hB.1] at this
    omega
  · rw [if_neg e]
    exact ⟨_, rfl, hB⟩
 have HB := hid hB2
 have HP2 := hid hp2
 have hwr : IntKind.i64.wrap ((k : Int) + 1) = ((k + 1 : Nat) : Int) := by simp [IntKind.wrap, IntKind.bits, IntKind.signed]; omega
 have HEr := hid (eraseIdx_cells es xs k hx)
 have HW := hid hw
 have HN := hid hn
 have hmx := hc.2
 unfold maxLen at hmx
 have hkc : (k : Int) ≤ (c : Int) := by omega
 have hkn : (k : Int) + 1 ≤ (n : Int) := by omega
 have hk0 : (0 : Int) ≤ (k : Int) := by omega
 have hnc : (n : Int) ≤ (c : Int) := by omega
 have HWr := hid hwr
 clear hr hx hcell hrow hA hB hcells hw hn hB2 hp2 hwr
 go_enter Try.func56, Try.ntmps56
 go_wp2_with fail
 refine region_K 99 (fun _ => True) (by kernel_rfl) trivial (fun hHeld => ?_)
 have HV := hid ((Still.drew w).below w.heap.size)
 generalize w.drew = v0 at *
 refine anyK_take2 (i := 0) (v := ?v0_1) rfl (by kernel_rfl) (by kernel_rfl) (by kernel_rfl) (by rfl) (fun _ _ _ h => h) (by rfl) hHeld ?hy0_1 (some 5) (by rfl) ?rest0_1
 case hy0_1 => (intro W hSw; go_simp; (try with_reducible rfl))
 try simp only [Act.put, List.setIfInBounds_toArray, List.set_cons_succ, List.set_cons_zero]
 refine anyK_take2 (i := 1) (v := ?v1_2) rfl (by kernel_rfl) (by kernel_rfl) (by kernel_rfl) (by rfl) (fun _ _ _ h => h) (by rfl) hHeld ?hy1_2 (some 6) (by rfl) ?rest1_2
 case hy1_2 => (intro W hSw; go_simp; (try with_reducible rfl))
 try simp only [Act.put, List.setIfInBounds_toArray, List.set_cons_succ, List.set_cons_zero]
 refine anyK_take2 (i := 2) (v := ?v2_3) rfl (by kernel_rfl) (by kernel_rfl) (by kernel_rfl) (by rfl) (fun _ _ _ h => h) (by rfl) hHeld ?hy2_3 (some 7) (by rfl) ?rest2_3
 case hy2_3 => (intro W hSw; go_simp; (try with_reducible rfl))
 try simp only [Act.put, List.setIfInBounds_toArray, List.set_cons_succ, List.set_cons_zero]
 refine anyK_take2 (i := 3) (v := ?v3_4) rfl (by kernel_rfl) (by kernel_rfl) (by kernel_rfl) (by rfl) (fun _ _ _ h => h) (by rfl) hHeld ?hy3_4 (some 8) (by rfl) ?rest3_4
 case hy3_4 => (intro W hSw; go_simp; (try with_reducible rfl))
 try simp only [Act.put, List.setIfInBounds_toArray, List.set_cons_succ, List.set_cons_zero]
 refine anyK_take2 (i := 4) (v := ?v4_5) rfl (by kernel_rfl) (by kernel_rfl) (by kernel_rfl) (by rfl) (fun _ _ _ h => h) (by rfl) hHeld ?hy4_5 (some 9) (by rfl) ?rest4_5
 case hy4_5 => (intro W hSw; go_simp; (try with_reducible rfl))
 try simp only [Act.put, List.setIfInBounds_toArray, List.set_cons_succ, List.set_cons_zero]
 refine anyK_take2 (i := 5) (v := ?v5_6) rfl (by kernel_rfl) (by kernel_rfl) (by kernel_rfl) (by rfl) (fun _ _ _ h => h) (by rfl) hHeld ?hy5_6 (some 10) (by rfl) ?rest5_6
 case hy5_6 => (intro W hSw; go_simp; (try with_reducible rfl))
 try simp only [Act.put, List.setIfInBounds_toArray, List.set_cons_succ, List.set_cons_zero]
 refine anyK_take2 (i := 6) (v := .slice (some p2) (n - (k + 1)) (c - (k + 1))) rfl (by kernel_rfl) (by kernel_rfl) (by kernel_rfl) (by rfl) (fun _ _ _ h => h) (by rfl) hHeld ?hy66 (some 11) (by rfl) ?rest66
 case hy66 => (intro W hSw; go_simp; rw [HWr.out, Int.toNat_natCast, if_pos ⟨by omega, by omega⟩, HP2.out])
 try simp only [Act.put, List.setIfInBounds_toArray, List.set_cons_succ, List.set_cons_zero]
 refine anyK_step (i := 7) (by kernel_rfl) rfl (fun KP hK => ?_)
 go_simp
 have HBA := hid (Below.alloc1 v0 (.cells #[.slice (some ⟨b, off, none⟩) k c, .slice (some p2) (n - (k + 1)) (c - (k + 1))] 82))
 have HN2 := hid (heap_alloc_new v0 (.cells #[.slice (some ⟨b, off, none⟩) k c, .slice (some p2) (n - (k + 1)) (c - (k + 1))] 82))
 clear hHeld
 refine hK.out _ _ trivial (fun hHeld => ?_)
 clear hK KP
 try simp only [Act.put, List.setIfInBounds_toArray, List.set_cons_succ, List.set_cons_zero]
 generalize v0.alloc (.cells #[.slice (some ⟨b, off, none⟩) k c, .slice (some p2) (n - (k + 1)) (c - (k + 1))] 82) = v1 at *
 refine anyK_step (i := 8) (by kernel_rfl) rfl (fun KP hK => ?_)
 go_simp
 have HB1w := hid (HV.out.trans (HBA.out.mono HV.out.size))
 have HW1 := hid (HW.out.trans (HB1w.out.mono HW.out.size))
 refine (concat_ents v0.heap.size (HA.out.below HW1.out) (HB.out.below HW1.out) HA1.out HB1.out (by omega) (by omega) (by rw [cell_of_row _ _ _ _ _ _ HN2.out]; rfl) (by rw [cell_of_row _ _ _ _ _ _ HN2.out]; rfl)).mono ?_
 rintro e v2 ⟨a', c', rfl, o2, b2⟩
 rw [show k + (n - (k + 1)) = n - 1 by omega] at o2 ⊢
 rw [HEr.out] at o2
 have HBz := hid (HB1w.out.trans (b2.mono HB1w.out.size))
 have hv1 := HB1w.out.size
 have HFin := hid (show ∀ W, Below w0.heap.size w0 W → (∀ q, w.heap.size ≤ q → q < v2.heap.size → W.heap[q]? = v2.heap[q]?) → ReadsE W a' (es.eraseIdx k) from fun W hWb hWa => by
  have hle : (es.eraseIdx k).length = n - 1 := by have := HN.out; rw [List.length_eraseIdx, if_pos (by omega)]; omega
  refine ⟨?_⟩
  rcases o2.2 with ⟨e0, hz⟩ | ⟨g, cap, cur, e0, _⟩
  · have e1 := (Value.slice.inj e0).2.1; exact .inl (by omega)
  · obtain ⟨e1, -, -⟩ := Value.slice.inj e0
    subst e1
    refine .inr ⟨g, 0, rfl, fun i hi => ?_⟩
    have hxl : (xs.eraseIdx k).length = (es.eraseIdx k).length := by have := HX.out; have := HN.out; rw [List.length_eraseIdx, if_pos (by omega)]; omega
    have hgl := o2.lt g rfl
    have hcc := fun j (hj : j < 5) => (World.cell?_of_block (w := v2) (a := ⟨g, i * 5 + j, none⟩) (hWa g (by omega) hgl.2)).trans <| (o2.cellAt (i * 5 + j) (by omega)).trans (cellsE_at _ _ i j hxl hi hj)
    obtain ⟨i', hi', e1, e2⟩ : ∃ i', i' < es.length ∧ (es.eraseIdx k).getD i en0 = es.getD i' en0 ∧ (xs.eraseIdx k).getD i nilS = xs.getD i' nilS := by
     have := HN.out
     by_cases hik : i < k
     · exact ⟨i, by omega, by simp [List.getD, List.getElem?_eraseIdx, hik], by simp [List.getD, List.getElem?_eraseIdx, hik]⟩
     · exact ⟨i + 1, by omega, by simp [List.getD, List.getElem?_eraseIdx, hik], by simp [List.getD, List.getElem?_eraseIdx, hik]⟩
    rw [e1, e2] at hcc
    rw [e1]
    refine ⟨xs.getD i' nilS, ⟨?_, ?_, ?_, ?_, ?_⟩, (HRow.out i' hi').1.below hWb (Nat.le_refl _), (HRow.out i' hi').2⟩
    · have := hcc 0 (by omega); rw [Nat.zero_add]; exact this
    · have := hcc 1 (by omega); rw [Nat.zero_add]; exact this
    · have := hcc 2 (by omega); rw [Nat.zero_add]; exact this
    · have := hcc 3 (by omega); rw [Nat.zero_add]; exact this
    · have := hcc 4 (by omega); rw [Nat.zero_add]; exact this)
 clear o2 b2 hHeld hv1
 go_wp2_with fail
 refine hK.out _ _ trivial (fun hHeld => ?_)
 clear hK KP
 try simp only [Act.put, List.setIfInBounds_toArray, List.set_cons_succ, List.set_cons_zero]
 refine anyK_take2 (i := 9) (v := ?v9_7) rfl (by kernel_rfl) (by kernel_rfl) (by kernel_rfl) (by rfl) (fun _ _ _ h => h) (by rfl) hHeld ?hy9_7 (some 4) (by rfl) ?rest9_7
 case hy9_7 => (intro W hSw; go_simp; (try with_reducible rfl))
 try simp only [Act.put, List.setIfInBounds_toArray, List.set_cons_succ, List.set_cons_zero]
 refine anyK_done (by kernel_rfl) ?_ _
 clear hHeld
 go_wp2_with fail
 go_ret
 exact ⟨_, _, rfl, HFin.out, HBz.out⟩
end Go.Proofs.Ytphmlndkjgldkaa
