/- Texts of this proof in one: Ne11 Ob11 Nf11. -/
import Derived.Test.YtphmlndkjgldkaaMgh
import Derived.Test.YtphmlndkjgldkaaMgf
/- A list without one of its entries; whether a step is behind an entry. Conditions: at most four entries, texts of at most 2^21 bytes. -/

namespace Go.Proofs.Ytphmlndkjgldkaa
open Go.RowKit
set_option maxRecDepth 100000
theorem eraseIdx_cells : ∀ (es : List En) (xs : List Value) (k : Nat), xs.length = es.length → cellsE (es.take k) (xs.take k) ++ cellsE (es.drop (k + 1)) (xs.drop (k + 1)) = cellsE (es.eraseIdx k) (xs.eraseIdx k)
 | [], [], k, _ => by simp [cellsE_nil]
 | e :: es, x :: xs, 0, _ => by simp [cellsE_nil]
 | e :: es, x :: xs, k + 1, h => by
  rw [List.take_succ_cons, List.take_succ_cons, cellsE_cons, List.eraseIdx_cons_succ, List.eraseIdx_cons_succ, cellsE_cons, List.append_assoc]
  show cellsE1 e x ++ (cellsE (es.take k) (xs.take k) ++ cellsE (es.drop (k + 1)) (xs.drop (k + 1))) = _
  rw [eraseIdx_cells es xs k (by simpa using h)]
theorem ReadsE.vals {w : World} {b off : Nat} {es : List En} (h : ReadsE w (some ⟨b, off, none⟩) es) : ∃ xs : List Value, xs.length = es.length ∧ (∀ i j, i < es.length → j < 5 → w.cell? ⟨b, off + i * 5 + j, none⟩ = (cellsE1 (es.getD i en0) (xs.getD i nilS))[j]?) ∧ ∀ i, i < es.length → Row w (xs.getD i nilS) (es.getD i en0).Z ∧ (es.getD i en0).F < 18446744073709551616 := by
 have key : ∀ i, ∃ x, i < es.length → Box5 w b (off + i * 5) (es.getD i en0).K (es.getD i en0).N (es.getD i en0).F x (es.getD i en0).id ∧ Row w x (es.getD i en0).Z ∧ (es.getD i en0).F < 18446744073709551616 := fun i => by
  by_cases hi : i < es.length
  · rcases h.cells with h0 | ⟨b', off', e, hc⟩
    · omega
    · cases e
      obtain ⟨x, q⟩ := hc i hi
      exact ⟨x, fun _ => q⟩
  · exact ⟨nilS, fun q => absurd q hi⟩
 obtain ⟨f, hf⟩ := Classical.axiomOfChoice key
 have hg : ∀ i, i < es.length → ((List.range es.length).map f).getD i nilS = f i := fun i hi => by simp [List.getD, hi]
 refine ⟨(List.range es.length).map f, by simp, fun i j hi hj => ?_, fun i hi => ?_⟩
 · rw [hg i hi]
   obtain ⟨⟨c0, c1, c2, c3, c4⟩, _⟩ := hf i hi
   match j, hj with
   | 0, _ => exact c0
   | 1, _ => exact c1
   | 2, _ => exact c2
   | 3, _ => exact c3
   | 4, _ => exact c4
 · rw [hg i hi]; exact (hf i hi).2
theorem At5.part {w : World} {b off : Nat} {es : List En} {xs : List Value} (hx : xs.length = es.length) (hc : ∀ i j, i < es.length → j < 5 → w.cell? ⟨b, off + i * 5 + j, none⟩ = (cellsE1 (es.getD i en0) (xs.getD i nilS))[j]?) (s m : Nat) (hm : s + m ≤ es.length) : At5 w ⟨b, off + s * 5, none⟩ m (cellsE ((es.drop s).take m) ((xs.drop s).take m)) := by
 have hl : ((xs.drop s).take m).length = ((es.drop s).take m).length := by simp; omega
 have hl2 : ((es.drop s).take m).length = m := by simp; omega
 refine ⟨by rw [cellsE_len _ _ hl, hl2], fun j u hu => ?_⟩
 have hj : j < m * 5 := by have := (List.getElem?_eq_some_iff.1 hu).1; rw [cellsE_len _ _ hl, hl2] at this; exact this
 have hq := cellsE_at _ _ (j / 5) (j % 5) hl (by omega) (by omega)
 rw [show j / 5 * 5 + j % 5 = j by omega, hu] at hq
 have e1 : ((es.drop s).take m).getD (j / 5) en0 = es.getD (s + j / 5) en0 := by simp [List.getD, List.getElem?_drop, show j / 5 < m by omega]
 have e2 : ((xs.drop s).take m).getD (j / 5) nilS = xs.getD (s + j / 5) nilS := by simp [List.getD, List.getElem?_drop, show j / 5 < m by omega]
 rw [e1, e2] at hq
 rw [hq, ← hc (s + j / 5) (j % 5) (by omega) (by omega), Addr.add_lit]
 congr 2
 omega
theorem row_one {w : World} {x : Value} {Z : List Int} (h : Row w x Z) : x.oneCell' = true := by
 obtain ⟨a, c, rfl, _⟩ := h
 rfl
set_option maxHeartbeats 3200000 in
theorem impl_without {w0 : World} {es : List En} {b off n c k : Nat} {w : World} (hr : ReadsE w0 (some ⟨b, off, none⟩) es) (hn : es.length = n) (hn4 : n ≤ 4) (hk : k < n) (hc : n ≤ c ∧ c ≤ maxLen) (hw : Below w0.heap.size w0 w) :
 Calls Try.prog 56 #[.slice (some ⟨b, off, none⟩) n c, .int .i64 k] w fun e w' => ∃ a' c', e = .returned (.slice a' (n - 1) c') ∧ (∀ W, Below w0.heap.size w0 W → (∀ q, w.heap.size ≤ q → q < w'.heap.size → W.heap[q]? = w'.heap[q]?) → ReadsE W a' (es.eraseIdx k)) ∧ Below w.heap.size w w' := by
 obtain ⟨xs, hx, hcell, hrow⟩ := hr.vals
 have HX := hid hx
 have HRow := hid hrow
 have hA := At5.part hx hcell 0 k (by omega)
 have hB := At5.part hx hcell (k + 1) (n - (k + 1)) (by omega)
 rw [Nat.zero_mul, Nat.add_zero, List.drop_zero, List.drop_zero] at hA
 rw [List.take_of_length_le (by simp; omega), List.take_of_length_le (by simp; omega)] at hB
 have hcells : ∀ i, i < n → (xs.getD i nilS).oneCell' = true := fun i hi => row_one (hrow i (by omega)).1
 have HA1 := hid (cellsE_one (es.take k) (xs.take k) (fun i hi => by
  rw [List.length_take] at hi
  rw [show (xs.take k).getD i nilS = xs.getD i nilS by simp [List.getD, show i < k by omega]]
  exact hcells i (by omega)))
 have HB1 := hid (cellsE_one (es.drop (k + 1)) (xs.drop (k + 1)) (fun i hi => by
  rw [List.length_drop] at hi
  rw [show (xs.drop (k + 1)).getD i nilS = xs.getD (k + 1 + i) nilS by simp [List.getD, List.getElem?_drop]]
  exact hcells _ (by omega)))
 have HA := hid hA
 obtain ⟨p2, hp2, hB2⟩ : ∃ p2 : Addr, (if c = k + 1 then some (⟨b, off, none⟩ : Addr) else some ⟨b, off + (k + 1) * 5, none⟩) = some p2 ∧ At5 w0 p2 (n - (k + 1)) (cellsE (es.drop (k + 1)) (xs.drop (k + 1))) := by
  by_cases e : c = k + 1
  · rw [if_pos e]
    refine ⟨_, rfl, hB.1, fun j u hu => ?_⟩
    have := (List.getElem?_eq_some_iff.1 hu).1
    rw [hB.1] at this
    omega
  · rw [if_neg e]
    exact ⟨_, rfl, hB⟩
 have HB := hid hB2
 have HP2 := hid hp2
 have hwr : IntKind.i64.wrap ((k : Int) + 1) = ((k + 1 : Nat) : Int) := by simp [IntKind.wrap, IntKind.bits, IntKind.signed]; omega
 have HEr := hid (eraseIdx_cells es xs k hx)
 have HW := hid hw
 have HN := hid hn
 have hmx := hc.2
 unfold maxLen at hmx
 have hkc : (k : Int) ≤ (c : Int) := by omega
 have hkn : (k : Int) + 1 ≤ (n : Int) := by omega
 have hk0 : (0 : Int) ≤ (k : Int) := by omega
 have hnc : (n : Int) ≤ (c : Int) := by omega
 have HWr := hid hwr
 clear hr hx hcell hrow hA hB hcells hw hn hB2 hp2 hwr
 go_enter Try.func56, Try.ntmps56
 go_wp2_with fail
 refine region_K 99 (fun _ => True) (by kernel_rfl) trivial (fun hHeld => ?_)
 have HV := hid ((Still.drew w).below w.heap.size)
 generalize w.drew = v0 at *
 refine anyK_take2 (i := 0) (v := ?v0_1) rfl (by kernel_rfl) (by kernel_rfl) (by kernel_rfl) (by rfl) (fun _ _ _ h => h) (by rfl) hHeld ?hy0_1 (some 5) (by rfl) ?rest0_1
 case hy0_1 => (intro W hSw; go_simp; (try with_reducible rfl))
 try simp only [Act.put, List.setIfInBounds_toArray, List.set_cons_succ, List.set_cons_zero]
 refine anyK_take2 (i := 1) (v := ?v1_2) rfl (by kernel_rfl) (by kernel_rfl) (by kernel_rfl) (by rfl) (fun _ _ _ h => h) (by rfl) hHeld ?hy1_2 (some 6) (by rfl) ?rest1_2
 case hy1_2 => (intro W hSw; go_simp; (try with_reducible rfl))
 try simp only [Act.put, List.setIfInBounds_toArray, List.set_cons_succ, List.set_cons_zero]
 refine anyK_take2 (i := 2) (v := ?v2_3) rfl (by kernel_rfl) (by kernel_rfl) (by kernel_rfl) (by rfl) (fun _ _ _ h => h) (by rfl) hHeld ?hy2_3 (some 7) (by rfl) ?rest2_3
 case hy2_3 => (intro W hSw; go_simp; (try with_reducible rfl))
 try simp only [Act.put, List.setIfInBounds_toArray, List.set_cons_succ, List.set_cons_zero]
 refine anyK_take2 (i := 3) (v := ?v3_4) rfl (by kernel_rfl) (by kernel_rfl) (by kernel_rfl) (by rfl) (fun _ _ _ h => h) (by rfl) hHeld ?hy3_4 (some 8) (by rfl) ?rest3_4
 case hy3_4 => (intro W hSw; go_simp; (try with_reducible rfl))
 try simp only [Act.put, List.setIfInBounds_toArray, List.set_cons_succ, List.set_cons_zero]
 refine anyK_take2 (i := 4) (v := ?v4_5) rfl (by kernel_rfl) (by kernel_rfl) (by kernel_rfl) (by rfl) (fun _ _ _ h => h) (by rfl) hHeld ?hy4_5 (some 9) (by rfl) ?rest4_5
 case hy4_5 => (intro W hSw; go_simp; (try with_reducible rfl))
 try simp only [Act.put, List.setIfInBounds_toArray, List.set_cons_succ, List.set_cons_zero]
 refine anyK_take2 (i := 5) (v := ?v5_6) rfl (by kernel_rfl) (by kernel_rfl) (by kernel_rfl) (by rfl) (fun _ _ _ h => h) (by rfl) hHeld ?hy5_6 (some 10) (by rfl) ?rest5_6
 case hy5_6 => (intro W hSw; go_simp; (try with_reducible rfl))
 try simp only [Act.put, List.setIfInBounds_toArray, List.set_cons_succ, List.set_cons_zero]
 refine anyK_take2 (i := 6) (v := .slice (some p2) (n - (k + 1)) (c - (k + 1))) rfl (by kernel_rfl) (by kernel_rfl) (by kernel_rfl) (by rfl) (fun _ _ _ h => h) (by rfl) hHeld ?hy66 (some 11) (by rfl) ?rest66
 case hy66 => (intro W hSw; go_simp; rw [HWr.out, Int.toNat_natCast, if_pos ⟨by omega, by omega⟩, HP2.out])
 try simp only [Act.put, List.setIfInBounds_toArray, List.set_cons_succ, List.set_cons_zero]
 refine anyK_step (i := 7) (by kernel_rfl) rfl (fun KP hK => ?_)
 go_simp
 have HBA := hid (Below.alloc1 v0 (.cells #[.slice (some ⟨b, off, none⟩) k c, .slice (some p2) (n - (k + 1)) (c - (k + 1))] 82))
 have HN2 := hid (heap_alloc_new v0 (.cells #[.slice (some ⟨b, off, none⟩) k c, .slice (some p2) (n - (k + 1)) (c - (k + 1))] 82))
 clear hHeld
 refine hK.out _ _ trivial (fun hHeld => ?_)
 clear hK KP
 try simp only [Act.put, List.setIfInBounds_toArray, List.set_cons_succ, List.set_cons_zero]
 generalize v0.alloc (.cells #[.slice (some ⟨b, off, none⟩) k c, .slice (some p2) (n - (k + 1)) (c - (k + 1))] 82) = v1 at *
 refine anyK_step (i := 8) (by kernel_rfl) rfl (fun KP hK => ?_)
 go_simp
 have HB1w := hid (HV.out.trans (HBA.out.mono HV.out.size))
 have HW1 := hid (HW.out.trans (HB1w.out.mono HW.out.size))
 refine (concat_ents v0.heap.size (HA.out.below HW1.out) (HB.out.below HW1.out) HA1.out HB1.out (by omega) (by omega) (by rw [cell_of_row _ _ _ _ _ _ HN2.out]; rfl) (by rw [cell_of_row _ _ _ _ _ _ HN2.out]; rfl)).mono ?_
 rintro e v2 ⟨a', c', rfl, o2, b2⟩
 rw [show k + (n - (k + 1)) = n - 1 by omega] at o2 ⊢
 rw [HEr.out] at o2
 have HBz := hid (HB1w.out.trans (b2.mono HB1w.out.size))
 have hv1 := HB1w.out.size
 have HFin := hid (show ∀ W, Below w0.heap.size w0 W → (∀ q, w.heap.size ≤ q → q < v2.heap.size → W.heap[q]? = v2.heap[q]?) → ReadsE W a' (es.eraseIdx k) from fun W hWb hWa => by
  have hle : (es.eraseIdx k).length = n - 1 := by have := HN.out; rw [List.length_eraseIdx, if_pos (by omega)]; omega
  refine ⟨?_⟩
  rcases o2.2 with ⟨e0, hz⟩ | ⟨g, cap, cur, e0, _⟩
  · have e1 := (Value.slice.inj e0).2.1; exact .inl (by omega)
  · obtain ⟨e1, -, -⟩ := Value.slice.inj e0
    subst e1
    refine .inr ⟨g, 0, rfl, fun i hi => ?_⟩
    have hxl : (xs.eraseIdx k).length = (es.eraseIdx k).length := by have := HX.out; have := HN.out; rw [List.length_eraseIdx, if_pos (by omega)]; omega
    have hgl := o2.lt g rfl
    have hcc := fun j (hj : j < 5) => (World.cell?_of_block (w := v2) (a := ⟨g, i * 5 + j, none⟩) (hWa g (by omega) hgl.2)).trans <| (o2.cellAt (i * 5 + j) (by omega)).trans (cellsE_at _ _ i j hxl hi hj)
    obtain ⟨i', hi', e1, e2⟩ : ∃ i', i' < es.length ∧ (es.eraseIdx k).getD i en0 = es.getD i' en0 ∧ (xs.eraseIdx k).getD i nilS = xs.getD i' nilS := by
     have := HN.out
     by_cases hik : i < k
     · exact ⟨i, by omega, by simp [List.getD, List.getElem?_eraseIdx, hik], by simp [List.getD, List.getElem?_eraseIdx, hik]⟩
     · exact ⟨i + 1, by omega, by simp [List.getD, List.getElem?_eraseIdx, hik], by simp [List.getD, List.getElem?_eraseIdx, hik]⟩
    rw [e1, e2] at hcc
    rw [e1]
    refine ⟨xs.getD i' nilS, ⟨?_, ?_, ?_, ?_, ?_⟩, (HRow.out i' hi').1.below hWb (Nat.le_refl _), (HRow.out i' hi').2⟩
    · have := hcc 0 (by omega); rw [Nat.zero_add]; exact this
    · have := hcc 1 (by omega); rw [Nat.zero_add]; exact this
    · have := hcc 2 (by omega); rw [Nat.zero_add]; exact this
    · have := hcc 3 (by omega); rw [Nat.zero_add]; exact this
    · have := hcc 4 (by omega); rw [Nat.zero_add]; exact this)
 clear o2 b2 hHeld hv1
 go_wp2_with fail
 refine hK.out _ _ trivial (fun hHeld => ?_)
 clear hK KP
 try simp only [Act.put, List.setIfInBounds_toArray, List.set_cons_succ, List.set_cons_zero]
 refine anyK_take2 (i := 9) (v := ?v9_7) rfl (by kernel_rfl) (by kernel_rfl) (by kernel_rfl) (by rfl) (fun _ _ _ h => h) (by rfl) hHeld ?hy9_7 (some 4) (by rfl) ?rest9_7
 case hy9_7 => (intro W hSw; go_simp; (try with_reducible rfl))
 try simp only [Act.put, List.setIfInBounds_toArray, List.set_cons_succ, List.set_cons_zero]
 refine anyK_done (by kernel_rfl) ?_ _
 clear hHeld
 go_wp2_with fail
 go_ret
 exact ⟨_, _, rfl, HFin.out, HBz.out⟩
end Go.Proofs.Ytphmlndkjgldkaa
/- Entries, numbers and nodes of the call's own, told by the types of their blocks: they stay where blocks of other types turn. No statement of its own; no conditions. -/


namespace Go.Proofs.Ytphmlndkjgldkaa
open Go.RowKit
set_option maxRecDepth 100000
def NTy (w : World) (k : Nat) : Prop := ∃ cs t fz, w.heap[k]? = some (.cells cs t fz) ∧ (t = 67 ∨ t = 26)
def KN (w w' : World) : Prop := Kept (NTy w) w w'
theorem KN.trans {a b c : World} (h : KN a b) (k : KN b c) : KN a c := by
 refine Kept.trans h k (fun i hi hx => ?_)
 by_cases hn : NTy a i
 · exact hn
 · obtain ⟨cs, t, fz, e, ht⟩ := hx
   exact ⟨cs, t, fz, (h.block i hi hn).symm.trans e, ht⟩
theorem KN.below {w w' : World} (h : Below w.heap.size w w') : KN w w' := Kept.of_below h
theorem KN.set {w : World} {p : Addr} {cs : Array Value} {t : TypeId} {fz : Nat × Nat} (h : w.heap[p.block]? = some (.cells cs t fz)) (ht : t = 67 ∨ t = 26) (u : Value) : KN w (w.setCell p u) := Kept.set w ⟨cs, t, fz, h, ht⟩ u
theorem KN.grown {w w' : World} {row : Option Nat} (h : w.grownBy w' row) (hr : ∀ k, row = some k → NTy w k) : KN w w' := (Kept.of_grown h).mono (fun k _ e => hr k e.symm)
theorem own_KN {w w' : World} {b : Nat} {e : TypeId} {s n : Nat} {v : Value} {xs : List Value} (h : w.ownsRow b e s v n xs) (he : e ≠ 67 ∧ e ≠ 26) (k : KN w w') : w'.ownsRow b e s v n xs := by
 refine ⟨h.1, ?_⟩
 rcases h.2 with hn | ⟨g, cap, cur, rfl, hb, hg, rest⟩
 · exact .inl hn
 · refine .inr ⟨g, cap, cur, rfl, hb, (k.block g (Array.getElem?_eq_some_iff.1 hg).1 ?_).trans hg, rest⟩
   rintro ⟨cs, t, fz, e2, ht⟩
   rw [hg] at e2
   simp only [Option.some.injEq, Obj.cells.injEq] at e2
   rcases ht with ht | ht
   · exact he.1 (e2.2.1.trans ht)
   · exact he.2 (e2.2.1.trans ht)
structure TxR (w : World) (x : Value) (Z : List Int) : Prop where
 own : ∃ b, w.ownsRow b 5 1 x Z.length (bys Z)
 bd : ∀ i, 0 ≤ Z.getD i 0 ∧ Z.getD i 0 ≤ 255
theorem TxR.kn {w w' : World} {x : Value} {Z : List Int} (h : TxR w x Z) (k : KN w w') : TxR w' x Z := by
 obtain ⟨b, o⟩ := h.own
 exact ⟨⟨b, own_KN o ⟨by decide, by decide⟩ k⟩, h.bd⟩
theorem TxR.row {w : World} {x : Value} {Z : List Int} (h : TxR w x Z) : Row w x Z := by
 obtain ⟨b, o⟩ := h.own
 exact Row.own o h.bd
structure EnR (w : World) (b : Nat) (v : Value) (es : List En) (xs : List Value) : Prop where
 len : xs.length = es.length
 own : w.ownsRow b 35 5 v es.length (cellsE es xs)
 tx : ∀ i, i < es.length → TxR w (xs.getD i nilS) (es.getD i en0).Z ∧ (es.getD i en0).F < 18446744073709551616
theorem EnR.kn {w w' : World} {b : Nat} {v : Value} {es : List En} {xs : List Value} (h : EnR w b v es xs) (k : KN w w') : EnR w' b v es xs :=
 ⟨h.len, own_KN h.own ⟨by decide, by decide⟩ k, fun i hi => ⟨(h.tx i hi).1.kn k, (h.tx i hi).2⟩⟩
theorem EnR.rd {w : World} {b : Nat} {a : Option Addr} {n c : Nat} {es : List En} {xs : List Value} (h : EnR w b (.slice a n c) es xs) : ReadsE w a es := by
 have o := h.own
 rcases o.2 with ⟨e, h0⟩ | ⟨g, cap, cur, e, _⟩
 · cases e; exact ⟨.inl h0⟩
 · cases e
   refine ⟨.inr ⟨g, 0, rfl, fun i hi => ⟨xs.getD i nilS, ?_, (h.tx i hi).1.row, (h.tx i hi).2⟩⟩⟩
   have hc := fun j (hj : j < 5) => (o.cellAt (i * 5 + j) (by omega)).trans (cellsE_at es xs i j h.len hi hj)
   rw [Nat.zero_add]
   exact ⟨hc 0 (by omega), hc 1 (by omega), hc 2 (by omega), hc 3 (by omega), hc 4 (by omega)⟩
theorem OwnE.enr {w : World} {lo hi : Nat} {v : Value} {es : List En} (h : OwnE w lo hi v es) : ∃ xs, EnR w lo v es xs := by
 obtain ⟨xs, o, hB⟩ := h.own
 refine ⟨xs, by rw [hB.len, textsE_len], o, fun i hi => ⟨⟨⟨lo, ?_⟩, fun j => ?_⟩, h.fl i⟩⟩
 · have := hB.own i; rw [textsE_at] at this; exact this
 · have := hB.bd i j; rw [textsE_at] at this; exact this
structure InR (w : World) (v : Value) (ks : List Int) : Prop where
 own : ∃ b, w.ownsRow b 3 1 v ks.length (ins ks)
 bd : ∀ i, -9223372036854775808 ≤ ks.getD i 0 ∧ ks.getD i 0 ≤ 9223372036854775807
theorem InR.kn {w w' : World} {v : Value} {ks : List Int} (h : InR w v ks) (k : KN w w') : InR w' v ks := by
 obtain ⟨b, o⟩ := h.own
 exact ⟨⟨b, own_KN o ⟨by decide, by decide⟩ k⟩, h.bd⟩
theorem InR.rd {w : World} {a : Option Addr} {n c : Nat} {ks : List Int} (h : InR w (.slice a n c) ks) : ReadsI w a ks.length ks := by
 obtain ⟨b, o⟩ := h.own
 obtain ⟨a', c', e, r, _⟩ := ReadsI.own o h.bd
 obtain ⟨rfl, _, _⟩ := Value.slice.inj e
 exact r
structure NdR (w : World) (y : Value × Value) (d : Nd) : Prop where
 es : ∃ b xs, EnR w b y.1 d.es xs
 ks : InR w y.2 d.ks
theorem NdR.kn {w w' : World} {y : Value × Value} {d : Nd} (h : NdR w y d) (k : KN w w') : NdR w' y d := by
 obtain ⟨b, xs, h1⟩ := h.es
 exact ⟨⟨b, xs, h1.kn k⟩, h.ks.kn k⟩
structure NsR (w : World) (b : Nat) (v : Value) (ds : List Nd) (ys : List (Value × Value)) : Prop where
 len : ys.length = ds.length
 own : w.ownsRow b 67 3 v ds.length (cellsD ds ys)
 nd : ∀ i, i < ds.length → NdR w (ys.getD i nilP) (ds.getD i nd0)
theorem NsR.below {w w' : World} {b : Nat} {v : Value} {ds : List Nd} {ys : List (Value × Value)} (h : NsR w b v ds ys) (hb : Below w.heap.size w w') : NsR w' b v ds ys :=
 ⟨h.len, owns_below hb (Nat.le_refl _) h.own, fun i hi => (h.nd i hi).kn (KN.below hb)⟩
theorem NsR.rd {w : World} {b : Nat} {a : Option Addr} {n c : Nat} {ds : List Nd} {ys : List (Value × Value)} (h : NsR w b (.slice a n c) ds ys) : ReadsD w a ds := by
 have o := h.own
 rcases o.2 with ⟨e, h0⟩ | ⟨g, cap, cur, e, _⟩
 · cases e; exact ⟨.inl h0⟩
 · cases e
   refine ⟨.inr ⟨g, 0, rfl, fun i hi => ?_⟩⟩
   have hc := fun j (hj : j < 3) => (o.cellAt (i * 3 + j) (by omega)).trans (cellsD_at ds ys i j h.len hi hj)
   obtain ⟨b1, xs, oE⟩ := (h.nd i hi).es
   have oK := (h.nd i hi).ks
   obtain ⟨b2, o2⟩ := oK.own
   obtain ⟨a1, c1, e1⟩ := own_sl oE.own
   obtain ⟨a2, c2, e2⟩ := own_sl o2
   have hx0 := hc 0 (by omega)
   have hx1 := hc 1 (by omega)
   have hx2 := hc 2 (by omega)
   rw [show (cellsD1 (ds.getD i nd0) (ys.getD i nilP))[1]? = some (ys.getD i nilP).1 from rfl, e1] at hx1
   rw [show (cellsD1 (ds.getD i nd0) (ys.getD i nilP))[2]? = some (ys.getD i nilP).2 from rfl, e2] at hx2
   rw [e1] at oE
   rw [e2] at oK o2
   refine ⟨a1, c1, a2, c2, ?_, ?_, ?_, oE.rd, own_max oE.own, oK.rd, own_max o2⟩
   · rw [Nat.zero_add]; exact hx0
   · rw [Nat.zero_add]; exact hx1
   · rw [Nat.zero_add]; exact hx2
theorem NsR.push {w w' : World} {b : Nat} {v v' : Value} {ds : List Nd} {ys : List (Value × Value)} (h : NsR w b v ds ys) {y : Value × Value} {d : Nd} (hn : NdR w y d) (o : w'.ownsRow b 67 3 v' (ds.length + 1) (cellsD ds ys ++ cellsD1 d y)) (hg : w.grownBy w' v.ownBlock) : NsR w' b v' (ds ++ [d]) (ys ++ [y]) := by
 have kn : KN w w' := KN.grown hg (fun k hk => by
  rcases h.own.2 with ⟨e, _⟩ | ⟨g', cp, cu, e, _, hh, _⟩
  · rw [e] at hk; cases hk
  · rw [e] at hk
    have : g' = k := by simpa [Value.ownBlock] using hk
    subst this
    exact ⟨_, _, _, hh, .inl rfl⟩)
 refine ⟨by simp [h.len], ?_, fun i hi => ?_⟩
 · rw [cellsD_app ds [d] ys [y] h.len, List.length_append, List.length_singleton, cellsD_cons, cellsD_nil, List.append_nil]
   exact o
 · rw [List.length_append, List.length_singleton] at hi
   by_cases hc : i < ds.length
   · rw [getD_app, getD_app, if_pos (by rw [h.len]; exact hc), if_pos hc]; exact (h.nd i hc).kn kn
   · rw [getD_app, getD_app, if_neg (by rw [h.len]; omega), if_neg hc, h.len, show i - ds.length = 0 by omega]
     exact hn.kn kn
end Go.Proofs.Ytphmlndkjgldkaa
/- Whether a step is behind an entry. Conditions: at most four entries, texts of at most 2^21 bytes. -/

namespace Go.Proofs.Ytphmlndkjgldkaa
open Go.RowKit
set_option maxRecDepth 100000
def nullE (x q : En) : Bool := decide (or2 (cmpE x q) (cmpZ x.id q.id) = 0)
theorem null_off {x q : En} (hx : entOk x = true) (hq : entOk q = true) : nullE x q = !offE q x := by
 have h1 := ltE_iff hx hq
 have h2 := ltE_iff hq hx
 have e : nullE x q = true ↔ (¬ ltP x q ∧ ¬ ltP q x) := by
  unfold nullE or2 cmpZ cmpE
  rw [cmpI_of11 x.K x.N q.K q.N x.F q.F x.Z.length q.Z.length x.Z q.Z (entOk_I hx) (entOk_I hq), decide_eq_true_iff]
  have ha := txt_anti11 x.Z q.Z
  unfold ltP
  rw [ha]
  unfold cmp3
  generalize txt x.Z q.Z = t
  generalize frank x.F = r
  generalize frank q.F = s
  repeat' split
  all_goals omega
 rw [Bool.eq_iff_iff, e, Bool.not_eq_true', off_no, ← h1, ← h2, Bool.not_eq_true, Bool.not_eq_true]
set_option maxHeartbeats 6400000 in
theorem impl_isBehind {w0 : World} (KQ NQ : Int) (FQ : Nat) {aq : Option Addr} {zq : Nat} (cq : Nat) (iq : Int) {ZQ : List Int} (hq : Reads w0 aq zq ZQ) (hqq : ZQ.length = zq ∧ FQ < 18446744073709551616 ∧ zq ≤ 2097152) {es : List En} {a : Option Addr} {n c : Nat} {kv : Value} {x : Int} {lf : Bool} {g : Nat} (up : Nat) {w : World} (hr : ReadsE w0 a es) (hn : es.length = n) (hn4 : n ≤ 4) (hm : ∀ j, (es.getD j en0).Z.length ≤ 2097152) (hup : up ≤ n) (hw : Below w0.heap.size w0 w) (hg : w.heap[g]? = some (.cells #[.int .i64 x, .bool lf, .slice a n c, kv] 86)) :
 Calls Try.prog 55 #[.agg #[.pointer (some ⟨g, 0, none⟩), .int .i64 (up : Int)], .agg #[.int .i64 KQ, .int .i64 NQ, .float .f64 FQ, .slice aq zq cq, .int .i64 iq]] w fun e w' => e = .returned (.bool (decide (0 < up) && nullE (es.getD (up - 1) en0) ⟨KQ, NQ, FQ, ZQ, iq⟩)) ∧ Below w.heap.size w w' := by
 have hst := fun w a m => run_store Try.prog w a (.float .f64 FQ) m rfl
 have HB := hid (two w (.cells #[.pointer (some ⟨g, 0, none⟩), .int .i64 (up : Int)] 80) (.cells #[.int .i64 KQ, .int .i64 NQ, .float .f64 FQ, .slice aq zq cq, .int .i64 iq] 35))
 have HRR := hid (two_rows11 w (.cells #[.pointer (some ⟨g, 0, none⟩), .int .i64 (up : Int)] 80) (.cells #[.int .i64 KQ, .int .i64 NQ, .float .f64 FQ, .slice aq zq cq, .int .i64 iq] 35))
 have HW := hid hw
 have HG := hid hg
 have hgl : g < w.heap.size := (Array.getElem?_eq_some_iff.1 hg).1
 have HGl := hid hgl
 have HN := hid hn
 obtain ⟨RES, hres⟩ : ∃ RES, (decide (0 < up) && nullE (es.getD (up - 1) en0) ⟨KQ, NQ, FQ, ZQ, iq⟩) = RES := ⟨_, rfl⟩
 rw [hres]
 have HRes := hid hres
 clear hw hg hgl hn hres
 go_enter Try.func55, Try.ntmps55
 go_wp2_with fail
 generalize (w.alloc (.cells #[.pointer (some ⟨g, 0, none⟩), .int .i64 (up : Int)] 80)).alloc (.cells #[.int .i64 KQ, .int .i64 NQ, .float .f64 FQ, .slice aq zq cq, .int .i64 iq] 35) = V at *
 obtain ⟨p1, hp1⟩ : ∃ p1, w.heap.size + 1 = p1 := ⟨_, rfl⟩
 obtain ⟨p0, hp0⟩ : ∃ p0, w.heap.size = p0 := ⟨_, rfl⟩
 have HP := hid (And.intro hp0 hp1)
 rw [hp1] at HRR
 rw [hp0] at HRR
 try simp only [hp1]
 try simp only [hp0]
 clear hp0 hp1
 have HKp := hid (show ∀ W, Below V.heap.size V W → W.cell? ⟨p0, 0, none⟩ = some (.pointer (some ⟨g, 0, none⟩)) ∧ W.cell? ⟨p0, 1, none⟩ = some (.int .i64 (up : Int)) ∧ W.cell? ⟨p1, 0, none⟩ = some (.int .i64 KQ) ∧ W.cell? ⟨p1, 1, none⟩ = some (.int .i64 NQ) ∧ W.cell? ⟨p1, 2, none⟩ = some (.float .f64 FQ) ∧ W.cell? ⟨p1, 3, none⟩ = some (.slice aq zq cq) ∧ W.cell? ⟨p1, 4, none⟩ = some (.int .i64 iq) ∧ W.cell? ⟨g, 2, none⟩ = some (.slice a n c) from fun W b => by
  have z1 := HGl.out
  have z2 := HP.out
  have z3 := HRR.out.2.2
  have r1 : W.heap[p0]? = _ := (b.block p0 (by omega)).trans HRR.out.1
  have r2 : W.heap[p1]? = _ := (b.block p1 (by omega)).trans HRR.out.2.1
  have r3 : W.heap[g]? = _ := ((HB.out.trans (b.mono HB.out.size)).block g (by omega)).trans HG.out
  exact ⟨by rw [cell_of_row _ _ _ _ _ _ r1]; rfl, by rw [cell_of_row _ _ _ _ _ _ r1]; rfl, by rw [cell_of_row _ _ _ _ _ _ r2]; rfl, by rw [cell_of_row _ _ _ _ _ _ r2]; rfl, by rw [cell_of_row _ _ _ _ _ _ r2]; rfl, by rw [cell_of_row _ _ _ _ _ _ r2]; rfl, by rw [cell_of_row _ _ _ _ _ _ r2]; rfl, by rw [cell_of_row _ _ _ _ _ _ r3]; rfl⟩)
 have BC := hid ((Still.drew V).below V.heap.size)
 cases up with
 | zero =>
  refine region_K 99 (fun W => W.cell? ⟨p0, 0, none⟩ = some (.pointer (some ⟨g, 0, none⟩)) ∧ W.cell? ⟨p0, 1, none⟩ = some (.int .i64 ((0 : Nat) : Int))) (by kernel_rfl) ⟨(HKp.out _ BC.out).1, (HKp.out _ BC.out).2.1⟩ (fun hHeld => ?_)
  generalize V.drew = vd at *
  refine anyK_take2 (i := 0) (v := ?v0_1) rfl (by kernel_rfl) (by kernel_rfl) (by kernel_rfl) (by rfl) (fun _ _ _ h => h) (by rfl) hHeld ?hy0_1 (some 5) (by rfl) ?rest0_1
  case hy0_1 => (intro W hSw; obtain ⟨x0, x1⟩ := hSw; go_simp; (try with_reducible rfl))
  try simp only [Act.put, List.setIfInBounds_toArray, List.set_cons_succ, List.set_cons_zero]
  refine anyK_take2 (i := 1) (v := ?v1_2) rfl (by kernel_rfl) (by kernel_rfl) (by kernel_rfl) (by rfl) (fun _ _ _ h => h) (by rfl) hHeld ?hy1_2 (some 6) (by rfl) ?rest1_2
  case hy1_2 => (intro W hSw; obtain ⟨x0, x1⟩ := hSw; go_simp; (try with_reducible rfl))
  try simp only [Act.put, List.setIfInBounds_toArray, List.set_cons_succ, List.set_cons_zero]
  refine anyK_take2 (i := 2) (v := ?v2_3) rfl (by kernel_rfl) (by kernel_rfl) (by kernel_rfl) (by rfl) (fun _ _ _ h => h) (by rfl) hHeld ?hy2_3 (some 7) (by rfl) ?rest2_3
  case hy2_3 => (intro W hSw; obtain ⟨x0, x1⟩ := hSw; go_simp; (try with_reducible rfl))
  try simp only [Act.put, List.setIfInBounds_toArray, List.set_cons_succ, List.set_cons_zero]
  refine anyK_take2 (i := 3) (v := ?v3_4) rfl (by kernel_rfl) (by kernel_rfl) (by kernel_rfl) (by rfl) (fun _ _ _ h => h) (by rfl) hHeld ?hy3_4 (some 8) (by rfl) ?rest3_4
  case hy3_4 => (intro W hSw; obtain ⟨x0, x1⟩ := hSw; go_simp; (try with_reducible rfl))
  try simp only [Act.put, List.setIfInBounds_toArray, List.set_cons_succ, List.set_cons_zero]
  refine anyK_skip (i := 4) rfl (by kernel_rfl) (by kernel_rfl) (by kernel_rfl) (by kernel_rfl) (fun _ _ _ h => h) (by rfl) hHeld (some 9) (by rfl) ?_
  try simp only [Act.put, List.setIfInBounds_toArray, List.set_cons_succ, List.set_cons_zero]
  refine anyK_skip (i := 5) rfl (by kernel_rfl) (by kernel_rfl) (by kernel_rfl) (by kernel_rfl) (fun _ _ _ h => h) (by rfl) hHeld (some 10) (by rfl) ?_
  try simp only [Act.put, List.setIfInBounds_toArray, List.set_cons_succ, List.set_cons_zero]
  refine anyK_skip (i := 6) rfl (by kernel_rfl) (by kernel_rfl) (by kernel_rfl) (by kernel_rfl) (fun _ _ _ h => h) (by rfl) hHeld (some 11) (by rfl) ?_
  try simp only [Act.put, List.setIfInBounds_toArray, List.set_cons_succ, List.set_cons_zero]
  refine anyK_skip (i := 7) rfl (by kernel_rfl) (by kernel_rfl) (by kernel_rfl) (by kernel_rfl) (fun _ _ _ h => h) (by rfl) hHeld (some 12) (by rfl) ?_
  try simp only [Act.put, List.setIfInBounds_toArray, List.set_cons_succ, List.set_cons_zero]
  refine anyK_skip (i := 8) rfl (by kernel_rfl) (by kernel_rfl) (by kernel_rfl) (by kernel_rfl) (fun _ _ _ h => h) (by rfl) hHeld (some 13) (by rfl) ?_
  try simp only [Act.put, List.setIfInBounds_toArray, List.set_cons_succ, List.set_cons_zero]
  refine anyK_skip (i := 9) rfl (by kernel_rfl) (by kernel_rfl) (by kernel_rfl) (by kernel_rfl) (fun _ _ _ h => h) (by rfl) hHeld (some 14) (by rfl) ?_
  try simp only [Act.put, List.setIfInBounds_toArray, List.set_cons_succ, List.set_cons_zero]
  refine anyK_skip (i := 10) rfl (by kernel_rfl) (by kernel_rfl) (by kernel_rfl) (by kernel_rfl) (fun _ _ _ h => h) (by rfl) hHeld (some 15) (by rfl) ?_
  try simp only [Act.put, List.setIfInBounds_toArray, List.set_cons_succ, List.set_cons_zero]
  refine anyK_skip (i := 11) rfl (by kernel_rfl) (by kernel_rfl) (by kernel_rfl) (by kernel_rfl) (fun _ _ _ h => h) (by rfl) hHeld (some 16) (by rfl) ?_
  try simp only [Act.put, List.setIfInBounds_toArray, List.set_cons_succ, List.set_cons_zero]
  refine anyK_skip (i := 12) rfl (by kernel_rfl) (by kernel_rfl) (by kernel_rfl) (by kernel_rfl) (fun _ _ _ h => h) (by rfl) hHeld (some 17) (by rfl) ?_
  try simp only [Act.put, List.setIfInBounds_toArray, List.set_cons_succ, List.set_cons_zero]
  refine anyK_skip (i := 13) rfl (by kernel_rfl) (by kernel_rfl) (by kernel_rfl) (by kernel_rfl) (fun _ _ _ h => h) (by rfl) hHeld (some 18) (by rfl) ?_
  try simp only [Act.put, List.setIfInBounds_toArray, List.set_cons_succ, List.set_cons_zero]
  refine anyK_skip (i := 14) rfl (by kernel_rfl) (by kernel_rfl) (by kernel_rfl) (by kernel_rfl) (fun _ _ _ h => h) (by rfl) hHeld (some 19) (by rfl) ?_
  try simp only [Act.put, List.setIfInBounds_toArray, List.set_cons_succ, List.set_cons_zero]
  refine anyK_skip (i := 15) rfl (by kernel_rfl) (by kernel_rfl) (by kernel_rfl) (by kernel_rfl) (fun _ _ _ h => h) (by rfl) hHeld (some 20) (by rfl) ?_
  try simp only [Act.put, List.setIfInBounds_toArray, List.set_cons_succ, List.set_cons_zero]
  refine anyK_skip (i := 16) rfl (by kernel_rfl) (by kernel_rfl) (by kernel_rfl) (by kernel_rfl) (fun _ _ _ h => h) (by rfl) hHeld (some 21) (by rfl) ?_
  try simp only [Act.put, List.setIfInBounds_toArray, List.set_cons_succ, List.set_cons_zero]
  refine anyK_take2 (i := 17) (v := ?v17_5) rfl (by kernel_rfl) (by kernel_rfl) (by kernel_rfl) (by rfl) (fun _ _ _ h => h) (by rfl) hHeld ?hy17_5 (some 22) (by rfl) ?rest17_5
  case hy17_5 => (intro W hSw; obtain ⟨x0, x1⟩ := hSw; go_simp; (try with_reducible rfl))
  try simp only [Act.put, List.setIfInBounds_toArray, List.set_cons_succ, List.set_cons_zero]
  refine anyK_take2 (i := 18) (v := ?v18_6) rfl (by kernel_rfl) (by kernel_rfl) (by kernel_rfl) (by rfl) (fun _ _ _ h => h) (by rfl) hHeld ?hy18_6 (some 4) (by rfl) ?rest18_6
  case hy18_6 => (intro W hSw; obtain ⟨x0, x1⟩ := hSw; go_simp; (try with_reducible rfl))
  try simp only [Act.put, List.setIfInBounds_toArray, List.set_cons_succ, List.set_cons_zero]
  refine anyK_done (by kernel_rfl) ?_ _
  clear hHeld
  go_wp2_with fail
  go_ret
  exact ⟨by rw [← HRes.out]; rfl, HB.out.trans (BC.out.mono HB.out.size)⟩
 | succ u =>
  have hul : u < es.length := by have := HN.out; omega
  obtain ⟨b, off, a1, c1, rfl, bx, rz, hfz, hmz, hF⟩ := hr.at hul
  have hz1 := hm u
  replace HRes := hid (show nullE (es.getD u en0) ⟨KQ, NQ, FQ, ZQ, iq⟩ = RES by have := HRes.out; rwa [decide_eq_true (by omega), Bool.true_and, show u + 1 - 1 = u by omega] at this)
  have HU := hid (show u < n by omega)
  obtain ⟨at1, hat⟩ : ∃ at1, u + 1 = at1 := ⟨_, rfl⟩
  rw [hat] at HKp ⊢
  have h0 : (0 : Int) < (at1 : Int) := by omega
  have h0n : 0 < at1 := by omega
  have h0d : decide (0 < at1) = true := decide_eq_true h0n
  have hwr : IntKind.i64.wrap ((at1 : Int) - 1) = (u : Int) := by
   rw [show (at1 : Int) - 1 = (u : Int) by omega]; simp [IntKind.wrap, IntKind.bits, IntKind.signed]; omega
  have hui : (u : Int) < (n : Int) := by omega
  have hu0 : (0 : Int) ≤ (u : Int) := by omega
  generalize es.getD u en0 = ee at *
  obtain ⟨K, N, F, Z, id⟩ := ee
  simp only at bx rz hz1 hF
  obtain ⟨z, hz⟩ : ∃ z, Z.length = z := ⟨_, rfl⟩
  rw [hz] at bx rz hz1
  have HZ := hid hz
  have HRz := hid rz
  have hstF := fun w a m => run_store Try.prog w a (.float .f64 F) m rfl
  have HBx := hid bx
  have HKq := hid (show ∀ W, Below V.heap.size V W → (W.cell? ⟨p0, 0, none⟩ = some (.pointer (some ⟨g, 0, none⟩)) ∧ W.cell? ⟨p0, 1, none⟩ = some (.int .i64 (at1 : Int))) ∧ (W.cell? ⟨p1, 0, none⟩ = some (.int .i64 KQ) ∧ W.cell? ⟨p1, 1, none⟩ = some (.int .i64 NQ) ∧ W.cell? ⟨p1, 2, none⟩ = some (.float .f64 FQ) ∧ W.cell? ⟨p1, 3, none⟩ = some (.slice aq zq cq) ∧ W.cell? ⟨p1, 4, none⟩ = some (.int .i64 iq)) ∧ (W.cell? ⟨g, 2, none⟩ = some (.slice (some ⟨b, off, none⟩) n c)) ∧ W.cell? ⟨b, off + u * 5, none⟩ = some (.int .i64 K) ∧ W.cell? ⟨b, off + u * 5 + 1, none⟩ = some (.int .i64 N) ∧ W.cell? ⟨b, off + u * 5 + 2, none⟩ = some (.float .f64 F) ∧ W.cell? ⟨b, off + u * 5 + 3, none⟩ = some (.slice a1 z c1) ∧ W.cell? ⟨b, off + u * 5 + 4, none⟩ = some (.int .i64 id) from fun W bb => by
   obtain ⟨k0, k1, k2, k3, k4, k5, k6, k7⟩ := HKp.out W bb
   obtain ⟨y0, y1, y2, y3, y4⟩ := HBx.out.below (HW.out.trans ((HB.out.trans (bb.mono HB.out.size)).mono HW.out.size)) (Nat.le_refl _)
   exact ⟨⟨k0, k1⟩, ⟨k2, k3, k4, k5, k6⟩, k7, y0, y1, y2, y3, y4⟩)
  clear bx rz hz hat hmz hfz HKp hul
  refine region_K 99 (fun W => (W.cell? ⟨p0, 0, none⟩ = some (.pointer (some ⟨g, 0, none⟩)) ∧ W.cell? ⟨p0, 1, none⟩ = some (.int .i64 (at1 : Int))) ∧ (W.cell? ⟨p1, 0, none⟩ = some (.int .i64 KQ) ∧ W.cell? ⟨p1, 1, none⟩ = some (.int .i64 NQ) ∧ W.cell? ⟨p1, 2, none⟩ = some (.float .f64 FQ) ∧ W.cell? ⟨p1, 3, none⟩ = some (.slice aq zq cq) ∧ W.cell? ⟨p1, 4, none⟩ = some (.int .i64 iq)) ∧ (W.cell? ⟨g, 2, none⟩ = some (.slice (some ⟨b, off, none⟩) n c)) ∧ W.cell? ⟨b, off + u * 5, none⟩ = some (.int .i64 K) ∧ W.cell? ⟨b, off + u * 5 + 1, none⟩ = some (.int .i64 N) ∧ W.cell? ⟨b, off + u * 5 + 2, none⟩ = some (.float .f64 F) ∧ W.cell? ⟨b, off + u * 5 + 3, none⟩ = some (.slice a1 z c1) ∧ W.cell? ⟨b, off + u * 5 + 4, none⟩ = some (.int .i64 id)) (by kernel_rfl) (HKq.out _ BC.out) (fun hHeld => ?_)
  generalize V.drew = vd at *
  refine anyK_take2 (i := 0) (v := ?v0_7) rfl (by kernel_rfl) (by kernel_rfl) (by kernel_rfl) (by rfl) (fun _ _ _ h => h) (by rfl) hHeld ?hy0_7 (some 5) (by rfl) ?rest0_7
  case hy0_7 => (intro W hSw; obtain ⟨⟨x0, x1⟩, ⟨x2, x3, x4, x5, x6⟩, x7, x8, x9, x10, x11, x12⟩ := hSw; go_simp; (try with_reducible rfl))
  try simp only [Act.put, List.setIfInBounds_toArray, List.set_cons_succ, List.set_cons_zero]
  refine anyK_take2 (i := 1) (v := ?v1_8) rfl (by kernel_rfl) (by kernel_rfl) (by kernel_rfl) (by rfl) (fun _ _ _ h => h) (by rfl) hHeld ?hy1_8 (some 6) (by rfl) ?rest1_8
  case hy1_8 => (intro W hSw; obtain ⟨⟨x0, x1⟩, ⟨x2, x3, x4, x5, x6⟩, x7, x8, x9, x10, x11, x12⟩ := hSw; go_simp; (try with_reducible rfl))
  try simp only [Act.put, List.setIfInBounds_toArray, List.set_cons_succ, List.set_cons_zero]
  refine anyK_take2 (i := 2) (v := ?v2_9) rfl (by kernel_rfl) (by kernel_rfl) (by kernel_rfl) (by rfl) (fun _ _ _ h => h) (by rfl) hHeld ?hy2_9 (some 7) (by rfl) ?rest2_9
  case hy2_9 => (intro W hSw; obtain ⟨⟨x0, x1⟩, ⟨x2, x3, x4, x5, x6⟩, x7, x8, x9, x10, x11, x12⟩ := hSw; go_simp; (try with_reducible rfl))
  try simp only [Act.put, List.setIfInBounds_toArray, List.set_cons_succ, List.set_cons_zero]
  try rw [h0d]
  refine anyK_take2 (i := 3) (v := ?v3_10) rfl (by kernel_rfl) (by kernel_rfl) (by kernel_rfl) (by rfl) (fun _ _ _ h => h) (by rfl) hHeld ?hy3_10 (some 8) (by rfl) ?rest3_10
  case hy3_10 => (intro W hSw; obtain ⟨⟨x0, x1⟩, ⟨x2, x3, x4, x5, x6⟩, x7, x8, x9, x10, x11, x12⟩ := hSw; go_simp; (try with_reducible rfl))
  try simp only [Act.put, List.setIfInBounds_toArray, List.set_cons_succ, List.set_cons_zero]
  refine anyK_take2 (i := 4) (v := ?v4_11) rfl (by kernel_rfl) (by kernel_rfl) (by kernel_rfl) (by rfl) (fun _ _ _ h => h) (by rfl) hHeld ?hy4_11 (some 9) (by rfl) ?rest4_11
  case hy4_11 => (intro W hSw; obtain ⟨⟨x0, x1⟩, ⟨x2, x3, x4, x5, x6⟩, x7, x8, x9, x10, x11, x12⟩ := hSw; go_simp; (try with_reducible rfl))
  try simp only [Act.put, List.setIfInBounds_toArray, List.set_cons_succ, List.set_cons_zero]
  refine anyK_take2 (i := 5) (v := ?v5_12) rfl (by kernel_rfl) (by kernel_rfl) (by kernel_rfl) (by rfl) (fun _ _ _ h => h) (by rfl) hHeld ?hy5_12 (some 10) (by rfl) ?rest5_12
  case hy5_12 => (intro W hSw; obtain ⟨⟨x0, x1⟩, ⟨x2, x3, x4, x5, x6⟩, x7, x8, x9, x10, x11, x12⟩ := hSw; go_simp; (try with_reducible rfl))
  try simp only [Act.put, List.setIfInBounds_toArray, List.set_cons_succ, List.set_cons_zero]
  refine anyK_take2 (i := 6) (v := ?v6_13) rfl (by kernel_rfl) (by kernel_rfl) (by kernel_rfl) (by rfl) (fun _ _ _ h => h) (by rfl) hHeld ?hy6_13 (some 11) (by rfl) ?rest6_13
  case hy6_13 => (intro W hSw; obtain ⟨⟨x0, x1⟩, ⟨x2, x3, x4, x5, x6⟩, x7, x8, x9, x10, x11, x12⟩ := hSw; go_simp; (try with_reducible rfl))
  try simp only [Act.put, List.setIfInBounds_toArray, List.set_cons_succ, List.set_cons_zero]
  refine anyK_take2 (i := 7) (v := ?v7_14) rfl (by kernel_rfl) (by kernel_rfl) (by kernel_rfl) (by rfl) (fun _ _ _ h => h) (by rfl) hHeld ?hy7_14 (some 12) (by rfl) ?rest7_14
  case hy7_14 => (intro W hSw; obtain ⟨⟨x0, x1⟩, ⟨x2, x3, x4, x5, x6⟩, x7, x8, x9, x10, x11, x12⟩ := hSw; go_simp; (try with_reducible rfl))
  try simp only [Act.put, List.setIfInBounds_toArray, List.set_cons_succ, List.set_cons_zero]
  refine anyK_take2 (i := 8) (v := ?v8_15) rfl (by kernel_rfl) (by kernel_rfl) (by kernel_rfl) (by rfl) (fun _ _ _ h => h) (by rfl) hHeld ?hy8_15 (some 13) (by rfl) ?rest8_15
  case hy8_15 => (intro W hSw; obtain ⟨⟨x0, x1⟩, ⟨x2, x3, x4, x5, x6⟩, x7, x8, x9, x10, x11, x12⟩ := hSw; go_simp; (try with_reducible rfl))
  try simp only [Act.put, List.setIfInBounds_toArray, List.set_cons_succ, List.set_cons_zero]
  refine anyK_take2 (i := 9) (v := ?v9_16) rfl (by kernel_rfl) (by kernel_rfl) (by kernel_rfl) (by rfl) (fun _ _ _ h => h) (by rfl) hHeld ?hy9_16 (some 14) (by rfl) ?rest9_16
  case hy9_16 => (intro W hSw; obtain ⟨⟨x0, x1⟩, ⟨x2, x3, x4, x5, x6⟩, x7, x8, x9, x10, x11, x12⟩ := hSw; go_simp; (try with_reducible rfl))
  try simp only [Act.put, List.setIfInBounds_toArray, List.set_cons_succ, List.set_cons_zero]
  refine anyK_take2 (i := 10) (v := ?v10_17) rfl (by kernel_rfl) (by kernel_rfl) (by kernel_rfl) (by rfl) (fun _ _ _ h => h) (by rfl) hHeld ?hy10_17 (some 15) (by rfl) ?rest10_17
  case hy10_17 => (intro W hSw; obtain ⟨⟨x0, x1⟩, ⟨x2, x3, x4, x5, x6⟩, x7, x8, x9, x10, x11, x12⟩ := hSw; go_simp; (try with_reducible rfl))
  try simp only [Act.put, List.setIfInBounds_toArray, List.set_cons_succ, List.set_cons_zero]
  refine anyK_take2 (i := 11) (v := ?v11_18) rfl (by kernel_rfl) (by kernel_rfl) (by kernel_rfl) (by rfl) (fun _ _ _ h => h) (by rfl) hHeld ?hy11_18 (some 16) (by rfl) ?rest11_18
  case hy11_18 => (intro W hSw; obtain ⟨⟨x0, x1⟩, ⟨x2, x3, x4, x5, x6⟩, x7, x8, x9, x10, x11, x12⟩ := hSw; go_simp; (try with_reducible rfl))
  try simp only [Act.put, List.setIfInBounds_toArray, List.set_cons_succ, List.set_cons_zero]
  refine anyK_take2 (i := 12) (v := ?v12_19) rfl (by kernel_rfl) (by kernel_rfl) (by kernel_rfl) (by rfl) (fun _ _ _ h => h) (by rfl) hHeld ?hy12_19 (some 17) (by rfl) ?rest12_19
  case hy12_19 => (intro W hSw; obtain ⟨⟨x0, x1⟩, ⟨x2, x3, x4, x5, x6⟩, x7, x8, x9, x10, x11, x12⟩ := hSw; go_simp; (try with_reducible rfl))
  try simp only [Act.put, List.setIfInBounds_toArray, List.set_cons_succ, List.set_cons_zero]
  refine anyK_take2 (i := 13) (v := ?v13_20) rfl (by kernel_rfl) (by kernel_rfl) (by kernel_rfl) (by rfl) (fun _ _ _ h => h) (by rfl) hHeld ?hy13_20 (some 18) (by rfl) ?rest13_20
  case hy13_20 => (intro W hSw; obtain ⟨⟨x0, x1⟩, ⟨x2, x3, x4, x5, x6⟩, x7, x8, x9, x10, x11, x12⟩ := hSw; go_simp; (try with_reducible rfl))
  try simp only [Act.put, List.setIfInBounds_toArray, List.set_cons_succ, List.set_cons_zero]
  refine anyK_take2 (i := 14) (v := ?v14_21) rfl (by kernel_rfl) (by kernel_rfl) (by kernel_rfl) (by rfl) (fun _ _ _ h => h) (by rfl) hHeld ?hy14_21 (some 19) (by rfl) ?rest14_21
  case hy14_21 => (intro W hSw; obtain ⟨⟨x0, x1⟩, ⟨x2, x3, x4, x5, x6⟩, x7, x8, x9, x10, x11, x12⟩ := hSw; go_simp; (try with_reducible rfl))
  try simp only [Act.put, List.setIfInBounds_toArray, List.set_cons_succ, List.set_cons_zero]
  refine anyK_step (i := 15) (by kernel_rfl) rfl (fun KP hK => ?_)
  go_simp
  have HWv := hid (HW.out.trans ((HB.out.trans (BC.out.mono HB.out.size)).mono HW.out.size))
  refine (impl_compare K N F c1 id KQ NQ FQ cq iq hF hqq.2.1 (HRz.out.below HWv.out (Nat.le_refl _)) (hq.below HWv.out (Nat.le_refl _)) hz1 hqq.2.2).mono ?_
  rintro e v1 ⟨rfl, b1⟩
  replace BC := hid (BC.out.trans (b1.mono BC.out.size))
  have HE := hid (show nullE ⟨K, N, F, Z, id⟩ ⟨KQ, NQ, FQ, ZQ, iq⟩ = decide (or2 (cmpI K N F z Z KQ NQ FQ zq ZQ) (cmpZ id iq) = 0) by unfold nullE cmpE; simp only [HZ.out, hqq.1])
  generalize or2 (cmpI K N F z Z KQ NQ FQ zq ZQ) (cmpZ id iq) = X at *
  clear b1 hHeld HWv
  go_wp2_with fail
  refine hK.out _ _ (HKq.out _ BC.out) (fun hHeld => ?_)
  clear hK KP
  try simp only [Act.put, List.setIfInBounds_toArray, List.set_cons_succ, List.set_cons_zero]
  refine anyK_take2 (i := 16) (v := ?v16_22) rfl (by kernel_rfl) (by kernel_rfl) (by kernel_rfl) (by rfl) (fun _ _ _ h => h) (by rfl) hHeld ?hy16_22 (some 21) (by rfl) ?rest16_22
  case hy16_22 => (intro W hSw; obtain ⟨⟨x0, x1⟩, ⟨x2, x3, x4, x5, x6⟩, x7, x8, x9, x10, x11, x12⟩ := hSw; go_simp; (try with_reducible rfl))
  try simp only [Act.put, List.setIfInBounds_toArray, List.set_cons_succ, List.set_cons_zero]
  refine anyK_take2 (i := 17) (v := ?v17_23) rfl (by kernel_rfl) (by kernel_rfl) (by kernel_rfl) (by rfl) (fun _ _ _ h => h) (by rfl) hHeld ?hy17_23 (some 22) (by rfl) ?rest17_23
  case hy17_23 => (intro W hSw; obtain ⟨⟨x0, x1⟩, ⟨x2, x3, x4, x5, x6⟩, x7, x8, x9, x10, x11, x12⟩ := hSw; go_simp; (try with_reducible rfl))
  try simp only [Act.put, List.setIfInBounds_toArray, List.set_cons_succ, List.set_cons_zero]
  refine anyK_take2 (i := 18) (v := ?v18_24) rfl (by kernel_rfl) (by kernel_rfl) (by kernel_rfl) (by rfl) (fun _ _ _ h => h) (by rfl) hHeld ?hy18_24 (some 4) (by rfl) ?rest18_24
  case hy18_24 => (intro W hSw; obtain ⟨⟨x0, x1⟩, ⟨x2, x3, x4, x5, x6⟩, x7, x8, x9, x10, x11, x12⟩ := hSw; go_simp; (try with_reducible rfl))
  try simp only [Act.put, List.setIfInBounds_toArray, List.set_cons_succ, List.set_cons_zero]
  refine anyK_done (by kernel_rfl) ?_ _
  clear hHeld
  go_wp2_with fail
  go_ret
  exact ⟨by rw [← HRes.out, HE.out]; rfl, HB.out.trans (BC.out.mono HB.out.size)⟩
end Go.Proofs.Ytphmlndkjgldkaa
