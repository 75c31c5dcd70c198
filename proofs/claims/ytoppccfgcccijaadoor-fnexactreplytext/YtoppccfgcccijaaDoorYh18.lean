/- The program's itemOfWord. Conditions: at most 2^21 bytes; the library's variables are as its text lays them. -/
import Derived.Test.YtoppccfgcccijaaDoorYg18
namespace Go.Proofs.YtoppccfgcccijaaDoor
open Go.RowKit
set_option maxRecDepth 100000

theorem cand_text18 {zs L : List Int} (h0 : zs.getD 0 0 = 116) (hL : ∀ Z', byteL Z' → hexB Z' = zs.drop 1 → L = Z') : Cand zs 3 0 0 L := fun K' N' f' Z' hi e => by
  have hK := of_decide_eq_true (show decide (0 ≤ K' ∧ K' ≤ 3 ∧ Z'.length ≤ 40 ∧ (K' = 1 ∨ N' = 0) ∧ (K' = 2 ∨ f' = 0) ∧ (K' = 3 ∨ Z'.length = 0)) = true from hi.ok)
  rcases txtI_head hi.ok with ⟨_, q⟩ | ⟨_, q⟩ | ⟨_, q⟩ | ⟨_, q⟩
  · rw [q] at e; subst e; simp at h0
  · rw [q] at e; subst e; simp at h0
  · rw [q] at e
    subst e
    have hu : L = Z' := hL Z' hi.bz rfl
    subst hu
    unfold txtI
    rw [if_pos (by simp [okI]; omega), if_neg (by omega), if_neg (by omega), if_pos rfl]
  · rw [q] at e; subst e; simp at h0
theorem cand_float18 {zs L : List Int} {y : Nat} (h0 : zs.getD 0 0 = 102) (hL : ∀ Z', byteL Z' → hexB Z' = zs.drop 1 → L = Z') (hy : y = if L.length = 8 then low L else 0) : Cand zs 2 0 y [] := fun K' N' f' Z' hi e => by
  rcases txtI_head hi.ok with ⟨_, q⟩ | ⟨_, q⟩ | ⟨_, q⟩ | ⟨_, q⟩
  · rw [q] at e; subst e; simp at h0
  · rw [q] at e
    subst e
    have hl := fbits_lt f' hi.bf
    have hu : L = hi8 (fbits f') 8 := hL _ (hi8_bd _ 8) rfl
    rw [hu, if_pos (hi8_length _ _), low_hi8 _ hl] at hy
    have hyy : fbits y = fbits f' := by
      rw [hy]
      cases hn : isN (fbits f') with
      | false =>
        unfold fbits
        rw [show isN (if isN f' = true then 9221120237041090560 else f') = false from hn, if_neg (by simp)]
      | true =>
        have hf : fbits f' = 9221120237041090560 := by
          unfold fbits at hn ⊢
          split
          · rfl
          · rename_i q1
            rw [if_neg q1] at hn
            exact absurd hn q1
        rw [hf, fbits, if_pos (by rw [← hf]; exact hn)]
    unfold txtI
    rw [if_pos (by simp [okI]), if_neg (by omega), if_pos rfl, hyy]
  · rw [q] at e; subst e; simp at h0
  · rw [q] at e; subst e; simp at h0
theorem drop_one18 (zs : List Int) (n : Nat) (hn : zs.length = n) : (str zs).extract 1 n = str (zs.drop 1) := by
  apply ByteArray.ext
  simp only [str, ByteArray.data_extract]
  apply Array.toList_inj.1
  rw [Array.toList_extract]
  simp only [List.extract, List.map_drop]
  rw [List.take_of_length_le (by simp; omega)]
theorem first18 (zs : List Int) (hb : byteL zs) (h : 0 < zs.length) (W : World) : (Instr.index 9 (.string (str zs)) (.int .i64 0)).run Tryd.prog W = .ok (.int .u8 (zs.getD 0 0)) W := by
  rw [run_index_string (P := Tryd.prog) W 9 _ .i64 0 Tryd.underlying9]
  cases zs with
  | nil => simp at h
  | cons z r =>
    have hz := hb 0
    simp only [List.getD_cons_zero] at hz
    have e : ((UInt8.ofNat z.toNat).toNat : Int) = z := by rw [UInt8.toNat_ofNat']; omega
    rw [dif_pos (by rw [str_size18]; simp)]
    show Result.ok (Value.int .u8 ((UInt8.ofNat z.toNat).toNat : Int)) W = _
    rw [e]
    rfl
theorem byteL.drop {zs : List Int} (h : byteL zs) : byteL (zs.drop 1) := fun i => by rw [drop1_at]; exact h _
/-- What itemOfWord answers. -/
structure WordI (w : World) (zs : List Int) (K N : Int) (f : Nat) (v : Value) (Z : List Int) (w' : World) : Prop where
  bn : -9223372036854775808 ≤ N ∧ N ≤ 9223372036854775807
  bf : f < 18446744073709551616
  bz : byteL Z
  ln : Z.length ≤ zs.length
  own : w'.ownsRow w.heap.size 5 1 v Z.length (bys Z)
  cand : Cand zs K N f Z
  bel : Below w.heap.size w w'
  emp : zs.length = 0 → txtI K N f Z ≠ []
theorem set_grown18 (w : World) (g : Nat) (cs : Array Value) : w.grownBy (w.setRow g cs) (some g) := ⟨rfl, rfl, rfl, by simp, fun k _ hne => by rw [setRow_other _ _ _ _ (fun e => hne (by rw [e]))]⟩
theorem WordI.fin {w u : World} {zs : List Int} {K N : Int} {f : Nat} {v : Value} {Z : List Int} (bn : -9223372036854775808 ≤ N ∧ N ≤ 9223372036854775807) (bf : f < 18446744073709551616) (bz : byteL Z) (ln : Z.length ≤ zs.length) (own : u.ownsRow (w.heap.size + 1) 5 1 v Z.length (bys Z)) (cand : Cand zs K N f Z) (bel : Below w.heap.size w u) (emp : zs.length = 0 → txtI K N f Z ≠ []) (cs : Array Value) : WordI w zs K N f v Z (u.setRow w.heap.size cs) :=
  ⟨bn, bf, bz, ln, owns_lower (own.kept (set_grown18 u w.heap.size cs) (.inr (fun e => by have := (own.lt _ e).1; omega))) (by omega), cand, below_setRow bel (Nat.le_refl _) cs, emp⟩
theorem nil_owns18 (w : World) (b : Nat) : w.ownsRow b 5 1 (.slice none 0 0) ([] : List Int).length (bys []) := World.ownsRow_nil _ _ _ _
set_option maxHeartbeats 3200000 in
theorem impl_itemOfWord {zs : List Int} (hb : byteL zs) (hl : zs.length ≤ 2097152) {w : World} (h : LibT w) :
    Calls Tryd.prog 38 #[.string (str zs)] w fun e w' => ∃ (K N : Int) (f : Nat) (v : Value) (Z : List Int), e = .returned (.agg #[.int .i64 K, .int .i64 N, .float .f64 f, v]) ∧ WordI w zs K N f v Z w' := by
  have HB0 := hid (Below.alloc1 w (.cells #[.int .i64 0, .int .i64 0, .float .f64 0, .slice none 0 0] 28))
  have HN0 := hid (heap_alloc_new w (.cells #[.int .i64 0, .int .i64 0, .float .f64 0, .slice none 0 0] 28))
  have HZ0 := hid (alloc_size w (.cells #[.int .i64 0, .int .i64 0, .float .f64 0, .slice none 0 0] 28))
  have HT := hid (h.below HB0.out (Nat.le_refl _))
  have HBy := hid hb
  have hst := fun w a m => run_store Tryd.prog w a (.float .f64 0) m rfl
  obtain ⟨m, hm⟩ : ∃ m, zs.length = m := ⟨_, rfl⟩
  by_cases h0 : m = 0
  · obtain rfl : zs = [] := List.eq_nil_of_length_eq_zero (by omega)
    have hemp : (str []).toList.isEmpty = true := by rw [str_list]; rfl
    go_enter Tryd.func38, Tryd.ntmps38
    go_wp2_with fail
    exact bodyPost_ret (results_cell_row Tryd.results38 _ _ w.heap.size 28 #[.int .i64 0, .int .i64 0, .float .f64 0, .slice none 0 0] (0, 0) _ rfl HN0.out Tryd.underlying28 rfl size28) rfl ⟨0, 0, 0, .slice none 0 0, [], rfl, ⟨by omega, by omega, fun i => by simp, by simp, nil_owns18 _ _, cand_none (by simp) (by simp) (by simp), HB0.out, fun _ => by simp [txtI, okI]⟩⟩
  · have hemp : (str zs).toList.isEmpty = false := by
      rw [str_list]
      cases zs with
      | nil => simp at hm; omega
      | cons z r => rfl
    have hidx := first18 zs hb (by omega)
    have hcut := drop_one18 zs m hm
    have hs : (str zs).size = m := by rw [str_size18]; exact hm
    have HDr := hid (byteL.drop hb)
    have HDl := hid (show (zs.drop 1).length ≤ 2097152 by rw [List.length_drop]; omega)
    have HDle := hid (show (zs.drop 1).length ≤ zs.length by rw [List.length_drop]; omega)
    have hz := hb 0
    have HCI := hid (fun X => cand_int (zs := zs) (X := X))
    have HCF := hid (fun L y => cand_float18 (zs := zs) (L := L) (y := y))
    have HCT := hid (fun L => cand_text18 (zs := zs) (L := L))
    have HCN := hid (cand_none (zs := zs))
    generalize zs.drop 1 = ds at *
    generalize zs.getD 0 0 = c at *
    obtain ⟨sd, hsd⟩ : ∃ sd, str zs = sd := ⟨_, rfl⟩
    rw [hsd] at hemp hidx hcut hs ⊢
    have HM := hid hm
    have HE := hid (show ∀ (K N : Int) (f : Nat) (Z : List Int), zs.length = 0 → txtI K N f Z ≠ [] from fun _ _ _ _ e => absurd e (by omega))
    clear hm hsd h hb
    go_enter Tryd.func38, Tryd.ntmps38
    by_cases h1 : c = 105
    · subst h1
      go_wp2_with fail
      refine (impl_Atoi HDl.out HT.out).mono ?_
      rintro e w1 ⟨⟨y, x, hy, ht, rfl, hx⟩, b⟩
      have HB1 := hid (HB0.out.trans (b.mono HB0.out.size))
      have HN1 := hid ((b.block w.heap.size (by have := HZ0.out; omega)).trans HN0.out)
      have HC := hid (HCI.out y (by first | rfl | trivial) ht)
      have HY := hid hy
      clear b ht hy
      go_wp2_with (refine wpList_store_row rfl 28 (.tmp 2) _ rfl w.heap.size #[.int .i64 1, .int .i64 y, .float .f64 0, .slice none 0 0] rfl rfl 28 _ HN1.out size28 rfl (by simp [Value.oneCell']) ?_)
      go_wp2_with fail
      exact bodyPost_ret (results_cell_row Tryd.results38 _ _ w.heap.size 28 #[.int .i64 1, .int .i64 y, .float .f64 0, .slice none 0 0] (0, 0) _ rfl (setRow_heap _ _ _ _ _ _ HN1.out) Tryd.underlying28 rfl size28) rfl ⟨1, y, 0, .slice none 0 0, [], rfl, WordI.fin HY.out (by omega) (fun i => by simp) (by simp) (nil_owns18 _ _) HC.out HB1.out (HE.out _ _ _ _) _⟩
    · by_cases h2 : c = 102
      · subst h2
        go_wp2_with fail
        refine (impl_floatOfWord HDr.out HDl.out HT.out).mono ?_
        rintro e w1 ⟨L, y, rfl, hy, hL, hx, hyy, b⟩
        have hst1 := fun w a m => run_store Tryd.prog w a (.float .f64 y) m rfl
        have HB1 := hid (HB0.out.trans (b.mono HB0.out.size))
        have HN1 := hid ((b.block w.heap.size (by have := HZ0.out; omega)).trans HN0.out)
        have HC := hid (HCF.out L y (by first | rfl | trivial) (fun Z' h1 h2 => hx.hex hL h1 h2) hyy)
        have HY := hid hy
        clear b hx hy hyy hL
        go_wp2_with (refine wpList_store_row rfl 28 (.tmp 2) _ rfl w.heap.size #[.int .i64 2, .int .i64 0, .float .f64 y, .slice none 0 0] rfl rfl 28 _ HN1.out size28 rfl (by simp [Value.oneCell']) ?_)
        go_wp2_with fail
        exact bodyPost_ret (results_cell_row Tryd.results38 _ _ w.heap.size 28 #[.int .i64 2, .int .i64 0, .float .f64 y, .slice none 0 0] (0, 0) _ rfl (setRow_heap _ _ _ _ _ _ HN1.out) Tryd.underlying28 rfl size28) rfl ⟨2, 0, y, .slice none 0 0, [], rfl, WordI.fin (by omega) HY.out (fun i => by simp) (by simp) (nil_owns18 _ _) HC.out HB1.out (HE.out _ _ _ _) _⟩
      · by_cases h3 : c = 116
        · subst h3
          go_wp2_with fail
          refine (impl_bytesOfHex HDr.out HDl.out HT.out).mono ?_
          rintro e w1 ⟨v, L, rfl, hL, hx, o, b⟩
          have HB1 := hid (HB0.out.trans (b.mono HB0.out.size))
          have HN1 := hid ((b.block w.heap.size (by have := HZ0.out; omega)).trans HN0.out)
          have HC := hid (HCT.out L (by first | rfl | trivial) (fun Z' h1 h2 => hx.hex hL h1 h2))
          have HO := hid (owns_lower o (show w.heap.size + 1 ≤ _ by have := HZ0.out; omega))
          have HX := hid hx.bd
          have HL := hid hL
          obtain ⟨ao, co, rfl⟩ := own_sl18 o
          clear b hx o hL
          go_wp2_with (refine wpList_store_row rfl 28 (.tmp 2) _ rfl w.heap.size #[.int .i64 3, .int .i64 0, .float .f64 0, .slice ao L.length co] rfl rfl 28 _ HN1.out size28 rfl (by simp [Value.oneCell']) ?_)
          go_wp2_with fail
          exact bodyPost_ret (results_cell_row Tryd.results38 _ _ w.heap.size 28 #[.int .i64 3, .int .i64 0, .float .f64 0, .slice ao L.length co] (0, 0) _ rfl (setRow_heap _ _ _ _ _ _ HN1.out) Tryd.underlying28 rfl size28) rfl ⟨3, 0, 0, .slice ao L.length co, L, rfl, WordI.fin (by omega) (by omega) HX.out (by have := HL.out; have := HDle.out; have := HM.out; omega) HO.out HC.out HB1.out (HE.out _ _ _ _) _⟩
        · have HC := hid (HCN.out h1 h2 h3)
          have HN1 := HN0
          go_wp2_with fail
          exact bodyPost_ret (results_cell_row Tryd.results38 _ _ w.heap.size 28 #[.int .i64 0, .int .i64 0, .float .f64 0, .slice none 0 0] (0, 0) _ rfl HN0.out Tryd.underlying28 rfl size28) rfl ⟨0, 0, 0, .slice none 0 0, [], rfl, ⟨by omega, by omega, fun i => by simp, by simp, nil_owns18 _ _, HC.out, HB0.out, (HE.out _ _ _ _)⟩⟩
end Go.Proofs.YtoppccfgcccijaaDoor
