/- The specification's text of an item. Conditions: texts of at most 2^21 bytes. -/
import Derived.Test.YtoppccfgcccijaaDoorXe18
import Derived.Test.YtoppccfgcccijaaDoorIt8
import Derived.Test.YtoppccfgcccijaaDoorMga
namespace Go.Proofs.YtoppccfgcccijaaDoor
open Go.RowKit
set_option maxRecDepth 100000

def txtI (K N : Int) (f : Nat) (zs : List Int) : List Int := if okI K N f zs.length = true then (if K = 1 then 105 :: decI N else if K = 2 then 102 :: hexB (hi8 (fbits f) 8) else if K = 3 then 116 :: hexB zs else [45]) else []
/-- Bytes that are new, or none. -/
def TxB (B : Nat) (w : World) (v : Value) (L : List Int) : Prop := (L = [] ∧ v = .slice none 0 0) ∨ NewB B w v L
theorem hexB_byte {zs : List Int} (h : ∀ i, 0 ≤ zs.getD i 0 ∧ zs.getD i 0 ≤ 255) (i : Nat) : 0 ≤ (hexB zs).getD i 0 ∧ (hexB zs).getD i 0 ≤ 255 := by
  by_cases hi : i < (hexB zs).length
  · have := hexB_bd zs (fun z hz => by
      obtain ⟨j, hj, rfl⟩ := List.mem_iff_getElem.1 hz
      have := h j
      rwa [List.getD_eq_getElem?_getD, List.getElem?_eq_getElem hj] at this) ((hexB zs).getD i 0) (by rw [List.getD_eq_getElem?_getD, List.getElem?_eq_getElem hi]; exact List.getElem_mem hi)
    omega
  · rw [show (hexB zs).getD i 0 = 0 by simp [List.getD, List.getElem?_eq_none (Nat.le_of_not_lt hi)]]; omega
set_option maxHeartbeats 6400000 in
theorem spec_ItemText (K N : Int) (f : Nat) {ad : Option Addr} {n : Nat} (cap : Nat) {zs : List Int} {w : World} (h : Reads w ad n zs) (hn : n ≤ 2097152) (hN : -9223372036854775808 ≤ N ∧ N ≤ 9223372036854775807) (hf : f < 18446744073709551616) :
    Calls Tryd.prog 7 #[.agg #[.int .i64 K, .int .i64 N, .float .f64 f, .slice ad n cap]] w fun e w' => ∃ v, e = .returned v ∧ TxB w.heap.size w' v (txtI K N f zs) ∧ Below w.heap.size w w' := by
  obtain ⟨i0, hi, hz0, hz1, hz2⟩ := info_parts Tryd.info5
  have HR := hid h
  have HL := hid h.len
  have HB0 := hid (Below.alloc1 w (.cells #[.int .i64 K, .int .i64 N, .float .f64 f, .slice ad n cap] 28))
  have HN0 := hid (heap_alloc_new w (.cells #[.int .i64 K, .int .i64 N, .float .f64 f, .slice ad n cap] 28))
  have HZ0 := hid (alloc_size w (.cells #[.int .i64 K, .int .i64 N, .float .f64 f, .slice ad n cap] 28))
  have HNb := hid hN
  have hst := fun w a m => run_store Tryd.prog w a (.float .f64 f) m rfl
  clear h
  go_enter Tryd.func7, Tryd.ntmps7
  have e0 : (w.alloc (.cells #[.int .i64 K, .int .i64 N, .float .f64 f, .slice ad n cap] 28)).cell? ⟨w.heap.size, 0, none⟩ = some (.int .i64 K) := by rw [cell_of_row _ _ _ _ _ _ HN0.out]; rfl
  have e1 : (w.alloc (.cells #[.int .i64 K, .int .i64 N, .float .f64 f, .slice ad n cap] 28)).cell? ⟨w.heap.size, 1, none⟩ = some (.int .i64 N) := by rw [cell_of_row _ _ _ _ _ _ HN0.out]; rfl
  have e2 : (w.alloc (.cells #[.int .i64 K, .int .i64 N, .float .f64 f, .slice ad n cap] 28)).cell? ⟨w.heap.size, 2, none⟩ = some (.float .f64 f) := by rw [cell_of_row _ _ _ _ _ _ HN0.out]; rfl
  have e3 : (w.alloc (.cells #[.int .i64 K, .int .i64 N, .float .f64 f, .slice ad n cap] 28)).cell? ⟨w.heap.size, 3, none⟩ = some (.slice ad n cap) := by rw [cell_of_row _ _ _ _ _ _ HN0.out]; rfl
  go_wp2_with fail
  clear e0 e1 e2 e3
  generalize w.alloc (.cells #[.int .i64 K, .int .i64 N, .float .f64 f, .slice ad n cap] 28) = U at *
  refine (spec_ItemOk K N f ad n cap hf hn U).mono ?_
  rintro e u1 ⟨rfl, b1⟩
  obtain ⟨p, hp⟩ : ∃ p, w.heap.size = p := ⟨_, rfl⟩
  have HP := hid hp
  rw [hp] at HN0 HZ0
  try simp only [hp]
  clear hp
  have HB1 := hid (HB0.out.trans (b1.mono HB0.out.size))
  have HN1 := hid ((b1.block p (by have := HZ0.out; omega)).trans HN0.out)
  clear b1
  have e0 : u1.cell? ⟨p, 0, none⟩ = some (.int .i64 K) := by rw [cell_of_row _ _ _ _ _ _ HN1.out]; rfl
  by_cases hok : okI K N f n = true
  · have HOk := hid (show okI K N f zs.length = true by rw [HL.out]; exact hok)
    have hK := of_decide_eq_true (show decide (0 ≤ K ∧ K ≤ 3 ∧ n ≤ 40 ∧ (K = 1 ∨ N = 0) ∧ (K = 2 ∨ f = 0) ∧ (K = 3 ∨ n = 0)) = true from hok)
    have HK := hid hK
    rw [hok]
    clear hok hK
    by_cases hk1 : K = 1
    · subst hk1
      have HT := hid (show txtI 1 N f zs = 105 :: decI N by unfold txtI; rw [HOk.out]; rfl)
      have hcv := Go.Lib.run_convert_bytes_const (P := Tryd.prog) u1 23 5 #[.int .u8 105] 1 1 Tryd.underlying23 Tryd.underlying5
      have HBl := hid (Below.alloc1 u1 (.cells #[.int .u8 105] 5 (1, 2)))
      have HNl := hid (World.news_of_block (heap_alloc_new u1 (.cells #[.int .u8 105] 5 (1, 2))))
      have e1 : (u1.alloc (.cells #[.int .u8 105] 5 (1, 2))).cell? ⟨p, 1, none⟩ = some (.int .i64 N) := (HBl.out.cell (World.block_lt_of_cell? u1 _ (show u1.cell? ⟨p, 1, none⟩ = some (.int .i64 N) by rw [cell_of_row _ _ _ _ _ _ HN1.out]; rfl))).trans (by rw [cell_of_row _ _ _ _ _ _ HN1.out]; rfl)
      go_wp2_with fail
      clear e0 e1 hcv
      refine (spec_l18digits N _ HNb.out).mono ?_
      rintro e w1 ⟨v, rfl, nb, b⟩
      obtain ⟨L, hL⟩ : ∃ L, decI N = L := ⟨_, rfl⟩
      rw [hL] at nb
      have HLL := hid hL
      clear hL
      have HLm := hid (show L.length ≤ 23 by rw [← HLL.out]; exact (decI_len N).2)
      obtain ⟨g, cc, rfl, hl0, hl1, hl2, hl3, hl4, hl5⟩ := nb.ex
      have HC := hid hl5
      have HO1 := hid (show ∀ b', (some ⟨u1.heap.size, 0, none⟩ : Option Addr) = some b' → ∀ j u, [Value.int .u8 105][j]? = some u → w1.cell? (b'.add j) = some u from fun b' e j u hu => by
        cases e
        have := HNl.out j u hu
        exact (b.cell (World.block_lt_of_cell? _ _ this)).trans this)
      have HBw := hid (HB1.out.trans ((HBl.out.trans (b.mono HBl.out.size)).mono HB1.out.size))
      have hsz := HBw.out.size
      have hlm : L.length ≤ 4200000 := by have := HLm.out; omega
      clear nb b hl3 hl4 hl5
      go_wp2_with (at_builtin; refine wpList_append_grows w1 rfl _ _ 23 rfl 5 i0 (.int .u8 0) 1 1 Tryd.underlying23 hi hz0 hz1 hz2 rfl (by decide) (some ⟨u1.heap.size, 0, none⟩) 1 1 [.int .u8 105] rfl (fun e => by cases e) rfl HO1.out ⟨g, 0, none⟩ L.length cc (bys L) rfl (by rw [bys_length, Nat.mul_one]) HC.out (bys_ones L) ?f2 ?f3 ?f4 ?_)
      case f2 => omega
      case f3 => unfold maxLen; omega
      case f4 => omega
      intro v2 w2 hown' hgrow
      have hb2 : Below w1.heap.size w1 w2 := (Below.refl _ _).grown hgrow (Nat.le_refl _) (fun j hj => by cases hj)
      have HB2 := hid (HBw.out.trans (hb2.mono hsz))
      have HO2 := hid (show TxB w.heap.size w2 v2 (105 :: L) from .inr (NewB.lower (NewB.own (b := w1.heap.size) (by rw [List.length_cons, Nat.add_comm]; exact hown') (by simp)) hsz))
      clear hown' hgrow hb2
      go_wp2_with fail
      go_ret
      exact ⟨_, rfl, by rw [HT.out, HLL.out]; exact HO2.out, HB2.out⟩
    · by_cases hk2 : K = 2
      · subst hk2
        have hcv := Go.Lib.run_convert_bytes_const (P := Tryd.prog) u1 23 5 #[.int .u8 102] 1 1 Tryd.underlying23 Tryd.underlying5
        have HBl := hid (Below.alloc1 u1 (.cells #[.int .u8 102] 5 (1, 2)))
        have HNl := hid (World.news_of_block (heap_alloc_new u1 (.cells #[.int .u8 102] 5 (1, 2))))
        have e1 : (u1.alloc (.cells #[.int .u8 102] 5 (1, 2))).cell? ⟨p, 2, none⟩ = some (.float .f64 f) := (HBl.out.cell (World.block_lt_of_cell? u1 _ (show u1.cell? ⟨p, 2, none⟩ = some (.float .f64 f) by rw [cell_of_row _ _ _ _ _ _ HN1.out]; rfl))).trans (by rw [cell_of_row _ _ _ _ _ _ HN1.out]; rfl)
        have HT := hid (show txtI 2 N f zs = 102 :: hexB (hi8 (fbits f) 8) by unfold txtI; rw [HOk.out]; rfl)
        have hl4 : u1.heap.size ≤ (u1.alloc (.cells #[.int .u8 102] 5 (1, 2))).heap.size := HBl.out.size
        go_wp2_with (first
          | (go_at_call 30; refine (spec_FloatBits f hf _).mono ?_; rintro e w1 ⟨rfl, e1'⟩; subst w1)
          | (go_at_call 29; refine (spec_l3high (fbits f) (fbits_lt f hf) _).mono ?_; rintro e w3 ⟨v3, rfl, o3, b3⟩; obtain ⟨a3, c3, rfl, r3, _⟩ := Reads.own o3 (fun i => hi8_bd (fbits f) 8 i); have HB3 := hid b3; have HR3 := hid r3; clear o3 b3 r3))
        refine (spec_l18hex c3 HR3.out (by omega)).mono ?_
        rintro e w1 ⟨v, rfl, o4, hv0, b4⟩
        clear e0 e1 hcv
        have b := HB3.out.trans (b4.mono HB3.out.size)
        obtain ⟨L, hL⟩ : ∃ L, hexB (hi8 (fbits f) 8) = L := ⟨_, rfl⟩
        have HLm := hid (show L.length = 16 by rw [← hL, hexB_len, hi8_length])
        rw [hL] at o4
        have nb := NewB.own o4 (by have := HLm.out; omega)
        have HLL := hid hL
        clear hL o4 b4 hl4 hv0
        obtain ⟨g, cc, rfl, hl0, hl1, hl2, hl3, hl4, hl5⟩ := nb.ex
        have HC := hid hl5
        have HO1 := hid (show ∀ b', (some ⟨u1.heap.size, 0, none⟩ : Option Addr) = some b' → ∀ j u, [Value.int .u8 102][j]? = some u → w1.cell? (b'.add j) = some u from fun b' e j u hu => by
          cases e
          have := HNl.out j u hu
          exact (b.cell (World.block_lt_of_cell? _ _ this)).trans this)
        have HBw := hid (HB1.out.trans ((HBl.out.trans (b.mono HBl.out.size)).mono HB1.out.size))
        have hsz := HBw.out.size
        have hlm : L.length ≤ 4200000 := by have := HLm.out; omega
        clear nb b hl3 hl4 hl5
        go_wp2_with (at_builtin; refine wpList_append_grows w1 rfl _ _ 23 rfl 5 i0 (.int .u8 0) 1 1 Tryd.underlying23 hi hz0 hz1 hz2 rfl (by decide) (some ⟨u1.heap.size, 0, none⟩) 1 1 [.int .u8 102] rfl (fun e => by cases e) rfl HO1.out ⟨g, 0, none⟩ L.length cc (bys L) rfl (by rw [bys_length, Nat.mul_one]) HC.out (bys_ones L) ?f2 ?f3 ?f4 ?_)
        case f2 => omega
        case f3 => unfold maxLen; omega
        case f4 => omega
        intro v2 w2 hown' hgrow
        have hb2 : Below w1.heap.size w1 w2 := (Below.refl _ _).grown hgrow (Nat.le_refl _) (fun j hj => by cases hj)
        have HB2 := hid (HBw.out.trans (hb2.mono hsz))
        have HO2 := hid (show TxB w.heap.size w2 v2 (102 :: L) from .inr (NewB.lower (NewB.own (b := w1.heap.size) (by rw [List.length_cons, Nat.add_comm]; exact hown') (by simp)) hsz))
        clear hown' hgrow hb2
        go_wp2_with fail
        go_ret
        exact ⟨_, rfl, by rw [HT.out, HLL.out]; exact HO2.out, HB2.out⟩
      · by_cases hk3 : K = 3
        · subst hk3
          have hcv := Go.Lib.run_convert_bytes_const (P := Tryd.prog) u1 23 5 #[.int .u8 116] 1 1 Tryd.underlying23 Tryd.underlying5
          have HBl := hid (Below.alloc1 u1 (.cells #[.int .u8 116] 5 (1, 2)))
          have HNl := hid (World.news_of_block (heap_alloc_new u1 (.cells #[.int .u8 116] 5 (1, 2))))
          have e1 : (u1.alloc (.cells #[.int .u8 116] 5 (1, 2))).cell? ⟨p, 3, none⟩ = some (.slice ad n cap) := (HBl.out.cell (World.block_lt_of_cell? u1 _ (show u1.cell? ⟨p, 3, none⟩ = some (.slice ad n cap) by rw [cell_of_row _ _ _ _ _ _ HN1.out]; rfl))).trans (by rw [cell_of_row _ _ _ _ _ _ HN1.out]; rfl)
          have HT := hid (show txtI 3 N f zs = 116 :: hexB zs by unfold txtI; rw [HOk.out]; rfl)
          have HRl := hid (HR.out.below (HB1.out.trans (HBl.out.mono HB1.out.size)) (Nat.le_refl _))
          go_wp2_with fail
          clear e0 e1 hcv
          refine (spec_l18hex cap HRl.out hn).mono ?_
          rintro e w1 ⟨v, rfl, o4, hv0, b⟩
          have hk := HK.out
          by_cases hn0 : n = 0
          · have hv := hv0 hn0
            subst hv
            have hzs : zs = [] := List.length_eq_zero_iff.1 (by rw [HL.out]; exact hn0)
            subst hzs
            have HBw := hid (HB1.out.trans ((HBl.out.trans (b.mono HBl.out.size)).mono HB1.out.size))
            have HO2 := hid (show TxB w.heap.size w1 (.slice (some ⟨u1.heap.size, 0, none⟩) 1 1) (116 :: hexB []) from .inr (NewB.lower (NewB.below (NewB.lit u1 #[.int .u8 116] [116] rfl (by simp) (by unfold maxLen; simp) (1, 2)) b) HB1.out.size))
            clear o4 hv0 b
            go_wp2_with fail
            go_ret
            exact ⟨_, rfl, by rw [HT.out]; exact HO2.out, HBw.out⟩
          · obtain ⟨L, hL⟩ : ∃ L, hexB zs = L := ⟨_, rfl⟩
            have HLm := hid (show L.length = 2 * n by rw [← hL, hexB_len, HL.out])
            rw [hL] at o4
            have nb := NewB.own o4 (by have := HLm.out; omega)
            have HLL := hid hL
            clear hL o4 hv0
            obtain ⟨g, cc, rfl, hl0, hl1, hl2, hl3, hl4, hl5⟩ := nb.ex
            have HC := hid hl5
            have HO1 := hid (show ∀ b', (some ⟨u1.heap.size, 0, none⟩ : Option Addr) = some b' → ∀ j u, [Value.int .u8 116][j]? = some u → w1.cell? (b'.add j) = some u from fun b' e j u hu => by
              cases e
              have := HNl.out j u hu
              exact (b.cell (World.block_lt_of_cell? _ _ this)).trans this)
            have HBw := hid (HB1.out.trans ((HBl.out.trans (b.mono HBl.out.size)).mono HB1.out.size))
            have hsz := HBw.out.size
            have hlm : L.length ≤ 4200000 := by have := HLm.out; omega
            clear nb b hl3 hl4 hl5
            go_wp2_with (at_builtin; refine wpList_append_grows w1 rfl _ _ 23 rfl 5 i0 (.int .u8 0) 1 1 Tryd.underlying23 hi hz0 hz1 hz2 rfl (by decide) (some ⟨u1.heap.size, 0, none⟩) 1 1 [.int .u8 116] rfl (fun e => by cases e) rfl HO1.out ⟨g, 0, none⟩ L.length cc (bys L) rfl (by rw [bys_length, Nat.mul_one]) HC.out (bys_ones L) ?f2 ?f3 ?f4 ?_)
            case f2 => omega
            case f3 => unfold maxLen; omega
            case f4 => omega
            intro v2 w2 hown' hgrow
            have hb2 : Below w1.heap.size w1 w2 := (Below.refl _ _).grown hgrow (Nat.le_refl _) (fun j hj => by cases hj)
            have HB2 := hid (HBw.out.trans (hb2.mono hsz))
            have HO2 := hid (show TxB w.heap.size w2 v2 (116 :: L) from .inr (NewB.lower (NewB.own (b := w1.heap.size) (by rw [List.length_cons, Nat.add_comm]; exact hown') (by simp)) hsz))
            clear hown' hgrow hb2
            go_wp2_with fail
            go_ret
            exact ⟨_, rfl, by rw [HT.out, HLL.out]; exact HO2.out, HB2.out⟩
        · have HT := hid (show txtI K N f zs = [45] by unfold txtI; rw [HOk.out, if_pos rfl, if_neg hk1, if_neg hk2, if_neg hk3])
          have hcv := Go.Lib.run_convert_bytes_const (P := Tryd.prog) u1 23 5 #[.int .u8 45] 1 1 Tryd.underlying23 Tryd.underlying5
          have HBl := hid (Below.alloc1 u1 (.cells #[.int .u8 45] 5 (1, 2)))
          have HBw := hid (HB1.out.trans (HBl.out.mono HB1.out.size))
          have HO2 := hid (show TxB w.heap.size (u1.alloc (.cells #[.int .u8 45] 5 (1, 2))) (.slice (some ⟨u1.heap.size, 0, none⟩) 1 1) [45] from .inr (NewB.lower (NewB.lit u1 #[.int .u8 45] [45] rfl (by simp) (by unfold maxLen; simp) (1, 2)) HB1.out.size))
          go_wp2_with fail
          go_ret
          exact ⟨_, rfl, by rw [HT.out]; exact HO2.out, HBw.out⟩
  · have HNo := hid (show (txtI K N f zs) = [] by unfold txtI; rw [HL.out, if_neg hok])
    rw [Bool.not_eq_true] at hok
    rw [hok]
    clear hok
    go_wp2_with fail
    go_ret
    exact ⟨_, rfl, .inl ⟨HNo.out, rfl⟩, HB1.out⟩
end Go.Proofs.YtoppccfgcccijaaDoor
