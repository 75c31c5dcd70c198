/- The contract of the program's PageRead. Conditions: a slice as Go has them. -/
import Derived.Test.YtdfieopdbpklnaaRc7
import Derived.Test.YtdfieopdbpklnaaSx7
import Derived.Test.YtdfieopdbpklnaaWp
namespace Go.Proofs.Ytdfieopdbpklnaa
open Go.RowKit
set_option maxRecDepth 100000

theorem read_impl {zs : List Int} {ss : List (List Int)} {L : Int} (h256 : 256 ≤ zs.length) (hs : slotsZ (bodyZ zs 4) = some ss) (hL : numOf ((zs.drop 192).take 4) 0 4 = L) :
    (bytesP L ss = zs → readP zs = some (L, ss)) ∧ (bytesP L ss ≠ zs → readP zs = none) := by
  by_cases hz : zs.length = 256
  · have := read_last hz hs
    exact ⟨fun h => this.1 L hL.symm h, fun h => this.2 (by rw [hL]; exact h)⟩
  · refine ⟨fun h => absurd ?_ hz, fun _ => read_none_len hz⟩
    have ho := bytes_ok h (by intro e; rw [e] at h256; simp at h256)
    rw [← h]
    exact bytesP_len ho
theorem cutA_length {body : List Int} : ∀ (j : Nat) (acc : List (List Int)) (p : Nat), cutA body j = some (acc, p) → acc.length = j
  | 0, acc, p, h => by cases h; rfl
  | j + 1, acc, p, h => by
    rw [cutA] at h
    split at h
    · cases h
    · rename_i acc' p' hc
      split at h
      · cases h
        rw [List.length_append, cutA_length j acc' p' hc]; rfl
      · cases h
theorem slots_few {body : List Int} {ss : List (List Int)} (h : slotsZ body = some ss) : 1 + ss.length ≤ body.length := by
  by_cases h1 : 1 + lenB body 0 ≤ body.length
  · cases hc : cutA body (lenB body 0) with
    | none => rw [slotsZ_no2 (Nat.le_refl _) hc] at h; cases h
    | some q =>
      obtain ⟨acc, p⟩ := q
      rw [slotsZ_yes h1 hc] at h
      cases h
      rw [cutA_length _ _ _ hc]; exact h1
  · rw [slotsZ_no1 h1] at h; cases h
theorem read_less {zs : List Int} (h : zs.length < 256 ∨ slotsZ (bodyZ zs 4) = none) : readP zs = none := by
  rcases h with h | h
  · exact read_none_len (by omega)
  · exact read_none_slots h

set_option maxHeartbeats 6400000 in
theorem impl_PageRead {a : Option Addr} {n c : Nat} {zs : List Int} {w : World} (h : Reads w a n zs) (hc : n ≤ c) (hc2 : c ≤ 9223372036854775807)
    {RL : Int} {RS : List (List Int)} {ok : Bool} {m : Nat} (hR : (readP zs).getD (0, []) = (RL, RS)) (hk : (readP zs).isSome = ok) (hm : RS.length = m) :
    Calls Try.prog 17 #[.slice a n c] w fun e w' => ∃ a' c', e = .returned (.tuple #[.agg #[.int .i64 RL, .slice a' m c'], .bool ok]) ∧ OwnP w' w.heap.size w'.heap.size (.slice a' m c') RS ∧ Below w.heap.size w w' := by
  have HR := hid hR
  have HK := hid hk
  have HM := hid hm
  clear hR hk hm
  have HB := hid (Below.alloc1 w (.cells #[.int .i64 0, .slice none 0 0] 26))
  have R0 := hid (heap_alloc_new w (.cells #[.int .i64 0, .slice none 0 0] 26))
  have HSZ := hid (show w.heap.size + 1 ≤ (w.alloc (.cells #[.int .i64 0, .slice none 0 0] 26)).heap.size by simp)
  have HRD := hid (h.below HB.out (Nat.le_refl _))
  clear h
  go_enter_defers Try.func17, Try.ntmps17
  go_wp2_with fail
  generalize w.alloc (.cells #[.int .i64 0, .slice none 0 0] 26) = W at *
  refine (impl_readPage HRD.out hc hc2).mono ?_
  rintro e w1 ⟨hex, b⟩
  replace HRD := hid (HRD.out.below b (Nat.le_refl _))
  replace R0 := hid ((b.block _ (by have := HSZ.out; omega)).trans R0.out)
  replace HB := hid (HB.out.trans (b.mono HB.out.size))
  rcases hex with ⟨hno, t, rfl⟩ | ⟨h256, ss, a', c', hyes, rfl, hown⟩
  · have HN := hid (read_less hno)
    clear hno b
    go_wp2_with fail
    refine leaves_cons (f := 56) (args := #[]) (by simp) (by simp [go_sem]) ?_
    refine (guard_panicking t _).mono ?_
    rintro e u' w'' ⟨rfl, rfl, rfl⟩
    obtain ⟨rfl, rfl⟩ : 0 = RL ∧ [] = RS := Prod.mk.inj ((show (readP zs).getD (0, []) = (0, []) by rw [HN.out]; rfl).symm.trans HR.out)
    obtain rfl : false = ok := (show (readP zs).isSome = false by rw [HN.out]; rfl).symm.trans HK.out
    obtain rfl : 0 = m := HM.out
    exact ⟨_, results_cell_tmp7 Try.results17 _ _ w.heap.size 26 _ (0, 0) _ rfl R0.out Try.underlying26 rfl size_pg, none, 0, rfl, OwnP.nil _ _ _, HB.out⟩
  obtain ⟨L, hL⟩ : ∃ L, numOf ((zs.drop 192).take 4) 0 4 = L := ⟨_, rfl⟩
  rw [hL]
  have HRI := hid (read_impl h256 hyes hL)
  have LO := hid (show w.heap.size + 1 ≤ W.heap.size from HSZ.out)
  replace HSZ := hid (Nat.le_trans HSZ.out b.size)
  obtain ⟨k, hk⟩ : ∃ k, ss.length = k := ⟨_, rfl⟩
  have HLK := hid hk
  rw [hk] at hown ⊢
  have hk47 : k ≤ 140737488355328 := by
    have := slots_few hyes
    rw [bodyZ_len h256 4 (by omega)] at this
    omega
  have bX := Below.alloc1 w1 (.cells #[.int .i64 L, .slice a' k c'] 26)
  have RX := hid (heap_alloc_new w1 (.cells #[.int .i64 L, .slice a' k c'] 26))
  have HO := hid (hown.below bX (Nat.le_refl _))
  replace HRD := hid (HRD.out.below bX (Nat.le_refl _))
  replace R0 := hid ((bX.block _ (by have := HSZ.out; omega)).trans R0.out)
  replace HB := hid (HB.out.trans (bX.mono HB.out.size))
  have S1 := hid (show (w1.alloc (.cells #[.int .i64 L, .slice a' k c'] 26)).heap.size = w1.heap.size + 1 by simp)
  clear b hown hL hk h256 hyes bX
  go_wp2_with fail
  generalize w1.alloc (.cells #[.int .i64 L, .slice a' k c'] 26) = V0 at *
  refine (impl_PageBytes L c' HO.out.rd HLK.out hk47).mono ?_
  rintro e w2 ⟨v, rfl, ov, b⟩
  have HBB := hid (bytesP_bd (L := L) HO.out.rd.bd)
  obtain ⟨av, cv, rfl, rv, _⟩ := Reads.own ov HBB.out
  have RV := hid rv
  replace HO := hid (HO.out.below b (by have := S1.out; omega))
  replace HRD := hid (HRD.out.below b (Nat.le_refl _))
  replace R0 := hid ((b.block _ (by have := S1.out; have := HSZ.out; omega)).trans R0.out)
  replace RX := hid ((b.block _ (by have := S1.out; omega)).trans RX.out)
  replace HB := hid (HB.out.trans (b.mono HB.out.size))
  have S2 := hid (show w1.heap.size + 1 ≤ w2.heap.size by have := S1.out; have := b.size; omega)
  clear ov rv b
  go_wp2_with fail
  refine (bytes_equal cv c RV.out HRD.out).mono ?_
  rintro e w3 ⟨rfl, e3⟩
  subst w3
  have x0 : w2.cell? ⟨w1.heap.size, 0, none⟩ = some (.int .i64 L) := cell_of_row _ _ 0 _ _ _ RX.out
  have x1 : w2.cell? ⟨w1.heap.size, 1, none⟩ = some (.slice a' k c') := cell_of_row _ _ 1 _ _ _ RX.out
  have r0 : w2.cell? ⟨w.heap.size, 0, none⟩ = some (.int .i64 0) := cell_of_row _ _ 0 _ _ _ R0.out
  have r1 : w2.cell? ⟨w.heap.size, 1, none⟩ = some (.slice none 0 0) := cell_of_row _ _ 1 _ _ _ R0.out
  have rf0 : w2.frozen? ⟨w.heap.size, 0, none⟩ = false := frozen_of_row _ _ _ _ _ R0.out
  have rf1 : w2.frozen? ⟨w.heap.size, 1, none⟩ = false := frozen_of_row _ _ _ _ _ R0.out
  by_cases he : bytesP L ss ≠ zs
  · have HN := hid (HRI.out.2 he)
    rw [decide_eq_false he]
    have T1 := heap_setCell_same w2 w.heap.size 0 _ 26 (.int .i64 0) R0.out
    have T2 := hid (heap_setCell_same _ w.heap.size 1 _ 26 (.slice none 0 0) T1)
    have B6 := hid ((HB.out.setCell (p := ⟨w.heap.size, 0, none⟩) (by simp) (.int .i64 0)).setCell (p := ⟨w.heap.size, 1, none⟩) (by simp) (.slice none 0 0))
    clear T1 he
    go_wp2_with fail
    refine leaves_cons (f := 56) (args := #[]) (by simp) (by simp [go_sem]) ?_
    refine (guard_idle _).mono ?_
    rintro e u' w'' ⟨rfl, rfl, rfl⟩
    obtain ⟨rfl, rfl⟩ : 0 = RL ∧ [] = RS := Prod.mk.inj ((show (readP zs).getD (0, []) = (0, []) by rw [HN.out]; rfl).symm.trans HR.out)
    obtain rfl : false = ok := (show (readP zs).isSome = false by rw [HN.out]; rfl).symm.trans HK.out
    obtain rfl : 0 = m := HM.out
    exact ⟨_, results_cell_tmp7 Try.results17 _ _ w.heap.size 26 _ (0, 0) _ rfl T2.out Try.underlying26 rfl size_pg, none, 0, rfl, OwnP.nil _ _ _, B6.out⟩
  replace he := Decidable.not_not.1 he
  have HY := hid (HRI.out.1 he)
  rw [decide_eq_true he]
  obtain ⟨rfl, rfl⟩ : L = RL ∧ ss = RS := Prod.mk.inj ((show (readP zs).getD (0, []) = (L, ss) by rw [HY.out]; rfl).symm.trans HR.out)
  obtain rfl : true = ok := (show (readP zs).isSome = true by rw [HY.out]; rfl).symm.trans HK.out
  obtain rfl : k = m := HLK.out.symm.trans HM.out
  have T1 := heap_setCell_same w2 w.heap.size 0 _ 26 (.int .i64 L) R0.out
  have T2 := hid (heap_setCell_same _ w.heap.size 1 _ 26 (.slice a' k c') T1)
  have B6 := hid ((HB.out.setCell (p := ⟨w.heap.size, 0, none⟩) (by simp) (.int .i64 L)).setCell (p := ⟨w.heap.size, 1, none⟩) (by simp) (.slice a' k c'))
  have O6 := hid (HO.out.agree (w' := (w2.setCell ⟨w.heap.size, 0, none⟩ (.int .i64 L)).setCell ⟨w.heap.size, 1, none⟩ (.slice a' k c')) (fun q h1 _ => (heap_set_ne _ _ _ _ _ (by have := LO.out; omega)).trans (heap_set_ne _ _ _ _ _ (by have := LO.out; omega))))
  clear T1 he
  go_wp2_with fail
  refine leaves_cons (f := 56) (args := #[]) (by simp) (by simp [go_sem]) ?_
  refine (guard_idle _).mono ?_
  rintro e u' w'' ⟨rfl, rfl, rfl⟩
  exact ⟨_, results_cell_tmp7 Try.results17 _ _ w.heap.size 26 _ (0, 0) _ rfl T2.out Try.underlying26 rfl size_pg, a', c', rfl, O6.out.mono (by have := LO.out; omega) (by simp only [set_size]; have := S2.out; omega), B6.out⟩
end Go.Proofs.Ytdfieopdbpklnaa
