/- The contract of the program's copy of a page. Conditions: at most 2^20 slots of at most 2^20 bytes. -/
import Derived.Test.YtebhipicfgnajaaGreatWi
namespace Go.Proofs.YtebhipicfgnajaaGreat
open Go.RowKit
set_option maxRecDepth 100000

set_option maxHeartbeats 6400000 in
theorem impl_copied (L : Int) {a : Option Addr} {n : Nat} (c : Nat) {ss : List (List Int)} {w : World} (h : ReadsS w a ss) (hl : ss.length = n) (hn : n ≤ 1048575) (hb : ∀ i, (ss.getD i []).length ≤ 1048576) :
    Calls Tryz.prog 178 #[.agg #[.int .i64 L, .slice a n c]] w fun e w' => ∃ a' c', e = .returned (.agg #[.int .i64 L, .slice a' n c']) ∧ OwnP w' w.heap.size w'.heap.size (.slice a' n c') ss ∧ Below w.heap.size w w' := by
  obtain ⟨i0, hi, hz0, hz1, hz2⟩ := info_parts Tryz.info22
  have HB := hid (two w (.cells #[.int .i64 L, .slice a n c] 97) (.cells #[.int .i64 0, .slice none 0 0] 97))
  have HX := hid (show ArgP _ _ _ _ _ _ _ from (ArgP.new L n c h 97 w.heap.size rfl).alloc (.cells #[.int .i64 0, .slice none 0 0] 97))
  have R1 := hid (heap_new2 w (.cells #[.int .i64 L, .slice a n c] 97) (.cells #[.int .i64 0, .slice none 0 0] 97))
  have R0 := hid (heap_new1 w (.cells #[.int .i64 L, .slice a n c] 97) (.cells #[.int .i64 0, .slice none 0 0] 97))
  have HSZ := hid (show ((w.alloc (.cells #[.int .i64 L, .slice a n c] 97)).alloc (.cells #[.int .i64 0, .slice none 0 0] 97)).heap.size = w.heap.size + 2 by simp)
  have H0 := hid h
  have HSB := hid hb
  clear h hb
  obtain ⟨c0, c1⟩ := HX.out.box
  go_enter Tryz.func178, Tryz.ntmps178
  go_wp2_with (at_make; refine wpList_make_full _ rfl _ _ 95 rfl (w.heap.size + 2) 22 i0 (.slice none 0 0) 1 Tryz.underlying95 hi hz0 hz1 _ _ _ _ n rfl rfl (by omega) (by omega) ?b2 ?b3 ?b4 ?_)
  case b2 => rw [hz2]; omega
  case b3 => unfold maxLen; omega
  case b4 => have := HSZ.out; omega
  clear c0 c1
  intro w0 hown0 hgrow0
  rw [toList_madeCells_one] at hown0
  have b := (Below.refl ((w.alloc (.cells #[.int .i64 L, .slice a n c] 97)).alloc (.cells #[.int .i64 0, .slice none 0 0] 97)).heap.size ((w.alloc (.cells #[.int .i64 L, .slice a n c] 97)).alloc (.cells #[.int .i64 0, .slice none 0 0] 97))).grown hgrow0 (Nat.le_refl _) (fun k h => by cases h)
  have HX1 := hid (HX.out.below b (Nat.le_refl _))
  have R2 := hid ((b.block _ (by have := HSZ.out; omega)).trans R1.out)
  have Q2 := hid ((b.block _ (by have := HSZ.out; omega)).trans R0.out)
  have HB1 := hid (HB.out.trans (b.mono HB.out.size))
  have HSZ1 := hid (show w.heap.size + 2 ≤ w0.heap.size by have := HSZ.out; have := b.size; omega)
  have HO := hid (show w0.ownsRow (w.heap.size + 2) 22 1 (.slice (some ⟨w.heap.size + 1 + 1, 0, none⟩) n n) n (List.replicate n nilS) from by simpa [nilS] using hown0)
  clear hown0 hgrow0 b
  obtain ⟨c0, c1⟩ := HX1.out.box
  go_wp2_with fail
  clear c0 c1
  go_loopw [13] (fun i wr => ∃ (k : Nat) (xs : List Value), k ≤ n ∧ i = .int .i64 k ∧ Hid (wr.ownsRow (w.heap.size + 2) 22 1 (.slice (some ⟨w.heap.size + 1 + 1, 0, none⟩) n n) n xs) ∧ Hid (Bands wr (w.heap.size + 2) wr.heap.size xs (ss.take k ++ List.replicate (n - k) [])) ∧ Hid (wr.heap[w.heap.size + 1]? = some (.cells #[.int .i64 0, .slice none 0 0] 97)) ∧ Hid (wr.heap[w.heap.size]? = some (.cells #[.int .i64 L, .slice a n c] 97)) ∧ Hid (Below w.heap.size w wr) ∧ Hid (w.heap.size + 2 ≤ wr.heap.size)) (fun i _ => n - (intOf i).toNat)
  case atStart => exact ⟨0, List.replicate n nilS, Nat.zero_le _, rfl, HO, hid (by rw [List.take_zero, List.nil_append, Nat.sub_zero]; exact Bands.nils _ _ _ _), R2, Q2, HB1, HSZ1⟩
  case round =>
    clear HX1 R2 Q2 HB1 HSZ1 HO
    obtain ⟨k, xs, hk, rfl, hown, hB, R2, Q2, hnx, hsz⟩ := hrel
    by_cases hlt : k < n
    · have hlt' : (k : Int) < (n : Int) := by omega
      have hk0 : (0 : Int) ≤ (k : Int) := by omega
      rcases H0.out.cells with h0 | ⟨b, off, rfl, hc⟩
      · omega
      obtain ⟨v, hcx0, ax, cx, rfl, hr0, hnil, hmx⟩ := hc k (by omega)
      have hbl := World.block_lt_of_cell? w _ hcx0
      have hcx : wr.cell? ⟨b, off + k, none⟩ = some (.slice ax (ss.getD k []).length cx) := (hnx.out.cell (by exact hbl)).trans hcx0
      have hrow := hid (show Row w (.slice ax (ss.getD k []).length cx) (ss.getD k []) from ⟨ax, cx, rfl, hr0, hnil, hmx⟩)
      have HT := hid (take_snoc ss k [] (by omega))
      have HBD := hid hr0.bd
      have hlen := HSB.out k
      generalize ss.getD k [] = zk at *
      obtain ⟨m, hm⟩ : ∃ m, zk.length = m := ⟨_, rfl⟩
      have HM := hid hm
      rw [hm] at hcx hlen
      clear hc hcx0 hr0 hnil hmx hm hbl
      go_wp2_with fail
      have bX := Below.alloc1 wr (.cells #[.slice ax m cx] 22)
      have RX := reads_one (heap_alloc_new wr (.cells #[.slice ax m cx] 22)) (show Row _ _ zk from by have := hrow.out.below ((hnx.out.trans (bX.mono hnx.out.size))) (Nat.le_refl _); rw [HM.out] at this; exact this)
      refine (impl_joined (m := 1) 1 RX rfl (by omega) (by simp [tot]; have := HM.out; omega)).mono ?_
      rintro e w1 ⟨v1, rfl, o, b1⟩
      have b2 := (bX.trans (b1.mono bX.size))
      have o2 : w1.ownsRow wr.heap.size 5 1 v1 zk.length (bys zk) := owns_lower (by simpa [tot] using o) bX.size
      have hown1 := owns_below b2 (Nat.le_refl _) hown.out
      have hcy : ∃ v, w1.cell? ⟨w.heap.size + 1 + 1, k, none⟩ = some v := ⟨_, (hown1.cellAt k (by omega)).trans (List.getElem?_eq_getElem (by have := hown1.1; omega))⟩
      obtain ⟨v, hcy⟩ := hcy
      have hfr : w1.frozen? ⟨w.heap.size + 1 + 1, k, none⟩ = false := hown1.frozenAt k
      obtain ⟨av, cv, rfl⟩ := own_sl o2
      have R := hown1.stored k (.slice av zk.length cv)
      have hB1 := (hB.out.agree (Agree.below b2 (Nat.le_refl _))).swap (i := k) hsz.out b2.size (by simp; omega) o2 HBD.out (Nat.le_refl _)
      rw [set_rep _ k n [] zk (by simp; omega) (by omega), ← HT.out] at hB1
      have HB2 := hid ((hB1.beside R.2 (fun i => owns_ne (hB1.own i) hown1 (by decide))).mono (Nat.le_refl _) R.2.size)
      have HR := hid R.1
      have R3 := hid ((R.2.block _ (by have := hsz.out; have := b2.size; omega) (by simp)).trans ((b2.block _ (by have := hsz.out; omega)).trans R2.out))
      have Q3 := hid ((R.2.block _ (by have := hsz.out; have := b2.size; omega) (by simp; omega)).trans ((b2.block _ (by have := hsz.out; omega)).trans Q2.out))
      have HN2 := hid ((hnx.out.trans (b2.mono hnx.out.size)).setCell (p := ⟨w.heap.size + 1 + 1, k, none⟩) (by show w.heap.size ≤ w.heap.size + 1 + 1; omega) (.slice av zk.length cv))
      have HS2 := hid (show w.heap.size + 2 ≤ (w1.setCell ⟨w.heap.size + 1 + 1, k, none⟩ (.slice av zk.length cv)).heap.size by rw [set_size]; have := hsz.out; have := b2.size; omega)
      clear bX RX o b1 b2 o2 hown1 R hB1 hown hB R2 Q2 hnx hsz hcx
      go_wp2_with fail
      go_roundw
      case rel => exact ⟨k + 1, xs.set k (.slice av zk.length cv), by omega, by go_num, HR, HB2, R3, Q3, HN2, HS2⟩
      case measure => simp [intOf]; omega
    · have hlt' : ¬ (k : Int) < (n : Int) := by omega
      obtain rfl : n = k := by omega
      have hBt := hB.out
      rw [List.take_of_length_le (by omega), Nat.sub_self, List.replicate_zero, List.append_nil] at hBt
      have HO6 := hid (show OwnP wr (w.heap.size + 2) wr.heap.size (.slice (some ⟨w.heap.size + 1 + 1, 0, none⟩) n n) ss from ⟨⟨xs, by rw [hl]; exact hown.out, hBt⟩, fun g hg => (hown.out.lt g hg).2⟩)
      have q0 : wr.cell? ⟨w.heap.size, 0, none⟩ = some (.int .i64 L) := cell_of_row _ _ 0 _ _ _ Q2.out
      have r0 : wr.cell? ⟨w.heap.size + 1, 0, none⟩ = some (.int .i64 0) := cell_of_row _ _ 0 _ _ _ R2.out
      have r1 : wr.cell? ⟨w.heap.size + 1, 1, none⟩ = some (.slice none 0 0) := cell_of_row _ _ 1 _ _ _ R2.out
      have rf0 : wr.frozen? ⟨w.heap.size + 1, 0, none⟩ = false := frozen_of_row _ _ _ _ _ R2.out
      have rf1 : wr.frozen? ⟨w.heap.size + 1, 1, none⟩ = false := frozen_of_row _ _ _ _ _ R2.out
      have T1 := heap_setCell_same wr (w.heap.size + 1) 0 _ 97 (.int .i64 L) R2.out
      have T2 := hid (heap_setCell_same _ (w.heap.size + 1) 1 _ 97 (.slice (some ⟨w.heap.size + 1 + 1, 0, none⟩) n n) T1)
      have B6 := hid ((hnx.out.setCell (p := ⟨w.heap.size + 1, 0, none⟩) (by simp) (.int .i64 L)).setCell (p := ⟨w.heap.size + 1, 1, none⟩) (by simp) (.slice (some ⟨w.heap.size + 1 + 1, 0, none⟩) n n))
      have O6 := hid (HO6.out.agree (w' := (wr.setCell ⟨w.heap.size + 1, 0, none⟩ (.int .i64 L)).setCell ⟨w.heap.size + 1, 1, none⟩ (.slice (some ⟨w.heap.size + 1 + 1, 0, none⟩) n n)) (fun k h1 _ => (heap_set_ne _ _ _ _ _ (by omega)).trans (heap_set_ne _ _ _ _ _ (by omega))))
      clear T1 hBt hown hB
      go_wp2_with fail
      exact bodyPost_ret (results_cell_row Tryz.results178 _ _ (w.heap.size + 1) 97 _ (0, 0) _ rfl T2.out Tryz.underlying97 rfl size_pg) rfl ⟨_, _, rfl, O6.out.mono (by omega) (by simp only [set_size]; exact Nat.le_refl _), B6.out⟩
end Go.Proofs.YtebhipicfgnajaaGreat
