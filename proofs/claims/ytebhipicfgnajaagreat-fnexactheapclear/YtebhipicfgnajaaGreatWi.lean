/- The contract of the program's with: a page's slots copied, one laid in, free ones at the end left out. Conditions: at most 2^20 slots of at most 2^20 bytes. -/
import Derived.Test.YtebhipicfgnajaaGreatWf
namespace Go.Proofs.YtebhipicfgnajaaGreat
open Go.RowKit
set_option maxRecDepth 100000

theorem set_rep {α : Type} (xs : List α) (k n : Nat) (z v : α) (hx : xs.length = k) (hk : k < n) : (xs ++ List.replicate (n - k) z).set k v = (xs ++ [v]) ++ List.replicate (n - (k + 1)) z := by
  rw [List.set_append_right _ _ (by omega), hx, Nat.sub_self, show n - k = (n - (k + 1)) + 1 by omega, List.replicate_succ, List.set_cons_zero]
  simp


theorem Bands.nils (w : World) (lo hi N : Nat) : Bands w lo hi (List.replicate N nilS) (List.replicate N []) := by
  induction N with
  | zero => exact Bands.nil w lo hi
  | succ N ih =>
    rw [List.replicate_succ', List.replicate_succ']
    refine ⟨by simp, fun i => ?_, ?_, ?_, fun i j => ?_⟩
    · rw [getD_app, getD_app]
      simp only [List.length_replicate]
      split
      · exact ih.own i
      · have e1 : [nilS].getD (i - N) nilS = nilS := by
          cases i - N <;> simp
        have e2 : ([[]] : List (List Int)).getD (i - N) [] = [] := by
          cases i - N <;> simp
        rw [e1, e2]
        exact World.ownsRow_nil w lo 5 1
    · intro x hx g hg
      have : x = nilS := by
        rcases List.mem_append.1 hx with h | h
        · exact (List.mem_replicate.1 h).2
        · simpa using h
      subst this
      cases hg
    · rw [← List.replicate_succ']
      refine List.pairwise_replicate.2 (.inr ?_)
      exact .inl rfl
    · rw [getD_app]
      simp only [List.length_replicate]
      split
      · exact ih.bd i j
      · have e2 : ([[]] : List (List Int)).getD (i - N) [] = [] := by
          cases i - N <;> simp
        rw [e2]; simp
/-- A slice of one slice. -/
theorem reads_one {w : World} {g : Nat} {v : Value} {z : List Int} {t : TypeId} (h : w.heap[g]? = some (.cells #[v] t (0, 0))) (r : Row w v z) : ReadsS w (some ⟨g, 0, none⟩) [z] := by
  refine ⟨.inr ⟨g, 0, rfl, fun i hi => ?_⟩⟩
  obtain rfl : i = 0 := by simp at hi; omega
  exact ⟨v, by rw [cell_of_row _ _ _ _ _ _ h]; rfl, r⟩

set_option maxHeartbeats 6400000 in
theorem impl_with (L : Int) {a : Option Addr} {n : Nat} (c : Nat) {ss : List (List Int)} (q : Nat) {ad : Option Addr} {nd : Nat} (cd : Nat) {zs : List Int} (lsn : Int) {w : World} (h : ReadsS w a ss) (hl : ss.length = n) (hn : n ≤ 1048575) (hb : ∀ i, (ss.getD i []).length ≤ 1048576) (hq : q < 1048576) (hd : Reads w ad nd zs) (hnil : ad = none → cd = 0) (hnd : nd ≤ 1048576) :
    Calls Tryz.prog 147 #[.agg #[.int .i64 L, .slice a n c], .int .i64 (q : Int), .slice ad nd cd, .int .i64 lsn] w fun e w' => ∃ a' c', e = .returned (.agg #[.int .i64 lsn, .slice a' (trimP (layP ss q zs)).length c']) ∧ OwnP w' w.heap.size w'.heap.size (.slice a' (trimP (layP ss q zs)).length c') (trimP (layP ss q zs)) ∧ Below w.heap.size w w' := by
  obtain ⟨i0, hi, hz0, hz1, hz2⟩ := info_parts Tryz.info22
  have HNI := hid hnil
  have HDL := hid hd.len
  have HB := hid (two w (.cells #[.int .i64 L, .slice a n c] 97) (.cells #[.int .i64 0, .slice none 0 0] 97))
  have HX := hid (show ArgP _ _ _ _ _ _ _ from (ArgP.new L n c h 97 w.heap.size rfl).alloc (.cells #[.int .i64 0, .slice none 0 0] 97))
  have R1 := hid (heap_new2 w (.cells #[.int .i64 L, .slice a n c] 97) (.cells #[.int .i64 0, .slice none 0 0] 97))
  have HSZ := hid (show ((w.alloc (.cells #[.int .i64 L, .slice a n c] 97)).alloc (.cells #[.int .i64 0, .slice none 0 0] 97)).heap.size = w.heap.size + 2 by simp)
  have HD0 := hid hd
  have H0 := hid h
  have HSB := hid hb
  clear h hd hnil hb
  by_cases hm : (n : Int) < (q : Int) + 1
  · have hNN : n ≤ (q + 1) := by omega
    have hN2 : q < (q + 1) := by omega
    have hN3 : (q + 1) ≤ 1048576 := by omega
    have HMX : Hid ((q + 1) - n = q + 1 - n) := hid (by omega)
    go_enter Tryz.func147, Tryz.ntmps147
    go_wp2_with (at_make; refine wpList_make_full _ rfl _ _ 95 rfl (w.heap.size + 2) 22 i0 (.slice none 0 0) 1 Tryz.underlying95 hi hz0 hz1 _ _ _ _ ((q + 1)) rfl rfl (by omega) (by omega) ?b2 ?b3 ?b4 ?_)
    case b2 => omega
    case b3 => unfold maxLen; omega
    intro w0 hown0 hgrow0
    rw [toList_madeCells_one] at hown0
    have b := (Below.refl ((w.alloc (.cells #[.int .i64 L, .slice a n c] 97)).alloc (.cells #[.int .i64 0, .slice none 0 0] 97)).heap.size ((w.alloc (.cells #[.int .i64 L, .slice a n c] 97)).alloc (.cells #[.int .i64 0, .slice none 0 0] 97))).grown hgrow0 (Nat.le_refl _) (fun k h => by cases h)
    have HX1 := hid (HX.out.below b (Nat.le_refl _))
    have R2 := hid ((b.block _ (by have := HSZ.out; omega)).trans R1.out)
    have HB1 := hid (HB.out.trans (b.mono HB.out.size))
    have HSZ1 := hid (show w.heap.size + 2 ≤ w0.heap.size by have := HSZ.out; have := b.size; omega)
    have HO := hid (show w0.ownsRow (w.heap.size + 2) 22 1 (.slice (some ⟨w.heap.size + 1 + 1, 0, none⟩) ((q + 1)) ((q + 1))) ((q + 1)) (List.replicate ((q + 1)) nilS) from by simpa [nilS] using hown0)
    clear hm hown0 hgrow0 b
    obtain ⟨c0, c1⟩ := HX1.out.box
    go_wp2_with fail
    clear c0 c1
    go_loopw [22] (fun i wr => ∃ (k : Nat) (xs : List Value), k ≤ n ∧ i = .int .i64 k ∧ Hid (wr.ownsRow (w.heap.size + 2) 22 1 (.slice (some ⟨w.heap.size + 1 + 1, 0, none⟩) ((q + 1)) ((q + 1))) ((q + 1)) xs) ∧ Hid (Bands wr (w.heap.size + 2) wr.heap.size xs (ss.take k ++ List.replicate ((q + 1) - k) [])) ∧ Hid (wr.heap[w.heap.size + 1]? = some (.cells #[.int .i64 0, .slice none 0 0] 97)) ∧ Hid (Below w.heap.size w wr) ∧ Hid (w.heap.size + 2 ≤ wr.heap.size)) (fun i _ => n - (intOf i).toNat)
    case atStart => exact ⟨0, List.replicate ((q + 1)) nilS, Nat.zero_le _, rfl, HO, hid (by rw [List.take_zero, List.nil_append, Nat.sub_zero]; exact Bands.nils _ _ _ _), R2, HB1, HSZ1⟩
    case round =>
      clear HX1 R2 HB1 HSZ1 HO
      obtain ⟨k, xs, hk, rfl, hown, hB, R2, hnx, hsz⟩ := hrel
      by_cases hlt : k < n
      · have hlt' : (k : Int) < (n : Int) := by omega
        have hk0 : (0 : Int) ≤ (k : Int) := by omega
        have hkN : (k : Int) < (((q + 1) : Nat) : Int) := by omega
        rcases H0.out.cells with h0 | ⟨b, off, rfl, hc⟩
        · omega
        obtain ⟨v, hcx0, ax, cx, rfl, hr0, hnil, hmx⟩ := hc k (by omega)
        have hbl := World.block_lt_of_cell? w _ hcx0
        have hcx : wr.cell? ⟨b, off + k, none⟩ = some (.slice ax (ss.getD k []).length cx) := (hnx.out.cell (by exact hbl)).trans hcx0
        have hrow := hid (show Row w (.slice ax (ss.getD k []).length cx) (ss.getD k []) from ⟨ax, cx, rfl, hr0, hnil, hmx⟩)
        have HT := hid (take_snoc ss k [] (by omega))
        have HBD := hid hr0.bd
        have hlen := HSB.out k
        generalize ss.getD k [] = zk at *
        obtain ⟨m, hm⟩ : ∃ m, zk.length = m := ⟨_, rfl⟩
        have HM := hid hm
        rw [hm] at hcx hlen
        clear hc hcx0 hr0 hnil hmx hm hbl
        go_wp2_with fail
        have bX := Below.alloc1 wr (.cells #[.slice ax m cx] 22)
        have RX := reads_one (heap_alloc_new wr (.cells #[.slice ax m cx] 22)) (show Row _ _ zk from by have := hrow.out.below ((hnx.out.trans (bX.mono hnx.out.size))) (Nat.le_refl _); rw [HM.out] at this; exact this)
        refine (impl_joined (m := 1) 1 RX rfl (by omega) (by simp [tot]; have := HM.out; omega)).mono ?_
        rintro e w1 ⟨v1, rfl, o, b1⟩
        have b2 := (bX.trans (b1.mono bX.size))
        have o2 : w1.ownsRow wr.heap.size 5 1 v1 zk.length (bys zk) := owns_lower (by simpa [tot] using o) bX.size
        have hown1 := owns_below b2 (Nat.le_refl _) hown.out
        have hcy : ∃ v, w1.cell? ⟨w.heap.size + 1 + 1, k, none⟩ = some v := ⟨_, (hown1.cellAt k (by omega)).trans (List.getElem?_eq_getElem (by have := hown1.1; omega))⟩
        obtain ⟨v, hcy⟩ := hcy
        have hfr : w1.frozen? ⟨w.heap.size + 1 + 1, k, none⟩ = false := hown1.frozenAt k
        obtain ⟨av, cv, rfl⟩ := own_sl o2
        have R := hown1.stored k (.slice av zk.length cv)
        have hB1 := (hB.out.agree (Agree.below b2 (Nat.le_refl _))).swap (i := k) hsz.out b2.size (by simp; omega) o2 HBD.out (Nat.le_refl _)
        rw [set_rep _ k ((q + 1)) [] zk (by simp; omega) (by omega), ← HT.out] at hB1
        have HB2 := hid ((hB1.beside R.2 (fun i => owns_ne (hB1.own i) hown1 (by decide))).mono (Nat.le_refl _) R.2.size)
        have HR := hid R.1
        have R3 := hid ((R.2.block _ (by have := hsz.out; have := b2.size; omega) (by simp)).trans ((b2.block _ (by have := hsz.out; omega)).trans R2.out))
        have HN2 := hid ((hnx.out.trans (b2.mono hnx.out.size)).setCell (p := ⟨w.heap.size + 1 + 1, k, none⟩) (by show w.heap.size ≤ w.heap.size + 1 + 1; omega) (.slice av zk.length cv))
        have HS2 := hid (show w.heap.size + 2 ≤ (w1.setCell ⟨w.heap.size + 1 + 1, k, none⟩ (.slice av zk.length cv)).heap.size by rw [set_size]; have := hsz.out; have := b2.size; omega)
        clear bX RX o b1 b2 o2 hown1 R hB1 hown hB R2 hnx hsz hcx
        go_wp2_with fail
        go_roundw
        case rel => exact ⟨k + 1, xs.set k (.slice av zk.length cv), by omega, by go_num, HR, HB2, R3, HN2, HS2⟩
        case measure => simp [intOf]; omega
      · have hlt' : ¬ (k : Int) < (n : Int) := by omega
        obtain rfl : n = k := by omega
        have hqN : (q : Int) < (((q + 1) : Nat) : Int) := by omega
        have hq0 : (0 : Int) ≤ (q : Int) := by omega
        have HL0 := hid (show (ss ++ List.replicate ((q + 1) - n) []).set q zs = layP ss q zs by unfold layP; rw [hl]; first | done | rw [HMX.out])
        go_wp2_with fail
        have bX := Below.alloc1 wr (.cells #[.slice ad nd cd] 22)
        have RX := reads_one (heap_alloc_new wr (.cells #[.slice ad nd cd] 22)) (show Row _ _ zs from ⟨ad, cd, by rw [HDL.out], by rw [HDL.out]; exact HD0.out.below (hnx.out.trans (bX.mono hnx.out.size)) (Nat.le_refl _), HNI.out, by have := HDL.out; unfold maxLen; omega⟩)
        refine (impl_joined (m := 1) 1 RX rfl (by omega) (by simp [tot]; have := HDL.out; omega)).mono ?_
        rintro e w1 ⟨v1, rfl, o, b1⟩
        have b2 := (bX.trans (b1.mono bX.size))
        have o2 : w1.ownsRow wr.heap.size 5 1 v1 zs.length (bys zs) := owns_lower (by simpa [tot] using o) bX.size
        have hown1 := owns_below b2 (Nat.le_refl _) hown.out
        have hcy : ∃ v, w1.cell? ⟨w.heap.size + 1 + 1, q, none⟩ = some v := ⟨_, (hown1.cellAt q (by omega)).trans (List.getElem?_eq_getElem (by have := hown1.1; omega))⟩
        obtain ⟨v, hcy⟩ := hcy
        have hfr : w1.frozen? ⟨w.heap.size + 1 + 1, q, none⟩ = false := hown1.frozenAt q
        obtain ⟨av, cv, rfl⟩ := own_sl o2
        have R := hown1.stored q (.slice av zs.length cv)
        have hBt := hB.out
        rw [List.take_of_length_le (by omega)] at hBt
        have hB1 := (hBt.agree (Agree.below b2 (Nat.le_refl _))).swap (i := q) hsz.out b2.size (by simp; omega) o2 HD0.out.bd (Nat.le_refl _)
        rw [HL0.out] at hB1
        have HB2 := hid ((hB1.beside R.2 (fun i => owns_ne (hB1.own i) hown1 (by decide))).mono (Nat.le_refl _) R.2.size)
        have HR := hid R.1
        have R3 := hid ((R.2.block _ (by have := hsz.out; have := b2.size; omega) (by simp)).trans ((b2.block _ (by have := hsz.out; omega)).trans R2.out))
        have HN2 := hid ((hnx.out.trans (b2.mono hnx.out.size)).setCell (p := ⟨w.heap.size + 1 + 1, q, none⟩) (by show w.heap.size ≤ w.heap.size + 1 + 1; omega) (.slice av zs.length cv))
        have HS2 := hid (show w.heap.size + 2 ≤ (w1.setCell ⟨w.heap.size + 1 + 1, q, none⟩ (.slice av zs.length cv)).heap.size by rw [set_size]; have := hsz.out; have := b2.size; omega)
        clear bX RX o b1 b2 o2 hown1 R hB1 hBt hown hB R2 hnx hsz
        go_wp2_with fail
        clear hcy hfr
        generalize w1.setCell ⟨w.heap.size + 1 + 1, q, none⟩ (.slice av zs.length cv) = W5 at *
        refine (impl_without ((q + 1)) (ts := layP ss q zs) (by rw [layP_length, hl]; omega) (by omega) HR.out HB2.out).mono ?_
        rintro e W6 ⟨a6, c6, rfl, o6, b6⟩
        have hz6 := b6.size
        have HO6 := hid (o6.mono (lo' := w.heap.size + 2) (hi' := W6.heap.size) (Nat.le_refl _) hz6)
        have R6 := hid ((b6.block _ (by have := HS2.out; omega)).trans R3.out)
        have HB6 := hid (HN2.out.trans (b6.mono HN2.out.size))
        have HS6 := hid (show w.heap.size + 2 ≤ W6.heap.size by have := HS2.out; omega)
        obtain ⟨m6, hm6⟩ : ∃ m6, (trimP (layP ss q zs)).length = m6 := ⟨_, rfl⟩
        have HM6 := hid hm6
        rw [hm6] at HO6 ⊢
        clear o6 b6 hz6 hm6 HR HB2 R3 HN2 HS2
        have T1 := heap_setCell_same W6 (w.heap.size + 1) 0 _ 97 (.int .i64 lsn) R6.out
        have T2 := hid (heap_setCell_same _ (w.heap.size + 1) 1 _ 97 (.slice a6 m6 c6) T1)
        have B6 := hid ((HB6.out.setCell (p := ⟨w.heap.size + 1, 0, none⟩) (by simp) (.int .i64 lsn)).setCell (p := ⟨w.heap.size + 1, 1, none⟩) (by simp) (.slice a6 m6 c6))
        have O6 := hid (HO6.out.agree (w' := (W6.setCell ⟨w.heap.size + 1, 0, none⟩ (.int .i64 lsn)).setCell ⟨w.heap.size + 1, 1, none⟩ (.slice a6 m6 c6)) (fun k h1 _ => (heap_set_ne _ _ _ _ _ (by omega)).trans (heap_set_ne _ _ _ _ _ (by omega))))
        have r0 : W6.cell? ⟨w.heap.size + 1, 0, none⟩ = some (.int .i64 0) := cell_of_row _ _ 0 _ _ _ R6.out
        have r1 : W6.cell? ⟨w.heap.size + 1, 1, none⟩ = some (.slice none 0 0) := cell_of_row _ _ 1 _ _ _ R6.out
        have rf0 : W6.frozen? ⟨w.heap.size + 1, 0, none⟩ = false := frozen_of_row _ _ _ _ _ R6.out
        have rf1 : W6.frozen? ⟨w.heap.size + 1, 1, none⟩ = false := frozen_of_row _ _ _ _ _ R6.out
        clear T1
        go_wp2_with fail
        exact bodyPost_ret (results_cell_row Tryz.results147 _ _ (w.heap.size + 1) 97 _ (0, 0) _ rfl T2.out Tryz.underlying97 rfl size_pg) rfl ⟨a6, c6, by rw [HM6.out]; rfl, by rw [HM6.out]; exact O6.out.mono (by omega) (by simp only [set_size]; exact Nat.le_refl _), B6.out⟩
  · have hNN : n ≤ n := by omega
    have hN2 : q < n := by omega
    have hN3 : n ≤ 1048576 := by omega
    have HMX : Hid (n - n = q + 1 - n) := hid (by omega)
    go_enter Tryz.func147, Tryz.ntmps147
    go_wp2_with (at_make; refine wpList_make_full _ rfl _ _ 95 rfl (w.heap.size + 2) 22 i0 (.slice none 0 0) 1 Tryz.underlying95 hi hz0 hz1 _ _ _ _ (n) rfl rfl (by omega) (by omega) ?b2 ?b3 ?b4 ?_)
    case b2 => omega
    case b3 => unfold maxLen; omega
    intro w0 hown0 hgrow0
    rw [toList_madeCells_one] at hown0
    have b := (Below.refl ((w.alloc (.cells #[.int .i64 L, .slice a n c] 97)).alloc (.cells #[.int .i64 0, .slice none 0 0] 97)).heap.size ((w.alloc (.cells #[.int .i64 L, .slice a n c] 97)).alloc (.cells #[.int .i64 0, .slice none 0 0] 97))).grown hgrow0 (Nat.le_refl _) (fun k h => by cases h)
    have HX1 := hid (HX.out.below b (Nat.le_refl _))
    have R2 := hid ((b.block _ (by have := HSZ.out; omega)).trans R1.out)
    have HB1 := hid (HB.out.trans (b.mono HB.out.size))
    have HSZ1 := hid (show w.heap.size + 2 ≤ w0.heap.size by have := HSZ.out; have := b.size; omega)
    have HO := hid (show w0.ownsRow (w.heap.size + 2) 22 1 (.slice (some ⟨w.heap.size + 1 + 1, 0, none⟩) (n) (n)) (n) (List.replicate (n) nilS) from by simpa [nilS] using hown0)
    clear hm hown0 hgrow0 b
    obtain ⟨c0, c1⟩ := HX1.out.box
    go_wp2_with fail
    clear c0 c1
    go_loopw [22] (fun i wr => ∃ (k : Nat) (xs : List Value), k ≤ n ∧ i = .int .i64 k ∧ Hid (wr.ownsRow (w.heap.size + 2) 22 1 (.slice (some ⟨w.heap.size + 1 + 1, 0, none⟩) (n) (n)) (n) xs) ∧ Hid (Bands wr (w.heap.size + 2) wr.heap.size xs (ss.take k ++ List.replicate (n - k) [])) ∧ Hid (wr.heap[w.heap.size + 1]? = some (.cells #[.int .i64 0, .slice none 0 0] 97)) ∧ Hid (Below w.heap.size w wr) ∧ Hid (w.heap.size + 2 ≤ wr.heap.size)) (fun i _ => n - (intOf i).toNat)
    case atStart => exact ⟨0, List.replicate (n) nilS, Nat.zero_le _, rfl, HO, hid (by rw [List.take_zero, List.nil_append, Nat.sub_zero]; exact Bands.nils _ _ _ _), R2, HB1, HSZ1⟩
    case round =>
      clear HX1 R2 HB1 HSZ1 HO
      obtain ⟨k, xs, hk, rfl, hown, hB, R2, hnx, hsz⟩ := hrel
      by_cases hlt : k < n
      · have hlt' : (k : Int) < (n : Int) := by omega
        have hk0 : (0 : Int) ≤ (k : Int) := by omega
        have hkN : (k : Int) < ((n : Nat) : Int) := by omega
        rcases H0.out.cells with h0 | ⟨b, off, rfl, hc⟩
        · omega
        obtain ⟨v, hcx0, ax, cx, rfl, hr0, hnil, hmx⟩ := hc k (by omega)
        have hbl := World.block_lt_of_cell? w _ hcx0
        have hcx : wr.cell? ⟨b, off + k, none⟩ = some (.slice ax (ss.getD k []).length cx) := (hnx.out.cell (by exact hbl)).trans hcx0
        have hrow := hid (show Row w (.slice ax (ss.getD k []).length cx) (ss.getD k []) from ⟨ax, cx, rfl, hr0, hnil, hmx⟩)
        have HT := hid (take_snoc ss k [] (by omega))
        have HBD := hid hr0.bd
        have hlen := HSB.out k
        generalize ss.getD k [] = zk at *
        obtain ⟨m, hm⟩ : ∃ m, zk.length = m := ⟨_, rfl⟩
        have HM := hid hm
        rw [hm] at hcx hlen
        clear hc hcx0 hr0 hnil hmx hm hbl
        go_wp2_with fail
        have bX := Below.alloc1 wr (.cells #[.slice ax m cx] 22)
        have RX := reads_one (heap_alloc_new wr (.cells #[.slice ax m cx] 22)) (show Row _ _ zk from by have := hrow.out.below ((hnx.out.trans (bX.mono hnx.out.size))) (Nat.le_refl _); rw [HM.out] at this; exact this)
        refine (impl_joined (m := 1) 1 RX rfl (by omega) (by simp [tot]; have := HM.out; omega)).mono ?_
        rintro e w1 ⟨v1, rfl, o, b1⟩
        have b2 := (bX.trans (b1.mono bX.size))
        have o2 : w1.ownsRow wr.heap.size 5 1 v1 zk.length (bys zk) := owns_lower (by simpa [tot] using o) bX.size
        have hown1 := owns_below b2 (Nat.le_refl _) hown.out
        have hcy : ∃ v, w1.cell? ⟨w.heap.size + 1 + 1, k, none⟩ = some v := ⟨_, (hown1.cellAt k (by omega)).trans (List.getElem?_eq_getElem (by have := hown1.1; omega))⟩
        obtain ⟨v, hcy⟩ := hcy
        have hfr : w1.frozen? ⟨w.heap.size + 1 + 1, k, none⟩ = false := hown1.frozenAt k
        obtain ⟨av, cv, rfl⟩ := own_sl o2
        have R := hown1.stored k (.slice av zk.length cv)
        have hB1 := (hB.out.agree (Agree.below b2 (Nat.le_refl _))).swap (i := k) hsz.out b2.size (by simp; omega) o2 HBD.out (Nat.le_refl _)
        rw [set_rep _ k (n) [] zk (by simp; omega) (by omega), ← HT.out] at hB1
        have HB2 := hid ((hB1.beside R.2 (fun i => owns_ne (hB1.own i) hown1 (by decide))).mono (Nat.le_refl _) R.2.size)
        have HR := hid R.1
        have R3 := hid ((R.2.block _ (by have := hsz.out; have := b2.size; omega) (by simp)).trans ((b2.block _ (by have := hsz.out; omega)).trans R2.out))
        have HN2 := hid ((hnx.out.trans (b2.mono hnx.out.size)).setCell (p := ⟨w.heap.size + 1 + 1, k, none⟩) (by show w.heap.size ≤ w.heap.size + 1 + 1; omega) (.slice av zk.length cv))
        have HS2 := hid (show w.heap.size + 2 ≤ (w1.setCell ⟨w.heap.size + 1 + 1, k, none⟩ (.slice av zk.length cv)).heap.size by rw [set_size]; have := hsz.out; have := b2.size; omega)
        clear bX RX o b1 b2 o2 hown1 R hB1 hown hB R2 hnx hsz hcx
        go_wp2_with fail
        go_roundw
        case rel => exact ⟨k + 1, xs.set k (.slice av zk.length cv), by omega, by go_num, HR, HB2, R3, HN2, HS2⟩
        case measure => simp [intOf]; omega
      · have hlt' : ¬ (k : Int) < (n : Int) := by omega
        obtain rfl : n = k := by omega
        have hqN : (q : Int) < ((n : Nat) : Int) := by omega
        have hq0 : (0 : Int) ≤ (q : Int) := by omega
        have HL0 := hid (show (ss ++ List.replicate (n - n) []).set q zs = layP ss q zs by unfold layP; rw [hl]; first | done | rw [HMX.out])
        go_wp2_with fail
        have bX := Below.alloc1 wr (.cells #[.slice ad nd cd] 22)
        have RX := reads_one (heap_alloc_new wr (.cells #[.slice ad nd cd] 22)) (show Row _ _ zs from ⟨ad, cd, by rw [HDL.out], by rw [HDL.out]; exact HD0.out.below (hnx.out.trans (bX.mono hnx.out.size)) (Nat.le_refl _), HNI.out, by have := HDL.out; unfold maxLen; omega⟩)
        refine (impl_joined (m := 1) 1 RX rfl (by omega) (by simp [tot]; have := HDL.out; omega)).mono ?_
        rintro e w1 ⟨v1, rfl, o, b1⟩
        have b2 := (bX.trans (b1.mono bX.size))
        have o2 : w1.ownsRow wr.heap.size 5 1 v1 zs.length (bys zs) := owns_lower (by simpa [tot] using o) bX.size
        have hown1 := owns_below b2 (Nat.le_refl _) hown.out
        have hcy : ∃ v, w1.cell? ⟨w.heap.size + 1 + 1, q, none⟩ = some v := ⟨_, (hown1.cellAt q (by omega)).trans (List.getElem?_eq_getElem (by have := hown1.1; omega))⟩
        obtain ⟨v, hcy⟩ := hcy
        have hfr : w1.frozen? ⟨w.heap.size + 1 + 1, q, none⟩ = false := hown1.frozenAt q
        obtain ⟨av, cv, rfl⟩ := own_sl o2
        have R := hown1.stored q (.slice av zs.length cv)
        have hBt := hB.out
        rw [List.take_of_length_le (by omega)] at hBt
        have hB1 := (hBt.agree (Agree.below b2 (Nat.le_refl _))).swap (i := q) hsz.out b2.size (by simp; omega) o2 HD0.out.bd (Nat.le_refl _)
        rw [HL0.out] at hB1
        have HB2 := hid ((hB1.beside R.2 (fun i => owns_ne (hB1.own i) hown1 (by decide))).mono (Nat.le_refl _) R.2.size)
        have HR := hid R.1
        have R3 := hid ((R.2.block _ (by have := hsz.out; have := b2.size; omega) (by simp)).trans ((b2.block _ (by have := hsz.out; omega)).trans R2.out))
        have HN2 := hid ((hnx.out.trans (b2.mono hnx.out.size)).setCell (p := ⟨w.heap.size + 1 + 1, q, none⟩) (by show w.heap.size ≤ w.heap.size + 1 + 1; omega) (.slice av zs.length cv))
        have HS2 := hid (show w.heap.size + 2 ≤ (w1.setCell ⟨w.heap.size + 1 + 1, q, none⟩ (.slice av zs.length cv)).heap.size by rw [set_size]; have := hsz.out; have := b2.size; omega)
        clear bX RX o b1 b2 o2 hown1 R hB1 hBt hown hB R2 hnx hsz
        go_wp2_with fail
        clear hcy hfr
        generalize w1.setCell ⟨w.heap.size + 1 + 1, q, none⟩ (.slice av zs.length cv) = W5 at *
        refine (impl_without (n) (ts := layP ss q zs) (by rw [layP_length, hl]; omega) (by omega) HR.out HB2.out).mono ?_
        rintro e W6 ⟨a6, c6, rfl, o6, b6⟩
        have hz6 := b6.size
        have HO6 := hid (o6.mono (lo' := w.heap.size + 2) (hi' := W6.heap.size) (Nat.le_refl _) hz6)
        have R6 := hid ((b6.block _ (by have := HS2.out; omega)).trans R3.out)
        have HB6 := hid (HN2.out.trans (b6.mono HN2.out.size))
        have HS6 := hid (show w.heap.size + 2 ≤ W6.heap.size by have := HS2.out; omega)
        obtain ⟨m6, hm6⟩ : ∃ m6, (trimP (layP ss q zs)).length = m6 := ⟨_, rfl⟩
        have HM6 := hid hm6
        rw [hm6] at HO6 ⊢
        clear o6 b6 hz6 hm6 HR HB2 R3 HN2 HS2
        have T1 := heap_setCell_same W6 (w.heap.size + 1) 0 _ 97 (.int .i64 lsn) R6.out
        have T2 := hid (heap_setCell_same _ (w.heap.size + 1) 1 _ 97 (.slice a6 m6 c6) T1)
        have B6 := hid ((HB6.out.setCell (p := ⟨w.heap.size + 1, 0, none⟩) (by simp) (.int .i64 lsn)).setCell (p := ⟨w.heap.size + 1, 1, none⟩) (by simp) (.slice a6 m6 c6))
        have O6 := hid (HO6.out.agree (w' := (W6.setCell ⟨w.heap.size + 1, 0, none⟩ (.int .i64 lsn)).setCell ⟨w.heap.size + 1, 1, none⟩ (.slice a6 m6 c6)) (fun k h1 _ => (heap_set_ne _ _ _ _ _ (by omega)).trans (heap_set_ne _ _ _ _ _ (by omega))))
        have r0 : W6.cell? ⟨w.heap.size + 1, 0, none⟩ = some (.int .i64 0) := cell_of_row _ _ 0 _ _ _ R6.out
        have r1 : W6.cell? ⟨w.heap.size + 1, 1, none⟩ = some (.slice none 0 0) := cell_of_row _ _ 1 _ _ _ R6.out
        have rf0 : W6.frozen? ⟨w.heap.size + 1, 0, none⟩ = false := frozen_of_row _ _ _ _ _ R6.out
        have rf1 : W6.frozen? ⟨w.heap.size + 1, 1, none⟩ = false := frozen_of_row _ _ _ _ _ R6.out
        clear T1
        go_wp2_with fail
        exact bodyPost_ret (results_cell_row Tryz.results147 _ _ (w.heap.size + 1) 97 _ (0, 0) _ rfl T2.out Tryz.underlying97 rfl size_pg) rfl ⟨a6, c6, by rw [HM6.out]; rfl, by rw [HM6.out]; exact O6.out.mono (by omega) (by simp only [set_size]; exact Nat.le_refl _), B6.out⟩
end Go.Proofs.YtebhipicfgnajaaGreat
