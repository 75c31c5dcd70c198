/- The contract of the program's readPage: the last number and the slots, or a panic where bytes lack. Conditions: a slice as Go has them. -/
import Derived.Test.YtdfieopdbpklnaaRs7
import Derived.Test.YtdfieopdbpklnaaCb
namespace Go.Proofs.Ytdfieopdbpklnaa
open Go.RowKit
set_option maxRecDepth 100000

/-- What readPage answers. -/
structure AnsR (zs : List Int) (w : World) (e : Ending) (w' : World) : Prop where
  ex : ((zs.length < 256 ∨ slotsZ (bodyZ zs 4) = none) ∧ ∃ t : Int, e = .panicked [{ v := .iface 70 (.int .i64 t), recovered := false }]) ∨ (256 ≤ zs.length ∧ ∃ ss a' c', slotsZ (bodyZ zs 4) = some ss ∧ e = .returned (.agg #[.int .i64 (numOf ((zs.drop 192).take 4) 0 4), .slice a' ss.length c']) ∧ OwnP w' w.heap.size w'.heap.size (.slice a' ss.length c') ss)
  bel : Below w.heap.size w w'

theorem secB_at (zs : List Int) (k : Nat) : secB zs k = (zs.drop (64 * k + 4)).take 60 := rfl

set_option maxHeartbeats 6400000 in
theorem impl_readPage {a : Option Addr} {n c : Nat} {zs : List Int} {w : World} (h : Reads w a n zs) (hc : n ≤ c) (hc2 : c ≤ 9223372036854775807) :
    Calls Try.prog 57 #[.slice a n c] w fun e w' => AnsR zs w e w' := by
  have HBD := hid (show bdZ zs from h.bd)
  have HL := hid h.len
  have HB := hid (two w (.cells #[.int .i64 0, .slice none 0 0] 26) (.cells #[.slice a n c] 92))
  have R0 := hid (((Below.alloc1 (w.alloc (.cells #[.int .i64 0, .slice none 0 0] 26)) (.cells #[.slice a n c] 92)).block _ (by simp)).trans (heap_alloc_new w (.cells #[.int .i64 0, .slice none 0 0] 26)))
  have RR := hid (show ((w.alloc (.cells #[.int .i64 0, .slice none 0 0] 26)).alloc (.cells #[.slice a n c] 92)).heap[w.heap.size + 1]? = some (.cells #[.slice a n c] 92 (0, 0)) from heap_new2 w (.cells #[.int .i64 0, .slice none 0 0] 26) (.cells #[.slice a n c] 92))
  have HSZ := hid (show w.heap.size + 2 ≤ ((w.alloc (.cells #[.int .i64 0, .slice none 0 0] 26)).alloc (.cells #[.slice a n c] 92)).heap.size by simp)
  have HRD := hid (h.below HB.out (Nat.le_refl _))
  have HLT := hid (fun (b off : Nat) (hn0 : 0 < n) (e : a = some ⟨b, off, none⟩) => (show b < w.heap.size by
    rcases h.cells with h0 | ⟨b', off', e', hcc⟩
    · omega
    · rw [e] at e'
      cases e'
      exact World.block_lt_of_cell? w _ (hcc 0 hn0)))
  clear h
  go_enter Try.func57, Try.ntmps57
  go_wp2_with fail
  generalize (w.alloc (.cells #[.int .i64 0, .slice none 0 0] 26)).alloc (.cells #[.slice a n c] 92) = W at *
  go_loopw [4, 5, 8] (fun l s i wr => ∃ (k : Nat) (L : Int) (a5 ar : Option Addr) (c5 c3 : Nat), k ≤ 4 ∧ 64 * k ≤ n ∧ i = .int .i64 k ∧ l = .int .i64 L ∧ s = .slice a5 (60 * k) c5 ∧ Hid (k = 0 ∨ L = numOf ((zs.drop (64 * (k - 1))).take 4) 0 4) ∧ Hid (wr.ownsRow (w.heap.size + 2) 5 1 (.slice a5 (60 * k) c5) (60 * k) (bys (bodyZ zs k))) ∧ Hid (wr.heap[w.heap.size + 1]? = some (.cells #[.slice ar (n - 64 * k) c3] 92 (0, 0))) ∧ Hid (n - 64 * k = 0 ∨ ∃ b off, ar = some ⟨b, off, none⟩ ∧ Rd wr (w.heap.size + 1) b off (n - 64 * k) c3 (zs.drop (64 * k))) ∧ Hid (wr.heap[w.heap.size]? = some (.cells #[.int .i64 0, .slice none 0 0] 26 (0, 0))) ∧ Hid (Below w.heap.size w wr) ∧ Hid (w.heap.size + 2 ≤ wr.heap.size)) (fun _ _ i _ => 4 - (intOf i).toNat)
  case atStart =>
    refine ⟨0, 0, none, a, 0, c, by omega, by omega, rfl, rfl, rfl, hid (.inl rfl), hid (World.ownsRow_nil _ _ _ _), RR, hid ?_, R0, HB, HSZ⟩
    by_cases hn0 : n = 0
    · exact .inl hn0
    · rcases HRD.out.cells with h0 | ⟨b, off, e, hcc⟩
      · omega
      · have hb := HLT.out b off (by omega) e
        subst e
        exact .inr ⟨b, off, rfl, RR.out, HRD.out, hc, hc2, by omega⟩
  case round =>
    clear RR R0 HB HSZ HRD HLT
    obtain ⟨k, L, a5, ar, c5, c3, hk, hkn, rfl, rfl, rfl, HLL, HO, RR, HR, R0, HB, HZ⟩ := hrel
    by_cases hlt : k < 4
    · have hlt' : (k : Int) < 4 := by omega
      have hk0 : (0 : Int) ≤ (k : Int) := by omega
      go_wp2_with fail
      by_cases h4 : n - 64 * k < 4
      · refine (number_no 4 RR.out h4 (by omega)).mono ?_
        rintro e w1 ⟨rfl, e1⟩
        subst w1
        go_wp2_with fail
        exact ⟨rfl, .inl ⟨.inl (by rw [HL.out]; omega), _, rfl⟩, HB.out⟩
      rcases HR.out with h0 | ⟨b, off, rfl, hR⟩
      · omega
      have HR1 := hid hR
      clear hR HR RR
      refine (number_yes HR1.out 4 (by omega) (by omega)).mono ?_
      rintro e w1 ⟨rfl, hg, off2, c2, hR2⟩
      rw [List.drop_drop] at hR2
      replace HB := hid (HB.out.grown hg HB.out.size (fun q hq => by cases hq; omega))
      replace R0 := hid ((hg.block _ (by have := HZ.out; omega) (by simp)).trans R0.out)
      replace HO := hid (HO.out.kept hg (oty_ne HO.out HR1.out.row (by decide)))
      replace HZ := hid (Nat.le_trans HZ.out hg.size)
      have HR2 := hid hR2
      obtain ⟨L2, hL2⟩ : ∃ L2, numOf ((zs.drop (64 * k)).take 4) 0 ((4 : Nat) : Int) = L2 := ⟨_, rfl⟩
      rw [hL2]
      have HL2 := hid hL2
      clear hR2 hg HR1 HLL hL2
      go_wp2_with fail
      by_cases h60 : n - 64 * k - 4 < 60
      · refine (take_no 60 HR2.out.row h60 (by omega)).mono ?_
        rintro e w2 ⟨rfl, e1⟩
        subst w2
        go_wp2_with fail
        exact ⟨rfl, .inl ⟨.inl (by rw [HL.out]; omega), _, rfl⟩, HB.out⟩
      refine (take_yes HR2.out 60 (by omega)).mono ?_
      rintro e w2 ⟨rfl, hg, off3, c3', hR3⟩
      rw [List.drop_drop] at hR3
      have RT := hid (reads_front (HR2.out.reads.other hg (fun a e => by cases e; exact fun e => HR2.out.ne (Option.some.inj e))) (show 60 ≤ n - 64 * k - 4 by omega))
      have hkl : ((zs.drop (64 * k + 4)).take 60).length = 60 := RT.out.len
      replace HB := hid (HB.out.grown hg HB.out.size (fun q hq => by cases hq; omega))
      replace R0 := hid ((hg.block _ (by have := HZ.out; omega) (by simp)).trans R0.out)
      replace HO := hid (HO.out.kept hg (oty_ne HO.out HR2.out.row (by decide)))
      replace HZ := hid (Nat.le_trans HZ.out hg.size)
      have HR3 := hid hR3
      have HKL := hid hkl
      clear hR3 hg HR2 hkl
      go_wp2_with fail
      have bX := Below.alloc1 w2 (.cells #[.slice a5 (60 * k) c5, .slice (some ⟨b, off2, none⟩) 60 c2] 22)
      have RX := reads_two (heap_alloc_new w2 (.cells #[.slice a5 (60 * k) c5, .slice (some ⟨b, off2, none⟩) 60 c2] 22)) (z1 := bodyZ zs k) (z2 := (zs.drop (64 * k + 4)).take 60) (row_of (owns_below bX (Nat.le_refl _) HO.out) (bodyZ_bd HBD.out k) (by omega)) ⟨_, c2, by rw [HKL.out], by rw [HKL.out]; exact RT.out.below bX (Nat.le_refl _), fun e => (by cases e), by rw [HKL.out]; unfold maxLen; omega⟩
      have hbl : (bodyZ zs k).length = 60 * k := by have := HO.out.1; simpa [bys] using this
      refine (impl_joined (m := 2) 2 RX rfl (by omega) (by show (bodyZ zs k).length + (((zs.drop (64 * k + 4)).take 60).length + 0) ≤ 2097152; rw [HKL.out, hbl]; omega)).mono ?_
      rintro e w4 ⟨v4, rfl, o4, b4⟩
      have b5 := bX.trans (b4.mono bX.size)
      have o5 : w4.ownsRow w2.heap.size 5 1 v4 (60 * (k + 1)) (bys (bodyZ zs (k + 1))) := by
        have := owns_lower o4 bX.size
        have e1 : tot [bodyZ zs k, (zs.drop (64 * k + 4)).take 60] = 60 * (k + 1) := by show (bodyZ zs k).length + (((zs.drop (64 * k + 4)).take 60).length + 0) = _; rw [HKL.out, hbl]; omega
        have e2 : [bodyZ zs k, (zs.drop (64 * k + 4)).take 60].flatten = bodyZ zs (k + 1) := by simp [bodyZ, secB_at]
        rwa [e1, e2] at this
      obtain ⟨a4, c4, rfl⟩ := own_sl o5
      have O5 := hid (owns_lower o5 HZ.out)
      replace HR3 := hid (HR3.out.below b5 (Nat.le_refl _))
      replace R0 := hid ((b5.block _ (by have := HZ.out; omega)).trans R0.out)
      replace HB := hid (HB.out.trans (b5.mono HB.out.size))
      replace HZ := hid (Nat.le_trans HZ.out b5.size)
      clear bX RX o4 b4 b5 o5 RT HO hbl
      go_wp2_with fail
      go_roundw
      case rel => exact ⟨k + 1, L2, a4, _, c4, c3', by omega, by omega, by go_num, rfl, rfl, hid (.inr HL2.out.symm), O5, hid (by rw [show n - 64 * (k + 1) = n - 64 * k - 4 - 60 by omega]; exact HR3.out.row), hid (.inr ⟨b, off3, rfl, by rw [show n - 64 * (k + 1) = n - 64 * k - 4 - 60 by omega, show 64 * (k + 1) = 64 * k + 4 + 60 by omega]; exact HR3.out⟩), R0, HB, HZ⟩
      case measure => simp [intOf]; omega
    · have hlt' : ¬ (k : Int) < 4 := by omega
      obtain rfl : k = 4 := by omega
      obtain rfl : L = numOf ((zs.drop 192).take 4) 0 4 := by
        rcases HLL.out with h0 | h1
        · omega
        · exact h1
      obtain ⟨L2, hL2⟩ : ∃ L2, numOf ((zs.drop 192).take 4) 0 4 = L2 := ⟨_, rfl⟩
      rw [hL2]
      have HL2 := hid hL2
      clear hL2 HLL RR HR
      go_wp2_with fail
      have hbd := bodyZ_bd HBD.out 4
      rcases HO.out.2 with ⟨_, h0⟩ | ⟨g, cap, cur, e, hgb, hgr, hcap, hmx, _, _⟩
      · omega
      cases e
      obtain ⟨ad, cap', e, hr, _⟩ := Reads.own HO.out hbd
      cases e
      refine (impl_readSlots hr hcap (by unfold maxLen at hmx; omega)).mono ?_
      rintro e w1 ⟨hex, hbel⟩
      replace HB := hid (HB.out.trans (hbel.mono HB.out.size))
      rcases hex with ⟨hno, t, rfl⟩ | ⟨ss, a', c', hyes, rfl, hown⟩
      · clear hbd hr hgr hbel
        go_wp2_with fail
        exact ⟨rfl, .inl ⟨.inr hno, _, rfl⟩, HB.out⟩
      · replace R0 := hid ((hbel.block _ (by have := HZ.out; omega)).trans R0.out)
        have T1 := heap_setCell_same w1 w.heap.size 0 _ 26 (.int .i64 L2) R0.out
        have T2 := hid (heap_setCell_same _ w.heap.size 1 _ 26 (.slice a' ss.length c') T1)
        have B6 := hid ((HB.out.setCell (p := ⟨w.heap.size, 0, none⟩) (by simp) (.int .i64 L2)).setCell (p := ⟨w.heap.size, 1, none⟩) (by simp) (.slice a' ss.length c'))
        have r0 : w1.cell? ⟨w.heap.size, 0, none⟩ = some (.int .i64 0) := cell_of_row _ _ 0 _ _ _ R0.out
        have r1 : w1.cell? ⟨w.heap.size, 1, none⟩ = some (.slice none 0 0) := cell_of_row _ _ 1 _ _ _ R0.out
        have rf0 : w1.frozen? ⟨w.heap.size, 0, none⟩ = false := frozen_of_row _ _ _ _ _ R0.out
        have rf1 : w1.frozen? ⟨w.heap.size, 1, none⟩ = false := frozen_of_row _ _ _ _ _ R0.out
        have O6 := hid (hown.agree (w' := (w1.setCell ⟨w.heap.size, 0, none⟩ (.int .i64 L2)).setCell ⟨w.heap.size, 1, none⟩ (.slice a' ss.length c')) (fun q h1 _ => (heap_set_ne _ _ _ _ _ (by have := HZ.out; omega)).trans (heap_set_ne _ _ _ _ _ (by have := HZ.out; omega))))
        have HY := hid hyes
        clear T1 hbd hr hgr hbel hown hyes
        go_wp2_with fail
        exact bodyPost_ret (results_cell_row Try.results57 _ _ w.heap.size 26 _ (0, 0) _ rfl T2.out Try.underlying26 rfl size_pg) rfl ⟨.inr ⟨by rw [HL.out]; omega, ss, a', c', HY.out, by rw [HL2.out]; rfl, O6.out.mono (by have := HZ.out; omega) (by simp only [set_size]; exact Nat.le_refl _)⟩, B6.out⟩
end Go.Proofs.Ytdfieopdbpklnaa
