/- The contract of the program's readSlots: the slots, or a panic where bytes lack. Conditions: a body of 240 bytes. -/
import Derived.Test.YtdfieopdbpklnaaRr
import Derived.Test.YtdfieopdbpklnaaBd
namespace Go.Proofs.Ytdfieopdbpklnaa
open Go.RowKit
set_option maxRecDepth 100000

/-- What readSlots answers. -/
structure AnsQ (BB : List Int) (w : World) (e : Ending) (w' : World) : Prop where
  ex : (slotsZ BB = none ∧ ∃ t : Int, e = .panicked [{ v := .iface 70 (.int .i64 t), recovered := false }]) ∨ ∃ ss a' c', slotsZ BB = some ss ∧ e = .returned (.slice a' ss.length c') ∧ OwnP w' w.heap.size w'.heap.size (.slice a' ss.length c') ss
  bel : Below w.heap.size w w'

theorem wrap64 (k : Nat) (h : k ≤ 255) : IntKind.i64.wrap (k : Int) = (k : Int) := by simp [IntKind.wrap, IntKind.bits, IntKind.signed]; omega
theorem num1 {BB : List Int} (hl : 1 ≤ BB.length) (hb : bdZ BB) : numOf (BB.take 1) 0 1 = ((lenB BB 0 : Nat) : Int) := by
  have h0 := hb 0
  have v : val (byteFrom (BB.take 1) 0) 0 1 = BB.getD 0 0 := by
    simp only [val, byteFrom]
    simp [List.getD]
  have := (num_yes (BB.take 1) 0 1 (by omega) (by omega) (by simp; omega) (by rw [v]; omega)).2
  rw [v] at this
  unfold lenB
  rw [Int.toNat_of_nonneg h0.1]
  exact this
theorem lenB_cast {BB : List Int} (hb : bdZ BB) (j : Nat) : BB.getD j 0 = ((lenB BB j : Nat) : Int) ∧ lenB BB j ≤ 255 := by
  have h := hb j
  unfold lenB
  rw [Int.toNat_of_nonneg h.1]
  exact ⟨rfl, by omega⟩

set_option maxHeartbeats 6400000 in
theorem impl_readSlots {b off c : Nat} {BB : List Int} {w : World} (h : Reads w (some ⟨b, off, none⟩) 240 BB) (hc : 240 ≤ c) (hc2 : c ≤ 9223372036854775807) :
    Calls Try.prog 81 #[.slice (some ⟨b, off, none⟩) 240 c] w fun e w' => AnsQ BB w e w' := by
  obtain ⟨i0, hi, hz0, hz1, hz2⟩ := info_parts Try.info22
  have hbl : b < w.heap.size := by
    rcases h.cells with h0 | ⟨b', off', e, hcc⟩
    · omega
    · cases e
      exact World.block_lt_of_cell? w _ (hcc 0 (by omega))
  have HBD := hid (show bdZ BB from h.bd)
  have HL := hid h.len
  have bA := Below.alloc1 w (.cells #[.slice (some ⟨b, off, none⟩) 240 c] 92)
  have HR := hid (show Rd (w.alloc (.cells #[.slice (some ⟨b, off, none⟩) 240 c] 92)) w.heap.size b off 240 c BB from ⟨heap_alloc_new w _, h.below bA (Nat.le_refl _), hc, hc2, by omega⟩)
  have HB := hid bA
  have ZA := hid (alloc_size w (.cells #[.slice (some ⟨b, off, none⟩) 240 c] 92))
  have HN1 := hid (num1 (BB := BB) (by have := HL.out; omega) HBD.out)
  clear bA h
  go_enter Try.func81, Try.ntmps81
  go_wp2_with fail
  generalize w.alloc (.cells #[.slice (some ⟨b, off, none⟩) 240 c] 92) = W at *
  refine (number_yes HR.out 1 (by omega) (by omega)).mono ?_
  rintro e w1 ⟨rfl, hg1, off1, c1, hR1⟩
  have HB1 := hid (HB.out.grown hg1 HB.out.size (fun k hk => by cases hk; exact Nat.le_refl _))
  have HR1 := hid hR1
  have Z1 := hid (show w.heap.size + 1 ≤ w1.heap.size by have := ZA.out; have := hg1.size; omega)
  clear hg1 hR1 HR HB
  obtain ⟨n, hn⟩ : ∃ n, lenB BB 0 = n := ⟨_, rfl⟩
  have hn255 : n ≤ 255 := by rw [← hn]; exact (lenB_cast HBD.out 0).2
  have HN := hid hn
  have e1 : numOf (BB.take 1) 0 ((1 : Nat) : Int) = (n : Int) := by rw [← hn]; exact HN1.out
  rw [e1]
  clear hn e1
  go_wp2_with fail
  by_cases hn239 : ¬ n ≤ 239
  · refine (take_no n HR1.out.row (by omega) (by omega)).mono ?_
    rintro e w2 ⟨rfl, e2⟩
    subst w2
    go_wp2_with fail
    exact ⟨rfl, .inl ⟨slotsZ_no1 (by rw [HN.out, HL.out]; omega), _, rfl⟩, HB1.out⟩
  replace hn239 := Decidable.not_not.1 hn239
  refine (take_yes HR1.out n (by omega)).mono ?_
  rintro e w2 ⟨rfl, hg2, off2, c2, hR2⟩
  rw [List.drop_drop] at hR2
  have RL := hid (show Reads w2 (some ⟨b, off1, none⟩) n ((BB.drop 1).take n) from reads_front (HR1.out.reads.other hg2 (fun a e => by cases e; exact fun e => HR1.out.ne (Option.some.inj e))) (by omega))
  have HB2 := hid (HB1.out.grown hg2 HB1.out.size (fun k hk => by cases hk; exact Nat.le_refl _))
  have HR2 := hid hR2
  have Z2 := hid (Nat.le_trans Z1.out hg2.size)
  clear hg2 hR2 HR1 HB1 Z1
  go_wp2_with fail
  go_loopw [5, 14] (fun s i wr => ∃ (j p : Nat) (acc : List (List Int)) (a5 : Option Addr) (c5 : Nat) (xs : List Value) (off3 c3 : Nat), j ≤ n ∧ i = .int .i64 j ∧ s = .slice a5 j c5 ∧ p ≤ 240 ∧ Hid (cutA BB j = some (acc, p)) ∧ Hid (acc.length = j) ∧ Hid (wr.ownsRow (w.heap.size + 1) 22 1 (.slice a5 j c5) j xs) ∧ Hid (Bands wr (w.heap.size + 1) wr.heap.size xs acc) ∧ Hid (Rd wr w.heap.size b off3 (240 - p) c3 (BB.drop p)) ∧ Hid (Reads wr (some ⟨b, off1, none⟩) n ((BB.drop 1).take n)) ∧ Hid (Below w.heap.size w wr) ∧ Hid (w.heap.size + 1 ≤ wr.heap.size)) (fun _ i _ => n - (intOf i).toNat)
  case atStart => exact ⟨0, 1 + n, [], none, 0, [], off2, c2, Nat.zero_le _, rfl, rfl, by omega, hid (by simp only [cutA, HN.out]), hid rfl, hid (World.ownsRow_nil _ _ _ _), hid (Bands.nil _ _ _), hid (by have := HR2.out; rw [show 240 - (1 + n) = 240 - 1 - n by omega]; exact this), RL, HB2, Z2⟩
  case round =>
    clear RL HB2 Z2 HR2
    obtain ⟨j, p, acc, a5, c5, xs, off3, c3, hj, rfl, rfl, hp, HC, HA, HO, HBS, HR, RL, HB, HZ⟩ := hrel
    by_cases hlt : j < n
    · have hlt' : (j : Int) < (n : Int) := by omega
      have hj0 : (0 : Int) ≤ (j : Int) := by omega
      obtain ⟨k, hk⟩ : ∃ k, lenB BB (1 + j) = k := ⟨_, rfl⟩
      have hk255 : k ≤ 255 := by rw [← hk]; exact (lenB_cast HBD.out _).2
      have HK := hid hk
      have hcx : wr.cell? ⟨b, off1 + j, none⟩ = some (.int .u8 (k : Int)) := by
        rcases RL.out.cells with h0 | ⟨b', o', e, hcc⟩
        · omega
        · cases e
          rw [hcc j hlt, ← hk, ← (lenB_cast HBD.out (1 + j)).1]
          congr 2
          simp [List.getD, hlt, Nat.add_comm]
      have hw := wrap64 k hk255
      clear hk
      go_wp2_with fail
      clear hcx hw
      by_cases hpk : ¬ p + k ≤ 240
      · refine (take_no k HR.out.row (by omega) (by omega)).mono ?_
        rintro e w3 ⟨rfl, e3⟩
        subst w3
        go_wp2_with fail
        exact ⟨rfl, .inl ⟨slotsZ_no2 (j := j + 1) (by rw [HN.out]; omega) (cutA_stop HC.out (by rw [HK.out, HL.out]; exact hpk)), _, rfl⟩, HB.out⟩
      replace hpk := Decidable.not_not.1 hpk
      have HC2 := hid (cutA_some HC.out (by rw [HK.out, HL.out]; exact hpk))
      refine (take_yes HR.out k (by omega)).mono ?_
      rintro e w3 ⟨rfl, hg3, off4, c4, hR4⟩
      rw [List.drop_drop] at hR4
      have RT := hid (reads_front (HR.out.reads.other hg3 (fun a e => by cases e; exact fun e => HR.out.ne (Option.some.inj e))) (show k ≤ 240 - p by omega))
      replace RL := hid (RL.out.other hg3 (fun a e => by cases e; exact fun e => HR.out.ne (Option.some.inj e)))
      replace HB := hid (HB.out.grown hg3 HB.out.size (fun k hk => by cases hk; exact Nat.le_refl _))
      replace HO := hid (HO.out.kept hg3 (oty_ne HO.out HR.out.row (by decide)))
      replace HBS := hid ((HBS.out.beside hg3 (fun i => oty_ne (HBS.out.own i) HR.out.row (by decide))).mono (Nat.le_refl _) hg3.size)
      replace HZ := hid (Nat.le_trans HZ.out hg3.size)
      have HR4 := hid hR4
      have HCAP := hid HR.out.top
      clear hg3 hR4 HR
      go_wp2_with fail
      have bX := Below.alloc1 w3 (.cells #[.slice (some ⟨b, off3, none⟩) k c3] 22)
      have hkl : ((BB.drop p).take k).length = k := RT.out.len
      have RX := reads_one (heap_alloc_new w3 (.cells #[.slice (some ⟨b, off3, none⟩) k c3] 22)) (z := (BB.drop p).take k) ⟨_, c3, by rw [hkl], by rw [hkl]; exact RT.out.below bX (Nat.le_refl _), fun e => (by cases e), by rw [hkl]; unfold maxLen; omega⟩
      refine (impl_joined (m := 1) 1 RX rfl (by omega) (by show ((BB.drop p).take k).length + 0 ≤ 2097152; rw [hkl]; omega)).mono ?_
      rintro e w4 ⟨v4, rfl, o4, b4⟩
      have b5 := bX.trans (b4.mono bX.size)
      have o5 : w4.ownsRow w3.heap.size 5 1 v4 ((BB.drop p).take k).length (bys ((BB.drop p).take k)) := owns_lower (by simpa [tot] using o4) bX.size
      have HBDT := hid (RT.out.bd)
      have HKL := hid hkl
      rw [hkl] at o5
      obtain ⟨a4, c4', rfl⟩ := own_sl o5
      have O5 := hid o5
      have B5 := hid b5
      replace RL := hid (RL.out.below b5 (Nat.le_refl _))
      replace HR4 := hid (HR4.out.below b5 (Nat.le_refl _))
      replace HB := hid (HB.out.trans (b5.mono HB.out.size))
      replace HO := hid (owns_below b5 (Nat.le_refl _) HO.out)
      clear bX RX o4 b4 b5 o5 RT hkl
      go_wp2_with (at_builtin; refine wpList_append_row rfl _ _ 24 rfl (w.heap.size + 1) 22 i0 (.slice none 0 0) 1 24 Try.underlying24 hi hz0 hz1 hz2 rfl (by decide) _ j xs rfl (owns_below (Below.alloc1 w4 _) (Nat.le_refl _) HO.out) (some ⟨w4.heap.size, 0, none⟩) 1 1 [.slice a4 k c4'] rfl rfl (.inr ⟨_, rfl, World.news_of_block (heap_alloc_new w4 _)⟩) (fun e => by cases e) (by simp [Value.oneCell']) ?k4 ?k5 ?k6 ?_)
      case k4 => unfold maxLen; omega
      case k5 => omega
      case k6 => have := HZ.out; have := B5.out.size; simp; omega
      intro a6 c6 w6 o6 g6
      have bY := Below.alloc1 w4 (.cells #[.slice a4 k c4'] 22)
      have hB7 := HBS.out.grow (X := w4.alloc (.cells #[.slice a4 k c4'] 22)) HZ.out (B5.out.trans (bY.mono B5.out.size)) (z := (BB.drop p).take k) (by rw [HKL.out]; exact O5.out.alloc _) HBDT.out (owns_below bY (Nat.le_refl _) HO.out) (by decide) g6
      have RY := HR4.out.below bY (Nat.le_refl _)
      have R7 := hid (show Rd w6 w.heap.size b off4 (240 - p - k) c4 (BB.drop (p + k)) from ⟨(g6.block _ RY.lt (own_nk (owns_below bY (Nat.le_refl _) HO.out) RY.row (by decide))).trans RY.row, RY.reads.other g6 (fun a e => by cases e; exact fun e => by have := (HO.out.lt b e.symm).1; omega), RY.cap, RY.top, RY.ne⟩)
      have RL7 := hid ((RL.out.below bY (Nat.le_refl _)).other g6 (fun a e => by cases e; exact fun e => by have := (HO.out.lt b e.symm).1; omega))
      have HB7 := hid ((HB.out.trans (bY.mono HB.out.size)).grown g6 (Nat.le_trans HB.out.size bY.size) (fun q hq => by have := (HO.out.lt q hq).1; omega))
      have HZ7 := hid (show w.heap.size + 1 ≤ w6.heap.size by have := HZ.out; have := B5.out.size; have := bY.size; have := g6.size; omega)
      have HBS7 := hid hB7
      have HO7 := hid o6
      clear bY hB7 RY o6 g6 HO HBS RL HB HZ HR4 O5 B5
      go_wp2_with fail
      go_roundw
      case rel => exact ⟨j + 1, p + k, acc ++ [(BB.drop p).take k], a6, c6, xs ++ [.slice a4 k c4'], off4, c4, by omega, by go_num, rfl, hpk, hid (by rw [HC2.out, HK.out]), hid (by simp [HA.out]), HO7, HBS7, hid (by rw [show 240 - (p + k) = 240 - p - k by omega]; exact R7.out), RL7, HB7, HZ7⟩
      case measure => simp [intOf]; omega
    · have hlt' : ¬ (j : Int) < (n : Int) := by omega
      obtain rfl : n = j := by omega
      go_wp2_with fail
      go_ret
      refine ⟨.inr ⟨acc, a5, c5, ?_, by rw [HA.out]; rfl, ?_⟩, HB.out⟩
      · have hcc := HC.out
        rw [← HN.out] at hcc
        exact slotsZ_yes (by rw [HN.out, HL.out]; omega) hcc
      · rw [HA.out]
        exact (show OwnP wr (w.heap.size + 1) wr.heap.size (.slice a5 n c5) acc from ⟨⟨xs, by rw [HA.out]; exact HO.out, HBS.out⟩, fun q hq => (HO.out.lt q hq).2⟩).mono (by omega) (Nat.le_refl _)
end Go.Proofs.Ytdfieopdbpklnaa
