/- FnPlaces' walk. -/
import Derived.Test.YtdfieopdbpklnaaPf7
import Derived.Test.YtdfieopdbpklnaaPm7
namespace Go.Proofs.Ytdfieopdbpklnaa
open Go.RowKit
set_option maxRecDepth 100000

set_option maxHeartbeats 1600000 in
theorem lawPlaces {ad : Option Addr} {nn : Nat} (cap : Nat) {zs : List Int} {w : World} (r : Reads w ad nn zs) (hm : nn ≤ maxLen) :
    Calls Try.prog 4 #[.slice ad nn cap] w fun e w' => e = .returned (.bool true) ∧ Below w.heap.size w w' := by
  unfold maxLen at hm
  have HR := hid r
  have HB := hid (Below.refl w.heap.size w)
  have hbg := law_big ad nn cap
  clear r
  go_enter Try.func4, Try.ntmps4
  go_wp2_with fail
  refine (hbg _).mono ?_
  rintro e w0 ⟨rfl, hw0⟩
  subst w0
  clear hbg
  by_cases hbig : (1048576 : Int) < (nn : Int)
  · rw [decide_eq_true hbig]
    go_wp2_with fail
    go_ret
    exact ⟨rfl, HB.out⟩
  rw [decide_eq_false hbig]
  have hn : nn ≤ 2097152 := by omega
  clear hbig
  go_wp2_with fail
  refine (drawPagePlace cap HR.out hn).mono ?_
  rintro e w1 ⟨L, a, k, c, ss, x, rfl, ⟨hx0, hx1⟩, rd, hl, sm, b⟩
  replace HB := hid (HB.out.trans (b.mono HB.out.size))
  have hk40 : k ≤ 40 := by have := sm.n; omega
  have HX := hid (ArgP.new L k c rd 26 w1.heap.size rfl)
  have bA := Below.alloc1 w1 (.cells #[.int .i64 L, .slice a k c] 26)
  replace HB := hid (HB.out.trans (bA.mono HB.out.size))
  clear b rd sm HR bA
  go_wp2_with fail
  generalize w1.alloc (.cells #[.int .i64 L, .slice a k c] 26) = U at *
  generalize w1.heap.size = pb at *
  refine (impl_PagePlace L c x HX.out.reads hl (by omega)).mono ?_
  rintro e w2 ⟨rfl, b⟩
  replace HX := hid (HX.out.below b (Nat.le_refl _))
  replace HB := hid (HB.out.trans (b.mono HB.out.size))
  clear b
  obtain ⟨s, hs⟩ : ∃ s, placeP L ss x = s := ⟨_, rfl⟩
  rw [hs]
  have HS := hid hs
  clear hs
  obtain ⟨y0, y1⟩ := HX.out.box
  go_wp2_with fail
  clear y0 y1
  refine (spec_PageUsed L c HX.out.reads hl).mono ?_
  rintro e w3 ⟨rfl, b⟩
  replace HX := hid (HX.out.below b (Nat.le_refl _))
  replace HB := hid (HB.out.trans (b.mono HB.out.size))
  clear b
  have no : okP L ss = false ∨ ¬ (1 ≤ x ∧ x ≤ 92) → s = -1 := fun h => by rw [← HS.out]; exact placeP_no h
  rcases usedP_bd (L := L) (ss := ss) with ⟨e1, e2⟩ | ⟨e1, e2, e3⟩
  · rw [e2]
    obtain rfl := no (.inl e1)
    clear e1 e2 no
    go_wp2_with fail
    go_ret
    exact ⟨rfl, HB.out⟩
  have HOK := hid e1
  obtain ⟨u, hu⟩ : ∃ u, usedP L ss = u := ⟨_, rfl⟩
  rw [hu] at e2 e3 ⊢
  have qu : ¬ u < 0 := by omega
  clear e1 hu
  by_cases hx : ¬ (1 ≤ x ∧ x ≤ 92)
  · obtain rfl := no (.inr hx)
    by_cases hx2 : x < 1
    · go_wp2_with fail
      go_ret
      exact ⟨rfl, HB.out⟩
    · have hx3 : 92 < x := by omega
      go_wp2_with fail
      go_ret
      exact ⟨rfl, HB.out⟩
  replace hx := Decidable.not_not.1 hx
  obtain ⟨hx2, hx3⟩ := hx
  obtain ⟨n, rfl⟩ := Int.eq_ofNat_of_zero_le (show 0 ≤ x by omega)
  have q2 : ¬ (n : Int) < 1 := by omega
  have q3 : ¬ (92 : Int) < (n : Int) := by omega
  have hmk := mkZ (n : Int) (by omega) (by omega) w3
  rw [Int.toNat_natCast] at hmk
  have HZL := hid (show (List.replicate n (0 : Int)).length = n by simp)
  have HDR := hid (show Reads (w3.alloc (.cells (madeCells #[.int .u8 0] n) 5)) (some ⟨w3.heap.size, 0, none⟩) n (List.replicate n 0) ∧ ((some ⟨w3.heap.size, 0, none⟩ : Option Addr) = none → n = 0) from ⟨(reads_of (ownZ n (by omega) w3) (rep_bd n)).1, fun e => by cases e⟩)
  have bZ := Below.alloc1 w3 (.cells (madeCells #[.int .u8 0] n) 5)
  replace HX := hid (HX.out.below bZ (Nat.le_refl _))
  replace HB := hid (HB.out.trans (bZ.mono HB.out.size))
  clear bZ no hx0 hx1
  by_cases hs0 : 0 ≤ s
  · have HPY := hid (place_yes (z := List.replicate n 0) HOK.out (by rw [HZL.out]; omega) (by rw [HZL.out]; exact HS.out) hs0)
    obtain ⟨y0, y1⟩ := HX.out.box
    go_wp2_with fail
    clear y0 y1 hmk
    generalize w3.alloc (.cells (madeCells #[.int .u8 0] n) 5) = V at *
    generalize w3.heap.size = gd at *
    have hok := HPY.out.1
    obtain ⟨RL, RS, hR⟩ : ∃ (RL : Int) (RS : List (List Int)), putP L ss s (List.replicate n 0) 5 = (RL, RS) := ⟨_, _, rfl⟩
    obtain ⟨m, hm⟩ : ∃ m, RS.length = m := ⟨_, rfl⟩
    refine (impl_PagePut L c s n 5 HX.out.reads hl (by omega) HDR.out.1 HDR.out.2 hR hok hm).mono ?_
    rintro e w4 ⟨aq, cq, rfl, _, b⟩
    replace HX := hid (HX.out.below b (Nat.le_refl _))
    replace HDR := hid (show Reads w4 (some ⟨gd, 0, none⟩) n (List.replicate n 0) ∧ ((some ⟨gd, 0, none⟩ : Option Addr) = none → n = 0) from ⟨HDR.out.1.below b (Nat.le_refl _), fun e => by cases e⟩)
    replace HB := hid (HB.out.trans (b.mono HB.out.size))
    have bQ := Below.alloc1 w4 (.cells #[.int .i64 RL, .slice aq m cq] 26)
    replace HX := hid (HX.out.below bQ (Nat.le_refl _))
    replace HDR := hid (show Reads (w4.alloc (.cells #[.int .i64 RL, .slice aq m cq] 26)) (some ⟨gd, 0, none⟩) n (List.replicate n 0) ∧ ((some ⟨gd, 0, none⟩ : Option Addr) = none → n = 0) from ⟨HDR.out.1.below bQ (Nat.le_refl _), fun e => by cases e⟩)
    replace HB := hid (HB.out.trans (bQ.mono HB.out.size))
    clear b bQ hR hm hok
    rcases HPY.out.2 with rfl | ⟨q, rfl, hq, hq0⟩
    · rw [hl]
      obtain ⟨y0, y1⟩ := HX.out.box
      go_wp2_with fail
      go_ret
      exact ⟨rfl, HB.out⟩
    · have hqk : ((q : Int) == (k : Int)) = false := by simp; omega
      have hqk2 : (q : Int) < (k : Int) := by omega
      have hq1 : (0 : Int) ≤ (q : Int) := by omega
      obtain ⟨y0, y1⟩ := HX.out.box
      rcases HX.out.reads.cells with h0 | ⟨gb, off, rfl, hc⟩
      · omega
      obtain ⟨v, hcx, ax, cx, rfl, hr0, _, _⟩ := hc q hq
      rw [hq0] at hcx
      clear hc hr0
      go_wp2_with fail
      go_ret
      exact ⟨rfl, HB.out⟩
  · have hs1 : s < 0 := by omega
    have HPN := hid (place_none (z := List.replicate n 0) HOK.out (by rw [HZL.out]; omega) (by rw [HZL.out, HS.out]; exact hs1))
    go_wp2_with fail
    clear hmk
    generalize w3.alloc (.cells (madeCells #[.int .u8 0] n) 5) = V at *
    generalize w3.heap.size = gd at *
    go_loopw [9] (fun i wr => ∃ j : Nat, j ≤ k + 1 ∧ i = .int .i64 j ∧ Hid (ArgP wr pb L a k c ss) ∧ Hid (Reads wr (some ⟨gd, 0, none⟩) n (List.replicate n 0) ∧ ((some ⟨gd, 0, none⟩ : Option Addr) = none → n = 0)) ∧ Hid (Below w.heap.size w wr)) (fun i _ => k + 1 - (intOf i).toNat)
    case atStart => exact ⟨0, by omega, rfl, HX, HDR, HB⟩
    case round =>
      clear HX HDR HB
      obtain ⟨j, hj, rfl, HX, HDR, HB⟩ := hrel
      obtain ⟨y0, y1⟩ := HX.out.box
      by_cases hlt : j ≤ k
      · have hlt' : (j : Int) ≤ (k : Int) := by omega
        go_wp2_with fail
        clear y0 y1
        obtain ⟨ok, hok⟩ : ∃ ok, putOk L ss (j : Int) (List.replicate n 0) 5 = ok := ⟨_, rfl⟩
        have HKO := hid hok
        obtain ⟨RL, RS, hR⟩ : ∃ (RL : Int) (RS : List (List Int)), putP L ss (j : Int) (List.replicate n 0) 5 = (RL, RS) := ⟨_, _, rfl⟩
        obtain ⟨m, hm⟩ : ∃ m, RS.length = m := ⟨_, rfl⟩
        refine (impl_PagePut L c (j : Int) n 5 HX.out.reads hl (by omega) HDR.out.1 HDR.out.2 hR hok hm).mono ?_
        rintro e w4 ⟨aq, cq, rfl, _, b⟩
        replace HX := hid (HX.out.below b (Nat.le_refl _))
        replace HDR := hid (show Reads w4 (some ⟨gd, 0, none⟩) n (List.replicate n 0) ∧ ((some ⟨gd, 0, none⟩ : Option Addr) = none → n = 0) from ⟨HDR.out.1.below b (Nat.le_refl _), fun e => by cases e⟩)
        replace HB := hid (HB.out.trans (b.mono HB.out.size))
        have bQ := Below.alloc1 w4 (.cells #[.int .i64 RL, .slice aq m cq] 26)
        replace HX := hid (HX.out.below bQ (Nat.le_refl _))
        replace HDR := hid (show Reads (w4.alloc (.cells #[.int .i64 RL, .slice aq m cq] 26)) (some ⟨gd, 0, none⟩) n (List.replicate n 0) ∧ ((some ⟨gd, 0, none⟩ : Option Addr) = none → n = 0) from ⟨HDR.out.1.below bQ (Nat.le_refl _), fun e => by cases e⟩)
        replace HB := hid (HB.out.trans (bQ.mono HB.out.size))
        clear b bQ hR hm hok
        obtain ⟨y0, y1⟩ := HX.out.box
        by_cases hjk : j = k
        · have e5 : ok = false := by rw [← HKO.out]; exact HPN.out j (by omega) (.inl (by omega))
          subst e5
          have hjk1 : ((j : Int) == (k : Int)) = true := by simp [hjk]
          have HJ := hid hjk
          clear hjk
          go_wp2_with fail
          go_roundw
          case rel => exact ⟨j + 1, by omega, by go_num, HX, HDR, HB⟩
          case measure => simp [intOf]; omega
        · have hjk1 : ((j : Int) == (k : Int)) = false := by simp; omega
          have hjk2 : (j : Int) < (k : Int) := by omega
          have hj1 : (0 : Int) ≤ (j : Int) := by omega
          rcases HX.out.reads.cells with h0 | ⟨gb, off, e0, hc⟩
          · omega
          obtain ⟨v, hcx, ax, cx, rfl, hr0, _, _⟩ := hc j (by omega)
          obtain ⟨z, hz⟩ : ∃ z, (ss.getD j []).length = z := ⟨_, rfl⟩
          rw [hz] at hcx
          subst e0
          clear hc hr0
          by_cases hz0 : z = 0
          · have e5 : ok = false := by rw [← HKO.out]; exact HPN.out j (by omega) (.inr (by omega))
            subst e5
            subst hz0
            clear hz
            go_wp2_with fail
            go_roundw
            case rel => exact ⟨j + 1, by omega, by go_num, HX, HDR, HB⟩
            case measure => simp [intOf]; omega
          · have hz1 : ((z : Int) == 0) = false := by simpa using hz0
            clear hz
            go_wp2_with fail
            go_roundw
            case rel => exact ⟨j + 1, by omega, by go_num, HX, HDR, HB⟩
            case measure => simp [intOf]; omega
      · have hlt' : ¬ (j : Int) ≤ (k : Int) := by omega
        go_wp2_with fail
        go_ret
        exact ⟨rfl, HB.out⟩
end Go.Proofs.Ytdfieopdbpklnaa
