/- The contracts of both PagePlace. Conditions: lists of at most 2^47. -/
import Derived.Test.YtebhipicfgnajaaGreatPv
namespace Go.Proofs.YtebhipicfgnajaaGreat
open Go.RowKit
set_option maxRecDepth 100000

set_option maxHeartbeats 3200000 in
theorem spec_PagePlace (L : Int) {a : Option Addr} {n : Nat} (c : Nat) {ss : List (List Int)} (m : Int) {w : World} (h : ReadsS w a ss) (hl : ss.length = n) (hn : n ≤ 140737488355328) :
    Calls Tryz.prog 141 #[.agg #[.int .i64 L, .slice a n c], .int .i64 m] w fun e w' => e = .returned (.int .i64 (placeP L ss m)) ∧ Below w.heap.size w w' := by
  have HX := hid (ArgP.new L n c h 97 w.heap.size rfl)
  have HB := hid (Below.alloc1 w (.cells #[.int .i64 L, .slice a n c] 97))
  have HU := hid (usedP_bd (L := L) (ss := ss))
  have i1 := spec_inP m 1 92
  clear h
  go_enter Tryz.func141, Tryz.ntmps141
  go_wp2_with fail
  generalize w.alloc (.cells #[.int .i64 L, .slice a n c] 97) = W at *
  refine (spec_PageUsed L c HX.out.reads hl).mono ?_
  rintro e w1 ⟨rfl, b⟩
  replace HX := hid (HX.out.below b (Nat.le_refl _))
  replace HB := hid (HB.out.trans (b.mono HB.out.size))
  clear b
  rcases HU.out with ⟨e1, e2⟩ | ⟨e1, e2, e3⟩
  · rw [e2]
    have HO := hid (placeP_no (n := m) (.inl e1))
    clear e1 e2
    go_wp2_with fail
    go_ret
    exact ⟨by rw [HO.out]; rfl, HB.out⟩
  obtain ⟨u, hu⟩ : ∃ u, usedP L ss = u := ⟨_, rfl⟩
  rw [hu] at e2 e3 ⊢
  have HE := hid e1
  have HUU := hid hu
  clear e1 hu HU
  have qu : ¬ u < 0 := by omega
  go_wp2_with fail
  refine (i1 _).mono ?_
  rintro e w2 ⟨rfl, e1⟩
  subst w2
  clear i1
  by_cases hm : 1 ≤ m ∧ m ≤ 92
  · rw [decide_eq_true hm]
    obtain ⟨hm1, hm2⟩ := hm
    obtain ⟨c0, c1⟩ := HX.out.box
    have HBK : Hid (backP L ss m = if n < 16 ∧ u + 1 + m ≤ 240 then (n : Int) else -1) := hid (by unfold backP; rw [HUU.out, hl])
    go_wp2_with fail
    go_loopw [6] (fun i wr => ∃ k j : Nat, k ≤ n ∧ i = .int .i64 k ∧ Hid (∀ j, j < k → (ss.getD j []).length = 0 → ¬ u + m ≤ 240) ∧ wr = w1.drewN j) (fun i _ => n - (intOf i).toNat)
    case atStart => exact ⟨0, 0, Nat.zero_le _, rfl, hid (fun j hj => by omega), rfl⟩
    case round =>
      obtain ⟨k, j, hk, rfl, HJ, rfl⟩ := hrel
      have HB2 := hid (HB.out.trans ((Still.drewN w1 j).below _))
      by_cases hlt : k < n
      · have hlt' : (k : Int) < (n : Int) := by omega
        have hk0 : (0 : Int) ≤ (k : Int) := by omega
        rcases HX.out.reads.cells with h0 | ⟨b, off, rfl, hc⟩
        · omega
        obtain ⟨v, hcx, a, c', rfl, hr0, _, _⟩ := hc k (by omega)
        obtain ⟨z, hz⟩ : ∃ z, (ss.getD k []).length = z := ⟨_, rfl⟩
        rw [hz] at hcx
        have HZ := hid hz
        clear hc hr0 hz
        by_cases hz0 : z = 0
        · subst hz0
          by_cases hf : u + m ≤ 240
          · have HO := hid (show placeP L ss m = k from placeP_free HE.out ⟨hm1, hm2⟩ (freeP_some (by omega) HZ.out (fun j hj e => HJ.out j hj e hf)) (by rw [HUU.out]; exact hf))
            go_wp2_with fail
            go_ret
            exact ⟨by rw [HO.out]; rfl, HB2.out⟩
          · have HF := hid hf
            go_wp2_with fail
            go_roundw
            case rel => exact ⟨k + 1, _, by omega, by go_num, hid (fun j hj e => HF.out), rfl⟩
            case measure => simp [intOf]; omega
        · have q : ((z : Int) == 0) = false := by simpa using hz0
          have HZ0 := hid hz0
          go_wp2_with fail
          go_roundw
          case rel => exact ⟨k + 1, _, by omega, by go_num, hid (fun j hj e => by by_cases e' : j = k; (subst e'; exact absurd (HZ.out.symm.trans e) HZ0.out); exact HJ.out j (by omega) e), rfl⟩
          case measure => simp [intOf]; omega
      · obtain rfl : k = n := by omega
        have hlt' : ¬ (k : Int) < (k : Int) := by omega
        have HO := hid (show placeP L ss m = backP L ss m by
          cases hf : freeP ss with
          | none => exact placeP_none HE.out ⟨hm1, hm2⟩ hf
          | some q =>
            obtain ⟨f1, f2, _⟩ := freeP_is hf
            exact placeP_full HE.out ⟨hm1, hm2⟩ hf (by rw [HUU.out]; exact HJ.out q (by omega) f2))
        by_cases g1 : k < 16
        · have g1' : (k : Int) < 16 := by omega
          by_cases g2 : u + 1 + m ≤ 240
          · have HO2 := hid (HBK.out.trans (if_pos ⟨g1, g2⟩))
            go_wp2_with fail
            go_ret
            exact ⟨by rw [HO.out, HO2.out]; rfl, HB2.out⟩
          · have HO2 := hid (HBK.out.trans (if_neg (fun x => g2 x.2)))
            go_wp2_with fail
            go_ret
            exact ⟨by rw [HO.out, HO2.out]; rfl, HB2.out⟩
        · have g1' : ¬ (k : Int) < 16 := by omega
          have HO2 := hid (HBK.out.trans (if_neg (fun x => g1 x.1)))
          go_wp2_with fail
          go_ret
          exact ⟨by rw [HO.out, HO2.out]; rfl, HB2.out⟩
  · rw [decide_eq_false hm]
    have HO := hid (placeP_no (L := L) (ss := ss) (n := m) (.inr hm))
    clear hm
    go_wp2_with fail
    go_ret
    exact ⟨by rw [HO.out]; rfl, HB.out⟩

set_option maxHeartbeats 3200000 in
theorem impl_PagePlace (L : Int) {a : Option Addr} {n : Nat} (c : Nat) {ss : List (List Int)} (m : Int) {w : World} (h : ReadsS w a ss) (hl : ss.length = n) (hn : n ≤ 140737488355328) :
    Calls Tryz.prog 79 #[.agg #[.int .i64 L, .slice a n c], .int .i64 m] w fun e w' => e = .returned (.int .i64 (placeP L ss m)) ∧ Below w.heap.size w w' := by
  have HX := hid (ArgP.new L n c h 97 w.heap.size rfl)
  have HB := hid (Below.alloc1 w (.cells #[.int .i64 L, .slice a n c] 97))
  have HU := hid (usedP_bd (L := L) (ss := ss))
  have i1 := impl_inP m 1 92
  clear h
  go_enter Tryz.func79, Tryz.ntmps79
  go_wp2_with fail
  generalize w.alloc (.cells #[.int .i64 L, .slice a n c] 97) = W at *
  refine (impl_PageUsed L c HX.out.reads hl hn).mono ?_
  rintro e w1 ⟨rfl, b⟩
  replace HX := hid (HX.out.below b (Nat.le_refl _))
  replace HB := hid (HB.out.trans (b.mono HB.out.size))
  clear b
  rcases HU.out with ⟨e1, e2⟩ | ⟨e1, e2, e3⟩
  · rw [e2]
    have HO := hid (placeP_no (n := m) (.inl e1))
    clear e1 e2
    go_wp2_with fail
    go_ret
    exact ⟨by rw [HO.out]; rfl, HB.out⟩
  obtain ⟨u, hu⟩ : ∃ u, usedP L ss = u := ⟨_, rfl⟩
  rw [hu] at e2 e3 ⊢
  have HE := hid e1
  have HUU := hid hu
  clear e1 hu HU
  have qu : (u == -1) = false := by simp; omega
  go_wp2_with fail
  refine (i1 _).mono ?_
  rintro e w2 ⟨rfl, e1⟩
  subst w2
  clear i1
  by_cases hm : 1 ≤ m ∧ m ≤ 92
  · rw [decide_eq_true hm]
    obtain ⟨hm1, hm2⟩ := hm
    obtain ⟨c0, c1⟩ := HX.out.box
    have HBK : Hid (backP L ss m = if n < 16 ∧ u + 1 + m ≤ 240 then (n : Int) else -1) := hid (by unfold backP; rw [HUU.out, hl])
    go_wp2_with fail
    refine (index_free c HX.out.reads hl hn).mono ?_
    rintro e w2 ⟨r, rfl, hr, b⟩
    replace HX := hid (HX.out.below b (Nat.le_refl _))
    replace HB := hid (HB.out.trans (b.mono HB.out.size))
    clear b c0 c1
    obtain ⟨c0, c1⟩ := HX.out.box
    have key : (∃ k : Nat, r = k ∧ k < n ∧ u + m ≤ 240 ∧ placeP L ss m = k) ∨ (¬ (0 ≤ r ∧ u + m ≤ 240) ∧ placeP L ss m = backP L ss m) := by
      rcases hr with ⟨rfl, hr⟩ | ⟨k, rfl, hk, h1, h2⟩
      · right
        exact ⟨by omega, placeP_none HE.out ⟨hm1, hm2⟩ (freeP_none fun j hj => of_decide_eq_false (hr j hj))⟩
      · have hf := freeP_some hk (of_decide_eq_true h1) (fun j hj => of_decide_eq_false (h2 j hj))
        by_cases hf2 : u + m ≤ 240
        · left
          exact ⟨k, rfl, by omega, hf2, placeP_free HE.out ⟨hm1, hm2⟩ hf (by rw [HUU.out]; exact hf2)⟩
        · right
          exact ⟨by omega, placeP_full HE.out ⟨hm1, hm2⟩ hf (by rw [HUU.out]; exact hf2)⟩
    clear hr
    rcases key with ⟨k, rfl, hk, hf, hp⟩ | ⟨hf, hp⟩
    · have HP := hid hp
      clear hp
      have hk0 : (0 : Int) ≤ (k : Int) := by omega
      go_wp2_with fail
      go_ret
      exact ⟨by rw [HP.out]; rfl, HB.out⟩
    · have HP := hid hp
      clear hp
      by_cases hr0 : 0 ≤ r
      · have hf2 : ¬ u + m ≤ 240 := fun x => hf ⟨hr0, x⟩
        clear hf
        by_cases g1 : n < 16
        · have g1' : (n : Int) < 16 := by omega
          by_cases g2 : u + 1 + m ≤ 240
          · omega
          · have HO2 := hid (HBK.out.trans (if_neg (fun x => g2 x.2)))
            go_wp2_with fail
            go_ret
            exact ⟨by rw [HP.out, HO2.out]; rfl, HB.out⟩
        · have g1' : ¬ (n : Int) < 16 := by omega
          have HO2 := hid (HBK.out.trans (if_neg (fun x => g1 x.1)))
          go_wp2_with fail
          go_ret
          exact ⟨by rw [HP.out, HO2.out]; rfl, HB.out⟩
      · clear hf
        by_cases g1 : n < 16
        · have g1' : (n : Int) < 16 := by omega
          by_cases g2 : u + 1 + m ≤ 240
          · have HO2 := hid (HBK.out.trans (if_pos ⟨g1, g2⟩))
            go_wp2_with fail
            go_ret
            exact ⟨by rw [HP.out, HO2.out]; rfl, HB.out⟩
          · have HO2 := hid (HBK.out.trans (if_neg (fun x => g2 x.2)))
            go_wp2_with fail
            go_ret
            exact ⟨by rw [HP.out, HO2.out]; rfl, HB.out⟩
        · have g1' : ¬ (n : Int) < 16 := by omega
          have HO2 := hid (HBK.out.trans (if_neg (fun x => g1 x.1)))
          go_wp2_with fail
          go_ret
          exact ⟨by rw [HP.out, HO2.out]; rfl, HB.out⟩
  · rw [decide_eq_false hm]
    have HO := hid (placeP_no (L := L) (ss := ss) (n := m) (.inr hm))
    clear hm
    go_wp2_with fail
    go_ret
    exact ⟨by rw [HO.out]; rfl, HB.out⟩
end Go.Proofs.YtebhipicfgnajaaGreat
