/- The contracts of the library's IndexFunc and ContainsFunc over slots, of endsFree, of the program's PageUsed and isPage. Conditions: lists of at most 2^47. -/
import Derived.Test.YtebhipicfgnajaaGreatPu
namespace Go.Proofs.YtebhipicfgnajaaGreat
open Go.RowKit
set_option maxRecDepth 100000

/-- Where the first slot is that is so. -/
def ixOf (p : Nat → Bool) (ss : List (List Int)) (r : Int) : Prop := (r = -1 ∧ ∀ j, j < ss.length → p (ss.getD j []).length = false) ∨ ∃ k : Nat, r = k ∧ k < ss.length ∧ p (ss.getD k []).length = true ∧ ∀ j, j < k → p (ss.getD j []).length = false

set_option maxHeartbeats 3200000 in
theorem index_free {a : Option Addr} {n : Nat} (c : Nat) {ss : List (List Int)} {w : World} (h : ReadsS w a ss) (hl : ss.length = n) (hn : n ≤ 140737488355328) :
    Calls Tryz.prog 131 #[.slice a n c, .func (.func 132) #[] #[]] w fun e w' => ∃ r, e = .returned (.int .i64 r) ∧ ixOf (fun m => decide (m = 0)) ss r ∧ Below w.heap.size w w' := by
  go_enter Tryz.func131, Tryz.ntmps131
  go_wp2_with fail
  go_loopw [8] (fun i wr => ∃ k m : Nat, k ≤ n ∧ i = .int .i64 k ∧ Hid (∀ j, j < k → (fun m => decide (m = 0)) (ss.getD j []).length = false) ∧ wr = w.drewN m) (fun i _ => n - (intOf i).toNat)
  case atStart => exact ⟨0, 0, Nat.zero_le _, rfl, hid (fun j hj => by omega), rfl⟩
  case round =>
    obtain ⟨k, m, hk, rfl, HJ, rfl⟩ := hrel
    by_cases hlt : k < n
    · have hlt' : (k : Int) < (n : Int) := by omega
      have hk0 : (0 : Int) ≤ (k : Int) := by omega
      rcases h.cells with h0 | ⟨b, off, rfl, hc⟩
      · omega
      obtain ⟨v, hcx, a, c', rfl, hr0, _, _⟩ := hc k (by omega)
      obtain ⟨z, hz⟩ : ∃ z, (ss.getD k []).length = z := ⟨_, rfl⟩
      rw [hz] at hcx
      have HZ := hid hz
      clear hc hr0 hz
      go_wp2_with fail
      refine (impl_isFree a z c' _).mono ?_
      rintro e w1 ⟨rfl, e1⟩
      subst w1
      by_cases hp : decide (z = 0) = true
      · rw [hp]
        have HP := hid hp
        clear hp
        go_wp2_with fail
        go_ret
        exact ⟨_, rfl, .inr ⟨k, rfl, by omega, by rw [HZ.out]; exact HP.out, HJ.out⟩, (Still.drewN _ _).below _⟩
      · rw [Bool.not_eq_true] at hp
        rw [hp]
        have HP := hid hp
        clear hp
        go_wp2_with fail
        go_roundw
        case rel => exact ⟨k + 1, _, by omega, by go_num, hid (fun j hj => by by_cases e : j = k; (subst e; rw [HZ.out]; exact HP.out); exact HJ.out j (by omega)), rfl⟩
        case measure => simp [intOf]; omega
    · obtain rfl : k = n := by omega
      have hlt' : ¬ (k : Int) < (k : Int) := by omega
      go_wp2_with fail
      go_ret
      exact ⟨_, rfl, .inl ⟨rfl, fun j hj => HJ.out j (by omega)⟩, (Still.drewN _ _).below _⟩

set_option maxHeartbeats 3200000 in
theorem index_long {a : Option Addr} {n : Nat} (c : Nat) {ss : List (List Int)} {w : World} (h : ReadsS w a ss) (hl : ss.length = n) (hn : n ≤ 140737488355328) :
    Calls Tryz.prog 131 #[.slice a n c, .func (.func 168) #[] #[]] w fun e w' => ∃ r, e = .returned (.int .i64 r) ∧ ixOf (fun m => decide (92 < m)) ss r ∧ Below w.heap.size w w' := by
  go_enter Tryz.func131, Tryz.ntmps131
  go_wp2_with fail
  go_loopw [8] (fun i wr => ∃ k m : Nat, k ≤ n ∧ i = .int .i64 k ∧ Hid (∀ j, j < k → (fun m => decide (92 < m)) (ss.getD j []).length = false) ∧ wr = w.drewN m) (fun i _ => n - (intOf i).toNat)
  case atStart => exact ⟨0, 0, Nat.zero_le _, rfl, hid (fun j hj => by omega), rfl⟩
  case round =>
    obtain ⟨k, m, hk, rfl, HJ, rfl⟩ := hrel
    by_cases hlt : k < n
    · have hlt' : (k : Int) < (n : Int) := by omega
      have hk0 : (0 : Int) ≤ (k : Int) := by omega
      rcases h.cells with h0 | ⟨b, off, rfl, hc⟩
      · omega
      obtain ⟨v, hcx, a, c', rfl, hr0, _, _⟩ := hc k (by omega)
      obtain ⟨z, hz⟩ : ∃ z, (ss.getD k []).length = z := ⟨_, rfl⟩
      rw [hz] at hcx
      have HZ := hid hz
      clear hc hr0 hz
      go_wp2_with fail
      refine (impl_isTooLong a z c' _).mono ?_
      rintro e w1 ⟨rfl, e1⟩
      subst w1
      by_cases hp : decide (92 < z) = true
      · rw [hp]
        have HP := hid hp
        clear hp
        go_wp2_with fail
        go_ret
        exact ⟨_, rfl, .inr ⟨k, rfl, by omega, by rw [HZ.out]; exact HP.out, HJ.out⟩, (Still.drewN _ _).below _⟩
      · rw [Bool.not_eq_true] at hp
        rw [hp]
        have HP := hid hp
        clear hp
        go_wp2_with fail
        go_roundw
        case rel => exact ⟨k + 1, _, by omega, by go_num, hid (fun j hj => by by_cases e : j = k; (subst e; rw [HZ.out]; exact HP.out); exact HJ.out j (by omega)), rfl⟩
        case measure => simp [intOf]; omega
    · obtain rfl : k = n := by omega
      have hlt' : ¬ (k : Int) < (k : Int) := by omega
      go_wp2_with fail
      go_ret
      exact ⟨_, rfl, .inl ⟨rfl, fun j hj => HJ.out j (by omega)⟩, (Still.drewN _ _).below _⟩

set_option maxHeartbeats 1600000 in
theorem contains_long {a : Option Addr} {n : Nat} (c : Nat) {ss : List (List Int)} {w : World} (h : ReadsS w a ss) (hl : ss.length = n) (hn : n ≤ 140737488355328) :
    Calls Tryz.prog 167 #[.slice a n c, .func (.func 168) #[] #[]] w fun e w' => e = .returned (.bool (anyL ss)) ∧ Below w.heap.size w w' := by
  go_enter Tryz.func167, Tryz.ntmps167
  go_wp2_with fail
  refine (index_long c h hl hn).mono ?_
  rintro e w1 ⟨r, rfl, hr, b⟩
  have HB := hid b
  clear b
  rcases hr with ⟨rfl, hr⟩ | ⟨k, rfl, hk, h1, _⟩
  · have HO := hid (anyL_no (ss := ss) fun i hi => by have := of_decide_eq_false (hr i hi); omega)
    clear hr
    go_wp2_with fail
    go_ret
    exact ⟨by rw [HO.out]; rfl, HB.out⟩
  · have HO := hid (anyL_yes (ss := ss) (i := k) (of_decide_eq_true h1))
    have hk0 : (0 : Int) ≤ (k : Int) := by omega
    clear h1
    go_wp2_with fail
    go_ret
    exact ⟨by rw [HO.out]; rfl, HB.out⟩

set_option maxHeartbeats 1600000 in
theorem impl_endsFree (L : Int) {a : Option Addr} {n : Nat} (c : Nat) {ss : List (List Int)} {w : World} (h : ReadsS w a ss) (hl : ss.length = n) (hn : n ≤ 140737488355328) :
    Calls Tryz.prog 166 #[.agg #[.int .i64 L, .slice a n c]] w fun e w' => e = .returned (.bool (endF ss)) ∧ Below w.heap.size w w' := by
  have HA := hid (Below.alloc1 w (.cells #[.int .i64 L, .slice a n c] 97))
  have h3 := hid (h.below HA.out (Nat.le_refl _))
  by_cases h0 : n = 0
  · subst h0
    obtain rfl := List.eq_nil_of_length_eq_zero hl
    go_enter Tryz.func166, Tryz.ntmps166
    go_wp2_with fail
    go_ret
    exact ⟨rfl, HA.out⟩
  · have hk1 : (0 : Int) < (n : Int) := by omega
    obtain ⟨q, hq⟩ : ∃ q, n - 1 = q := ⟨_, rfl⟩
    have hq1 : (n : Int) - 1 = (q : Int) := by omega
    have hq2 : (0 : Int) ≤ (q : Int) := by omega
    have hq3 : (q : Int) < (n : Int) := by omega
    rcases h3.out.cells with h00 | ⟨b, off, rfl, hc⟩
    · omega
    obtain ⟨v, hcx, a, c', rfl, hr0, _, _⟩ := hc q (by omega)
    have HE := hid (show endF ss = decide ((ss.getD q []).length = 0) by
      unfold endF; rw [hl, hq]
      by_cases e : (ss.getD q []).length = 0
      · rw [decide_eq_true ⟨by omega, e⟩, decide_eq_true e]
      · rw [decide_eq_false (fun x => e x.2), decide_eq_false e])
    obtain ⟨z, hz⟩ : ∃ z, (ss.getD q []).length = z := ⟨_, rfl⟩
    rw [hz] at hcx HE
    have HQ := hid hq
    have HQ1 := hid hq1
    clear hc hr0 hz hq h
    go_enter Tryz.func166, Tryz.ntmps166
    go_wp2_with fail
    refine (impl_isFree a z c' _).mono ?_
    rintro e w1 ⟨rfl, e1⟩
    subst w1
    go_wp2_with fail
    go_ret
    exact ⟨by rw [HE.out]; rfl, HA.out⟩

theorem okP_eq (L : Int) (ss : List (List Int)) (h1 : decide (0 ≤ L ∧ L ≤ 1000000) = true) (h2 : ss.length ≤ 16) (h3 : endF ss = false) (h4 : anyL ss = false) : okP L ss = decide (1 + ss.length + tot ss ≤ 240) := by
  unfold okP; rw [h1, decide_eq_true h2, h3, h4]; rfl

set_option maxHeartbeats 3200000 in
theorem impl_PageUsed_any (L : Int) {a : Option Addr} {n : Nat} (c : Nat) {ss : List (List Int)} {w : World} (h : ReadsS w a ss) (hl : ss.length = n) :
    Calls Tryz.prog 130 #[.agg #[.int .i64 L, .slice a n c]] w fun e w' => e = .returned (.int .i64 (usedP L ss)) ∧ Below w.heap.size w w' := by
  have HX := hid (ArgP.new L n c h 97 w.heap.size rfl)
  have HB := hid (Below.alloc1 w (.cells #[.int .i64 L, .slice a n c] 97))
  have i1 := impl_inP L 0 1000000
  clear h
  go_enter Tryz.func130, Tryz.ntmps130
  go_wp2_with fail
  generalize w.alloc (.cells #[.int .i64 L, .slice a n c] 97) = W at *
  refine (i1 _).mono ?_
  rintro e w1 ⟨rfl, e1⟩
  subst w1
  clear i1
  by_cases h1 : decide (0 ≤ L ∧ L ≤ 1000000) = true
  · rw [h1]
    have H1 := hid h1
    clear h1
    obtain ⟨c0, c1⟩ := HX.out.box
    by_cases h2 : n ≤ 16
    · have q2 : ¬ (16 : Int) < (n : Int) := by omega
      go_wp2_with fail
      refine (impl_endsFree L c HX.out.reads hl (by omega)).mono ?_
      rintro e w1 ⟨rfl, b⟩
      replace HX := hid (HX.out.below b (Nat.le_refl _))
      replace HB := hid (HB.out.trans (b.mono HB.out.size))
      clear b c0 c1
      by_cases h3 : endF ss = true
      · rw [h3]
        have HO := hid (usedP_no (okP_e (L := L) (ss := ss) (of_decide_eq_true h3).1 (of_decide_eq_true h3).2))
        clear h3
        go_wp2_with fail
        go_ret
        exact ⟨by rw [HO.out]; rfl, HB.out⟩
      rw [Bool.not_eq_true] at h3
      rw [h3]
      have H3 := hid h3
      clear h3
      obtain ⟨c0, c1⟩ := HX.out.box
      go_wp2_with fail
      refine (contains_long c HX.out.reads hl (by omega)).mono ?_
      rintro e w2 ⟨rfl, b⟩
      replace HX := hid (HX.out.below b (Nat.le_refl _))
      replace HB := hid (HB.out.trans (b.mono HB.out.size))
      clear b c0 c1
      by_cases h4 : anyL ss = true
      · rw [h4]
        have HO := hid (usedP_no (L := L) (ss := ss) (by unfold okP; rw [h4]; simp))
        clear h4
        go_wp2_with fail
        go_ret
        exact ⟨by rw [HO.out]; rfl, HB.out⟩
      rw [Bool.not_eq_true] at h4
      rw [h4]
      have H4 := hid h4
      have H5 := hid (anyL_at h4)
      have HK := hid (okP_eq L ss H1.out (by omega) H3.out h4)
      clear h4
      obtain ⟨c0, c1⟩ := HX.out.box
      go_wp2_with fail
      go_loopw [3, 28] (fun s i wr => ∃ k t m : Nat, k ≤ n ∧ i = .int .i64 k ∧ s = .int .i64 (1 + (k : Int) + (t : Int)) ∧ t ≤ 1500 ∧ Hid (t = tot (ss.take k) ∧ t ≤ 92 * k) ∧ wr = w2.drewN m) (fun _ i _ => n - (intOf i).toNat)
      case atStart => exact ⟨0, 0, 0, Nat.zero_le _, rfl, by simp, by omega, hid ⟨by simp [tot], by omega⟩, rfl⟩
      case round =>
        obtain ⟨k, t, m, hk, rfl, rfl, ht, HT, rfl⟩ := hrel
        by_cases hlt : k < n
        · have hlt' : (k : Int) < (n : Int) := by omega
          have hk0 : (0 : Int) ≤ (k : Int) := by omega
          rcases HX.out.reads.cells with h0 | ⟨b, off, rfl, hc⟩
          · omega
          obtain ⟨v, hcx, a, c', rfl, hr0, _, _⟩ := hc k (by omega)
          have HS := hid (tot_step ss k (by omega))
          have hz92 := H5.out k
          obtain ⟨z, hz⟩ : ∃ z, (ss.getD k []).length = z := ⟨_, rfl⟩
          rw [hz] at hcx HS hz92
          clear hc hr0 hz
          go_wp2_with fail
          try go_quiet (fail)
          try go_wp2_with fail
          go_roundw
          case rel => exact ⟨k + 1, t + z, _, by omega, by go_num, by go_num, by have := HT.out.2; omega, hid ⟨by rw [HS.out, ← HT.out.1], by have := HT.out.2; omega⟩, rfl⟩
          case measure => simp [intOf]; omega
        · obtain rfl : k = n := by omega
          have hlt' : ¬ (k : Int) < (k : Int) := by omega
          have HT1 := hid (show t = tot ss by rw [HT.out.1, List.take_of_length_le (by omega)])
          replace HB := hid (HB.out.trans ((Still.drewN w2 m).below _))
          by_cases ht2 : 1 + k + t ≤ 240
          · have q4 : ¬ (240 : Int) < 1 + (k : Int) + (t : Int) := by omega
            have HO := hid (show usedP L ss = 1 + (k : Int) + (t : Int) by rw [usedP_yes (by rw [HK.out, hl, ← HT1.out]; exact decide_eq_true ht2), hl, HT1.out])
            go_wp2_with fail
            go_ret
            exact ⟨by rw [HO.out]; rfl, HB.out⟩
          · have q4 : (240 : Int) < 1 + (k : Int) + (t : Int) := by omega
            have HO := hid (usedP_no (okP_t (L := L) (ss := ss) (by rw [hl, ← HT1.out]; exact ht2)))
            go_wp2_with fail
            go_ret
            exact ⟨by rw [HO.out]; rfl, HB.out⟩
    · have q2 : (16 : Int) < (n : Int) := by omega
      have HO := hid (usedP_no (okP_n (L := L) (ss := ss) (by omega)))
      go_wp2_with fail
      go_ret
      exact ⟨by rw [HO.out]; rfl, HB.out⟩
  · have HO := hid (usedP_no (okP_L (L := L) (ss := ss) (fun e => h1 (decide_eq_true e))))
    rw [Bool.not_eq_true] at h1
    rw [h1]
    clear h1
    go_wp2_with fail
    go_ret
    exact ⟨by rw [HO.out]; rfl, HB.out⟩

set_option maxHeartbeats 1600000 in
theorem impl_isPage_any (L : Int) {a : Option Addr} {n : Nat} (c : Nat) {ss : List (List Int)} {w : World} (h : ReadsS w a ss) (hl : ss.length = n) :
    Calls Tryz.prog 94 #[.agg #[.int .i64 L, .slice a n c]] w fun e w' => e = .returned (.bool (okP L ss)) ∧ Below w.heap.size w w' := by
  have HA := hid (Below.alloc1 w (.cells #[.int .i64 L, .slice a n c] 97))
  have h3 := hid (h.below HA.out (Nat.le_refl _))
  have HU := hid (usedP_bd (L := L) (ss := ss))
  clear h
  go_enter Tryz.func94, Tryz.ntmps94
  go_wp2_with fail
  refine (impl_PageUsed_any L c h3.out hl).mono ?_
  rintro e w1 ⟨rfl, b⟩
  have HB := hid (HA.out.trans (b.mono HA.out.size))
  clear b
  rcases HU.out with ⟨e1, e2⟩ | ⟨e1, e2, e3⟩
  · rw [e2]
    have HE := hid e1
    clear e1 e2
    go_wp2_with fail
    go_ret
    exact ⟨by rw [HE.out]; rfl, HB.out⟩
  · have HE := hid e1
    clear e1
    generalize usedP L ss = u at *
    have q : (u != -1) = true := by simp; omega
    go_wp2_with fail
    go_ret
    exact ⟨by rw [HE.out]; rfl, HB.out⟩
theorem impl_PageUsed (L : Int) {a : Option Addr} {n : Nat} (c : Nat) {ss : List (List Int)} {w : World} (h : ReadsS w a ss) (hl : ss.length = n) (_ : n ≤ 140737488355328) :
    Calls Tryz.prog 130 #[.agg #[.int .i64 L, .slice a n c]] w fun e w' => e = .returned (.int .i64 (usedP L ss)) ∧ Below w.heap.size w w' := impl_PageUsed_any L c h hl
theorem impl_isPage (L : Int) {a : Option Addr} {n : Nat} (c : Nat) {ss : List (List Int)} {w : World} (h : ReadsS w a ss) (hl : ss.length = n) (_ : n ≤ 140737488355328) :
    Calls Tryz.prog 94 #[.agg #[.int .i64 L, .slice a n c]] w fun e w' => e = .returned (.bool (okP L ss)) ∧ Below w.heap.size w w' := impl_isPage_any L c h hl
end Go.Proofs.YtebhipicfgnajaaGreat
