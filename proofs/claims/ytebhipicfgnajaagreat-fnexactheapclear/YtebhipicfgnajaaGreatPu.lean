/- The contracts of both PageUsed, of l5in, within, isPage, endsFree and of the library's IndexFunc and ContainsFunc over slots. Conditions: lists of at most 2^47 bytes. -/
import Derived.Test.YtebhipicfgnajaaGreatMgc
import Derived.Test.YtebhipicfgnajaaGreatMga
namespace Go.Proofs.YtebhipicfgnajaaGreat
open Go.RowKit
set_option maxRecDepth 100000

theorem spec_inP (n lo hi : Int) (w : World) : Calls Tryz.prog 76 #[.int .i64 n, .int .i64 lo, .int .i64 hi] w fun e w' => e = .returned (.bool (decide (lo ≤ n ∧ n ≤ hi))) ∧ w' = w := by
  by_cases h1 : lo ≤ n
  · by_cases h2 : n ≤ hi
    · rw [decide_eq_true ⟨h1, h2⟩]
      go_enter Tryz.func76, Tryz.ntmps76
      go_wp2
      go_ret
      exact ⟨rfl, rfl⟩
    · rw [decide_eq_false (by omega)]
      go_enter Tryz.func76, Tryz.ntmps76
      go_wp2
      go_ret
      exact ⟨rfl, rfl⟩
  · rw [decide_eq_false (by omega)]
    go_enter Tryz.func76, Tryz.ntmps76
    go_wp2
    go_ret
    exact ⟨rfl, rfl⟩
theorem impl_inP (n lo hi : Int) (w : World) : Calls Tryz.prog 78 #[.int .i64 n, .int .i64 lo, .int .i64 hi] w fun e w' => e = .returned (.bool (decide (lo ≤ n ∧ n ≤ hi))) ∧ w' = w := by
  by_cases h1 : lo ≤ n
  · by_cases h2 : n ≤ hi
    · rw [decide_eq_true ⟨h1, h2⟩]
      go_enter Tryz.func78, Tryz.ntmps78
      go_wp2
      go_ret
      exact ⟨rfl, rfl⟩
    · rw [decide_eq_false (by omega)]
      go_enter Tryz.func78, Tryz.ntmps78
      go_wp2
      go_ret
      exact ⟨rfl, rfl⟩
  · rw [decide_eq_false (by omega)]
    go_enter Tryz.func78, Tryz.ntmps78
    go_wp2
    go_ret
    exact ⟨rfl, rfl⟩
theorem impl_isFree (a : Option Addr) (n c : Nat) (w : World) : Calls Tryz.prog 132 #[.slice a n c] w fun e w' => e = .returned (.bool (decide (n = 0))) ∧ w' = w := by
  by_cases h : n = 0
  · subst h
    go_enter Tryz.func132, Tryz.ntmps132
    go_wp2
    go_ret
    exact ⟨rfl, rfl⟩
  · have q : ((n : Int) == 0) = false := by simpa using h
    rw [decide_eq_false h]
    go_enter Tryz.func132, Tryz.ntmps132
    go_wp2
    go_ret
    exact ⟨rfl, rfl⟩
theorem impl_isTooLong (a : Option Addr) (n c : Nat) (w : World) : Calls Tryz.prog 168 #[.slice a n c] w fun e w' => e = .returned (.bool (decide (92 < n))) ∧ w' = w := by
  by_cases h : 92 < n
  · have q : (92 : Int) < (n : Int) := by omega
    rw [decide_eq_true h]
    go_enter Tryz.func168, Tryz.ntmps168
    go_wp2
    go_ret
    exact ⟨rfl, rfl⟩
  · have q : ¬ (92 : Int) < (n : Int) := by omega
    rw [decide_eq_false h]
    go_enter Tryz.func168, Tryz.ntmps168
    go_wp2
    go_ret
    exact ⟨rfl, rfl⟩

theorem okP_L {L : Int} {ss : List (List Int)} (h : ¬ (0 ≤ L ∧ L ≤ 1000000)) : okP L ss = false := by
  cases e : okP L ss with
  | false => rfl
  | true => exact absurd ⟨(okP_of e).l0, (okP_of e).l1⟩ h
theorem okP_n {L : Int} {ss : List (List Int)} (h : ¬ ss.length ≤ 16) : okP L ss = false := by
  cases e : okP L ss with
  | false => rfl
  | true => exact absurd (okP_of e).n h
theorem okP_z {L : Int} {ss : List (List Int)} {i : Nat} (h : 92 < (ss.getD i []).length) : okP L ss = false := by
  cases e : okP L ss with
  | false => rfl
  | true => have := (okP_of e).z i; omega
theorem okP_e {L : Int} {ss : List (List Int)} (h0 : 0 < ss.length) (h : (ss.getD (ss.length - 1) []).length = 0) : okP L ss = false := by
  cases e : okP L ss with
  | false => rfl
  | true => have := (okP_of e).e h0; omega
theorem okP_t {L : Int} {ss : List (List Int)} (h : ¬ 1 + ss.length + tot ss ≤ 240) : okP L ss = false := by
  cases e : okP L ss with
  | false => rfl
  | true => have := (okP_of e).t; omega

set_option maxHeartbeats 3200000 in
theorem spec_PageUsed (L : Int) {a : Option Addr} {n : Nat} (c : Nat) {ss : List (List Int)} {w : World} (h : ReadsS w a ss) (hl : ss.length = n) :
    Calls Tryz.prog 77 #[.agg #[.int .i64 L, .slice a n c]] w fun e w' => e = .returned (.int .i64 (usedP L ss)) ∧ Below w.heap.size w w' := by
  have hA := Below.alloc1 w (.cells #[.int .i64 L, .slice a n c] 97)
  have X0 := BoxP.new w L a n c 97
  have i1 := spec_inP L 0 1000000
  by_cases h1 : 0 ≤ L ∧ L ≤ 1000000
  · rw [decide_eq_true h1] at i1
    by_cases h2 : n ≤ 16
    · have q2 : ¬ (16 : Int) < (n : Int) := by omega
      have HA := hid hA
      have h3 := hid (h.below hA (Nat.le_refl _))
      clear hA h
      go_enter Tryz.func77, Tryz.ntmps77
      go_wp2_with fail
      refine (i1 _).mono ?_
      rintro e w1 ⟨rfl, e1⟩
      subst w1
      clear i1
      obtain ⟨c0, c1⟩ := X0
      go_wp2_with fail
      generalize w.alloc (.cells #[.int .i64 L, .slice a n c] 97) = W at *
      go_loopw [3, 4] (fun s i wr => ∃ k t m : Nat, k ≤ n ∧ i = .int .i64 k ∧ s = .int .i64 (1 + (n : Int) + (t : Int)) ∧ t ≤ 1500 ∧ Hid (t = tot (ss.take k) ∧ t ≤ 92 * k ∧ ∀ j, j < k → (ss.getD j []).length ≤ 92) ∧ wr = W.drewN m) (fun _ i _ => n - (intOf i).toNat)
      case atStart => exact ⟨0, 0, 0, Nat.zero_le _, rfl, by simp, by omega, hid ⟨by simp [tot], by omega, fun j hj => by omega⟩, rfl⟩
      case round =>
        obtain ⟨k, t, m, hk, rfl, rfl, ht, HT, rfl⟩ := hrel
        by_cases hlt : k < n
        · have hlt' : (k : Int) < (n : Int) := by omega
          have hk0 : (0 : Int) ≤ (k : Int) := by omega
          rcases h3.out.cells with h0 | ⟨b, off, rfl, hc⟩
          · omega
          obtain ⟨v, hcx, a, c', rfl, hr0, _, _⟩ := hc k (by omega)
          have HS := hid (tot_step ss k (by omega))
          obtain ⟨z, hz⟩ : ∃ z, (ss.getD k []).length = z := ⟨_, rfl⟩
          rw [hz] at hcx HS
          have HZ := hid hz
          clear hc hr0 hz
          by_cases hb : 92 < z
          · have hb' : (92 : Int) < (z : Int) := by omega
            have HO := hid (usedP_no (okP_z (L := L) (ss := ss) (i := k) (by rw [HZ.out]; exact hb)))
            go_wp2
            go_ret
            exact ⟨by rw [HO.out]; rfl, HA.out.trans ((Still.drewN _ _).below _)⟩
          · have hb' : ¬ (92 : Int) < (z : Int) := by omega
            go_wp2
            try go_quiet (fail)
            try go_wp2
            go_roundw
            case rel => exact ⟨k + 1, t + z, _, by omega, by go_num, by go_num, by have := HT.out.2.1; omega, hid ⟨by rw [HS.out, ← HT.out.1], by have := HT.out.2.1; omega, fun j hj => by by_cases e : j = k; (subst e; rw [HZ.out]; omega); exact HT.out.2.2 j (by omega)⟩, rfl⟩
            case measure => simp [intOf]; omega
        · obtain rfl : k = n := by omega
          have hlt' : ¬ (k : Int) < (k : Int) := by omega
          have HT1 := hid (show t = tot ss by rw [HT.out.1, List.take_of_length_le (by omega)])
          have HB := hid (HA.out.trans ((Still.drewN W m).below _))
          by_cases hk0 : k = 0
          · subst hk0
            obtain rfl := List.eq_nil_of_length_eq_zero hl
            obtain rfl : t = 0 := HT1.out
            have HO := hid (show usedP L [] = 1 from usedP_yes (ss := []) (okP_mk ⟨h1.1, h1.2, by simp, by simp, by simp, by simp [tot]⟩))
            go_wp2
            go_ret
            exact ⟨by rw [HO.out]; rfl, HB.out⟩
          have hk1 : (0 : Int) < (k : Int) := by omega
          rcases h3.out.cells with h0 | ⟨b, off, rfl, hc⟩
          · omega
          obtain ⟨q, hq⟩ : ∃ q, k - 1 = q := ⟨_, rfl⟩
          have hq1 : (k : Int) - 1 = (q : Int) := by omega
          have hq2 : (0 : Int) ≤ (q : Int) := by omega
          have hq3 : (q : Int) < (k : Int) := by omega
          obtain ⟨v, hcx, a, c', rfl, hr0, _, _⟩ := hc q (by omega)
          obtain ⟨z, hz⟩ : ∃ z, (ss.getD q []).length = z := ⟨_, rfl⟩
          rw [hz] at hcx
          have HZ := hid hz
          have HQ := hid hq
          clear hc hr0 hz hq
          by_cases hz0 : z = 0
          · subst hz0
            have HO := hid (usedP_no (okP_e (L := L) (ss := ss) (by omega) (by rw [hl, HQ.out]; exact HZ.out)))
            go_wp2
            go_ret
            exact ⟨by rw [HO.out]; rfl, HB.out⟩
          · have hzq : ((z : Int) == 0) = false := by simpa using hz0
            by_cases ht2 : 1 + k + t ≤ 240
            · have q4 : ¬ (240 : Int) < 1 + (k : Int) + (t : Int) := by omega
              have HO := hid (show usedP L ss = 1 + (k : Int) + (t : Int) by
                rw [usedP_yes (okP_mk ⟨h1.1, h1.2, by omega, fun _ => by rw [hl, HQ.out, HZ.out]; omega, fun i => by
                  by_cases hi : i < k
                  · exact HT.out.2.2 i hi
                  · rw [List.getD_eq_getElem?_getD, List.getElem?_eq_none (by omega)]; simp, by rw [hl, ← HT1.out]; exact ht2⟩), hl, HT1.out])
              go_wp2
              go_ret
              exact ⟨by rw [HO.out]; rfl, HB.out⟩
            · have q4 : (240 : Int) < 1 + (k : Int) + (t : Int) := by omega
              have HO := hid (usedP_no (okP_t (L := L) (ss := ss) (by rw [hl, ← HT1.out]; exact ht2)))
              go_wp2
              go_ret
              exact ⟨by rw [HO.out]; rfl, HB.out⟩
    · have q2 : (16 : Int) < (n : Int) := by omega
      have HO := hid (usedP_no (okP_n (L := L) (ss := ss) (by omega)))
      go_enter Tryz.func77, Tryz.ntmps77
      go_wp2_with fail
      refine (i1 _).mono ?_
      rintro e w1 ⟨rfl, e1⟩
      subst w1
      go_wp2
      go_ret
      exact ⟨by rw [HO.out]; rfl, hA⟩
  · rw [decide_eq_false h1] at i1
    have HO := hid (usedP_no (okP_L (L := L) (ss := ss) h1))
    go_enter Tryz.func77, Tryz.ntmps77
    go_wp2_with fail
    refine (i1 _).mono ?_
    rintro e w1 ⟨rfl, e1⟩
    subst w1
    go_wp2
    go_ret
    exact ⟨by rw [HO.out]; rfl, hA⟩

end Go.Proofs.YtebhipicfgnajaaGreat
