/- FnStatuses' walk. Conditions: none but what the argument's type says. -/
import Derived.Test.YtioefplkadpfnaaSm8
import Derived.Test.YtioefplkadpfnaaSk8
import Derived.Test.YtioefplkadpfnaaDq8
namespace Go.Proofs.Ytioefplkadpfnaa
open Go.RowKit
set_option maxRecDepth 100000

set_option maxHeartbeats 6400000 in
theorem lawStatuses {a : Option Addr} {n : Nat} (cap : Nat) {zs : List Int} {w : World} (h : Reads w a n zs) (hn0 : n ≤ maxLen) :
    Calls Try.prog 5 #[.slice a n cap] w fun e w' => e = .returned (.bool true) ∧ Below w.heap.size w w' := by
  unfold maxLen at hn0
  by_cases hbig : (1048576 : Int) < (n : Int)
  · go_enter Try.func5, Try.ntmps5
    go_wp2_with fail
    refine (law_big8 a n cap w).mono ?_
    rintro e w1 ⟨rfl, e1⟩
    subst w1
    rw [decide_eq_true hbig]
    go_wp2_with fail
    go_ret
    exact ⟨rfl, Below.refl _ _⟩
  have hn : n ≤ 1048576 := by omega
  have HR := hid h
  clear h
  go_enter Try.func5, Try.ntmps5
  go_wp2_with fail
  refine (law_big8 a n cap w).mono ?_
  rintro e w1 ⟨rfl, e1⟩
  subst w1
  rw [decide_eq_false (show ¬ (1048576 : Int) < (n : Int) by omega)]
  clear hbig
  go_wp2_with fail
  refine (drawStatusSet cap HR.out hn).mono ?_
  rintro e w1 ⟨a1, c1, L, x, s, rfl, o1, d1, l1, b⟩
  have hnc := hid (own_nc o1)
  have HB := hid b
  have HL := hid (show ReadsI w1 a1 L.length L by obtain ⟨_, _, e1, p, _⟩ := ReadsI.own o1 d1; obtain ⟨rfl, _, rfl⟩ := Value.slice.inj e1; exact p)
  have HD := hid d1
  clear o1 b d1 HR
  obtain ⟨nL, hnL⟩ : ∃ nL, L.length = nL := ⟨_, rfl⟩
  rw [hnL] at HL l1
  rw [hnL]
  clear hnL
  cases hok : setOk L x s with
  | false =>
    have HK := hid hok
    clear hok
    go_wp2_with fail
    refine (impl_StatusSet c1 HL.out x s).mono ?_
    rintro e w2 ⟨v, rfl, o, b⟩
    rw [setS_no HK.out] at o
    rw [HK.out]
    obtain ⟨a2, c2, rfl⟩ := own_sl o
    replace HL := hid (HL.out.below b (Nat.le_refl _))
    replace HB := hid (HB.out.trans (b.mono HB.out.size))
    clear o b
    go_wp2_with fail
    refine (spec_StatusSet c1 HL.out hnc.out x s).mono ?_
    rintro e w3 ⟨v, rfl, o, b⟩
    rw [setS_no HK.out] at o
    rw [HK.out]
    replace HB := hid (HB.out.trans (b.mono HB.out.size))
    clear o b
    go_wp2_with fail
    go_ret
    exact ⟨rfl, HB.out⟩
  | true =>
    have HK := hid hok
    have hle := setS_le L x s hok
    have hx1 : 1 ≤ x := (setOk_of hok).2.1.1
    have HSm := hid (setS_small HD.out x s).2
    obtain ⟨M, hM⟩ : ∃ M, setS L x s = M := ⟨_, rfl⟩
    have HW := hid (setS_of L x s hok)
    rw [hM] at hle HSm HW
    obtain ⟨N, hN⟩ : ∃ N, M.length = N := ⟨_, rfl⟩
    rw [hN] at hle HW
    have hN4 : N ≤ 401 := hle.1
    have hxN : x < (N : Int) := hle.2
    have HM := hid hM
    have HN := hid hN
    have HST := hid (show stOf M x = s by
      obtain ⟨X, rfl⟩ : ∃ X : Nat, x = X := ⟨x.toNat, by omega⟩
      rw [HW.out X (by omega)]; unfold wasL; rw [if_pos rfl])
    have HBK := hid (fun i (hi : i < N) => back_of M (by omega) i (by omega))
    have HOKB := hid (stB_ok M (by omega))
    have HBL := hid (stB_length M (by omega))
    have HRL := hid (show (rdL (stB M) (N : Int)).length = N by rw [← hN, stB_back M (by omega)]; simp)
    have HRS := hid (rdL_small (stB M) (N : Int)).2
    have HSL := hid (settleS_yes M N hN4)
    rw [hN] at HBK HOKB HBL
    clear hle hok hM hN
    go_wp2_with fail
    refine (impl_StatusSet c1 HL.out x s).mono ?_
    rintro e w2 ⟨v, rfl, o, b⟩
    rw [HM.out, HN.out] at o
    rw [HK.out]
    obtain ⟨aM, cM, e1, p, _⟩ := ReadsI.own o HSm.out
    subst e1
    have PM := hid p
    replace HL := hid (HL.out.below b (Nat.le_refl _))
    replace HB := hid (HB.out.trans (b.mono HB.out.size))
    clear o b p
    go_wp2_with fail
    refine (spec_StatusSet c1 HL.out hnc.out x s).mono ?_
    rintro e w3 ⟨v, rfl, o, b⟩
    rw [HM.out, HN.out] at o
    rw [HK.out]
    replace HL := hid (HL.out.below b (Nat.le_refl _))
    replace PM := hid (PM.out.below b (Nat.le_refl _))
    replace HB := hid (HB.out.trans (b.mono HB.out.size))
    clear o b
    go_wp2_with fail
    refine (impl_StatusBytes cM PM.out).mono ?_
    rintro e w4 ⟨v4, rfl, o, b⟩
    obtain ⟨aB, cB, e1, p, _⟩ := Reads.own o (stB_small M).2
    subst e1
    have PB := hid p
    replace HL := hid (HL.out.below b (Nat.le_refl _))
    replace PM := hid (PM.out.below b (Nat.le_refl _))
    replace HB := hid (HB.out.trans (b.mono HB.out.size))
    clear o b p
    rw [HBL.out] at PB
    rw [HBL.out]
    obtain ⟨k, hk⟩ : ∃ k, (N + 3) / 4 = k := ⟨_, rfl⟩
    rw [hk] at PB
    rw [hk]
    have qk : ((k : Int) != ((N : Int) + 3) / 4) = false := by
      have : (k : Int) = ((N : Int) + 3) / 4 := by omega
      rw [this]; simp
    clear hk
    go_wp2_with fail
    refine (impl_StatusRead cB PB.out N).mono ?_
    rintro e w5 ⟨v5, rfl, o, b⟩
    rw [HOKB.out]
    rw [HRL.out] at o
    obtain ⟨aR, cR, e1, p, _⟩ := ReadsI.own o HRS.out
    subst e1
    have PR := hid p
    replace HL := hid (HL.out.below b (Nat.le_refl _))
    replace PM := hid (PM.out.below b (Nat.le_refl _))
    replace HB := hid (HB.out.trans (b.mono HB.out.size))
    clear o b p PB
    go_wp2_with fail
    refine (impl_StatusSettle cM PM.out (by omega) N).mono ?_
    rintro e w6 ⟨v6, rfl, o, b⟩
    rw [HSL.out, upTo_length] at o
    obtain ⟨aS, cS, e1, p, _⟩ := ReadsI.own o (fun i => by have := (settleS_small M (N : Int)).2 i; rw [HSL.out] at this; exact this)
    subst e1
    have PS := hid p
    replace HL := hid (HL.out.below b (Nat.le_refl _))
    replace PM := hid (PM.out.below b (Nat.le_refl _))
    replace PR := hid (PR.out.below b (Nat.le_refl _))
    replace HB := hid (HB.out.trans (b.mono HB.out.size))
    clear o b p
    have qn : ((N : Int) != (N : Int)) = false := by simp
    go_wp2_with fail
    refine (impl_StatusOf cM PM.out (by omega) x).mono ?_
    rintro e w7 ⟨rfl, e1⟩
    subst w7
    rw [HST.out]
    have qs : (s != s) = false := by simp
    go_wp2_with fail
    clear qk qn qs
    go_loopw [14, 15] (fun i _ wr => ∃ k : Nat, k ≤ N ∧ i = .int .i64 k ∧ wr = w6) (fun i _ _ => N - (intOf i).toNat)
    case atStart => exact ⟨0, Nat.zero_le _, rfl, rfl⟩
    case round =>
      obtain ⟨k, hk, rfl, e1⟩ := hrel
      subst e1
      by_cases hlt : k < N
      · have hlt' : (k : Int) < (N : Int) := by omega
        have HWk := hid (HW.out k hlt)
        have HBk := hid ((HBK.out k hlt).trans HWk.out)
        have hcS : ∃ b off, aS = some ⟨b, off, none⟩ ∧ wr.cell? ⟨b, off + k, none⟩ = some (.int .i64 (setlAt M k)) := by
          obtain ⟨b, off, e, hc⟩ := PS.out.at hlt
          refine ⟨b, off, e, ?_⟩
          rw [hc]; unfold upTo; simp [hlt]
        obtain ⟨b, off, rfl, hcS⟩ := hcS
        have HSA := hid (fun h0 : k ≠ 0 => settle_at M k h0)
        have HWM := hid (show stOf M (k : Int) = wasL L x s k from HWk.out)
        obtain ⟨t, ht⟩ : ∃ t, setlAt M k = t := ⟨_, rfl⟩
        obtain ⟨y, hy⟩ : ∃ y, wasL L x s k = y := ⟨_, rfl⟩
        rw [ht] at hcS HSA
        rw [hy] at HBk HWM
        have HY := hid hy
        have qy : (y != y) = false := by simp
        clear ht HWk hy
        go_wp2_with fail
        refine (spec_StatusOf c1 HL.out k).mono ?_
        rintro e w8 ⟨rfl, e1⟩
        subst w8
        by_cases hkx : (k : Int) = x
        · have qx : ((k : Int) == x) = true := by simpa using hkx
          have hys : s = y := by have := HY.out; unfold wasL at this; rw [if_pos hkx] at this; exact this
          have HKX := hid hkx
          subst hys
          clear hkx
          go_wp2_with fail
          refine (impl_StatusOf cR PR.out (by omega) k).mono ?_
          rintro e w9 ⟨rfl, e1⟩
          subst w9
          rw [HBk.out]
          by_cases h0 : k = 0
          · have q0 : ¬ (0 : Int) < (k : Int) := by omega
            have H0 := hid h0
            clear h0
            go_wp2_with fail
            go_roundw
            case rel => exact ⟨k + 1, by omega, by go_num, by first | rfl | trivial⟩
            case measure => simp [intOf]; omega
          · have q0 : (0 : Int) < (k : Int) := by omega
            obtain ⟨hs0, hs1⟩ := HSA.out h0
            rw [HWM.out] at hs1
            have HS1 := hid hs1
            clear h0 hs1
            obtain ⟨t1, ht1⟩ : ∃ t1, (s == 1) = t1 := ⟨_, rfl⟩
            have hs2 : (t == 1) = t1 := by rw [HS1.out, ht1]
            have qt : (t1 != t1) = false := by cases t1 <;> rfl
            go_wp2_with fail
            go_roundw
            case rel => exact ⟨k + 1, by omega, by go_num, by first | rfl | trivial⟩
            case measure => simp [intOf]; omega
        · have qx : ((k : Int) == x) = false := by simpa using hkx
          have hys : stOf L (k : Int) = y := by have := HY.out; unfold wasL at this; rw [if_neg hkx] at this; exact this
          rw [hys]
          clear hkx hys
          go_wp2_with fail
          refine (impl_StatusOf cR PR.out (by omega) k).mono ?_
          rintro e w9 ⟨rfl, e1⟩
          subst w9
          rw [HBk.out]
          by_cases h0 : k = 0
          · have q0 : ¬ (0 : Int) < (k : Int) := by omega
            have H0 := hid h0
            clear h0
            go_wp2_with fail
            go_roundw
            case rel => exact ⟨k + 1, by omega, by go_num, by first | rfl | trivial⟩
            case measure => simp [intOf]; omega
          · have q0 : (0 : Int) < (k : Int) := by omega
            obtain ⟨hs0, hs1⟩ := HSA.out h0
            rw [HWM.out] at hs1
            have HS1 := hid hs1
            clear h0 hs1
            obtain ⟨t1, ht1⟩ : ∃ t1, (y == 1) = t1 := ⟨_, rfl⟩
            have hs2 : (t == 1) = t1 := by rw [HS1.out, ht1]
            have qt : (t1 != t1) = false := by cases t1 <;> rfl
            go_wp2_with fail
            go_roundw
            case rel => exact ⟨k + 1, by omega, by go_num, by first | rfl | trivial⟩
            case measure => simp [intOf]; omega
      · have hlt' : ¬ (k : Int) < (N : Int) := by omega
        go_wp2_with fail
        go_ret
        exact ⟨rfl, HB.out⟩
end Go.Proofs.Ytioefplkadpfnaa
