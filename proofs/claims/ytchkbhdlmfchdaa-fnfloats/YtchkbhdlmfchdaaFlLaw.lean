/- FnFloats' walk: for every code the law answers true and writes nothing that was there. -/
import Derived.Test.YtchkbhdlmfchdaaDrl
namespace Go.Proofs.Ytchkbhdlmfchdaa
open Go.RowKit

theorem fbits_twice (x : Nat) : fbits (fbits x) = fbits x := by
  by_cases h : isN x = true
  · have e : fbits x = 9221120237041090560 := by rw [fbits, if_pos h]
    rw [e]; decide
  · have e : fbits x = x := by rw [fbits, if_neg h]
    rw [e, e]

theorem frank_back (x : Nat) (hx : x < 18446744073709551616) : frank (back (frank x)) = frank x := by
  by_cases h : isN x = true
  · have e : frank x = 18446744073709551615 := by rw [frank, if_pos h]
    rw [e]; decide
  · have hm := (isN_not x).1 (by simpa using h)
    by_cases h0 : x % 9223372036854775808 = 0
    · have e : frank x = 9223372036854775808 := by rw [frank, if_neg h, if_pos h0]
      rw [e]; decide
    · have e : back (frank x) = x := by
        rw [frank, if_neg h, if_neg h0]
        split
        · rw [back, if_pos (by omega)]; omega
        · rw [back, if_neg (by omega)]; omega
      rw [e]

theorem frank_kx (x : Nat) (hx : x < 18446744073709551616) (h : isN x = false) : frank x < 18446744073709551615 ∧ ((frank x : Int) = 9223372036854775808 + kx x ∧ 0 ≤ kx x ∨ (frank x : Int) = 9223372036854775807 + kx x ∧ kx x < 0) := by
  have hm := (isN_not x).1 h
  have h' : ¬ isN x = true := by rw [h]; simp
  unfold frank kx
  rw [if_neg h']
  by_cases h0 : x % 9223372036854775808 = 0
  · rw [if_pos h0]
    split <;> omega
  · rw [if_neg h0]
    by_cases hp : x < 9223372036854775808
    · rw [if_pos hp, if_pos hp]; omega
    · rw [if_neg hp, if_neg hp]; omega
theorem frank_nan (x : Nat) (h : isN x = true) : frank x = 18446744073709551615 := by rw [frank, if_pos h]

/-- How two floats stand, and their ranks. -/
def Stand (a b : Nat) (K : Int) (x y z : Option Ordering) : Prop :=
  FloatKind.f64.format.order a b = x ∧ FloatKind.f64.format.order a a = y ∧ FloatKind.f64.format.order b b = z ∧ cmp3 (frank a) (frank b) = K ∧ (decide ((frank a : Int) < (frank b : Int)) = decide (K < 0))

theorem stand (a b : Nat) (ha : a < 18446744073709551616) (hb : b < 18446744073709551616) :
    Stand a b (-1) (some .lt) (some .eq) (some .eq) ∨ Stand a b (-1) none (some .eq) none ∨ Stand a b 0 (some .eq) (some .eq) (some .eq) ∨ Stand a b 0 none none none ∨ Stand a b 1 (some .gt) (some .eq) (some .eq) ∨ Stand a b 1 none none (some .eq) := by
  have hd : ∀ (x y : Nat) (K : Int), cmp3 x y = K → decide ((x : Int) < (y : Int)) = decide (K < 0) := by
    intro x y K h
    unfold cmp3 at h
    split at h
    · rw [← h, decide_eq_true (by omega)]; rfl
    · rw [decide_eq_false (by omega), decide_eq_false (by split at h <;> omega)]
  by_cases na : isN a = true
  · by_cases nb : isN b = true
    · have hk : cmp3 (frank a) (frank b) = 0 := by rw [frank_nan a na, frank_nan b nb]; decide
      exact .inr (.inr (.inr (.inl ⟨order_l a b ha na, order_l a a ha na, order_l b b hb nb, hk, hd _ _ _ hk⟩)))
    · have nb' : isN b = false := by simpa using nb
      have f2 := (frank_kx b hb nb').1
      have hk : cmp3 (frank a) (frank b) = 1 := by rw [frank_nan a na, cmp3, if_neg (by omega), if_pos f2]
      exact .inr (.inr (.inr (.inr (.inr ⟨order_l a b ha na, order_l a a ha na, order_eq b b hb hb nb' nb' rfl, hk, hd _ _ _ hk⟩))))
  · have na' : isN a = false := by simpa using na
    have f1 := frank_kx a ha na'
    have oa := order_eq a a ha ha na' na' rfl
    by_cases nb : isN b = true
    · have hk : cmp3 (frank a) (frank b) = -1 := by rw [frank_nan b nb, cmp3, if_pos f1.1]
      exact .inr (.inl ⟨order_r a b hb nb, oa, order_l b b hb nb, hk, hd _ _ _ hk⟩)
    · have nb' : isN b = false := by simpa using nb
      have f2 := frank_kx b hb nb'
      have ob := order_eq b b hb hb nb' nb' rfl
      have f1' := f1.2
      have f2' := f2.2
      rcases Int.lt_trichotomy (kx a) (kx b) with h | h | h
      · have hk : cmp3 (frank a) (frank b) = -1 := by rw [cmp3, if_pos (by omega)]
        exact .inl ⟨order_lt a b ha hb na' nb' h, oa, ob, hk, hd _ _ _ hk⟩
      · have hk : cmp3 (frank a) (frank b) = 0 := by rw [cmp3, if_neg (by omega), if_neg (by omega)]
        exact .inr (.inr (.inl ⟨order_eq a b ha hb na' nb' h, oa, ob, hk, hd _ _ _ hk⟩))
      · have hk : cmp3 (frank a) (frank b) = 1 := by rw [cmp3, if_neg (by omega), if_pos (by omega)]
        exact .inr (.inr (.inr (.inr (.inl ⟨order_gt a b ha hb na' nb' h, oa, ob, hk, hd _ _ _ hk⟩))))

theorem cmp3_self (x : Nat) : cmp3 x x = 0 := by rw [cmp3, if_neg (by omega), if_neg (by omega)]

set_option maxRecDepth 100000 in
set_option maxHeartbeats 3200000 in
theorem lawFloats {ad : Option Addr} {n : Nat} (cap : Nat) {zs : List Int} {w : World} (h : Reads w ad n zs) (hm : n ≤ maxLen) :
    Calls Try.prog 5 #[.slice ad n cap] w fun e w' => e = .returned (.bool true) ∧ Below w.heap.size w w' := by
  unfold maxLen at hm
  by_cases hbig : 1048576 < n
  · go_enter Try.func5, Try.ntmps5
    go_wp2
    go_ret
    exact ⟨rfl, Below.refl _ _⟩
  have hn : n ≤ 1048576 := by omega
  go_enter Try.func5, Try.ntmps5
  go_wp2_with (go_at_call 7; go_in)
  refine (drawFloatCompare cap h (by omega)).mono ?_
  rintro e w1 ⟨a, b, rfl, ha, hb, b1⟩
  have hfa := frank_lt a ha
  have hml := back_lt _ hfa
  have hBits := hid (impl_FloatBits a ha)
  have hRank := hid (impl_FloatRank a ha)
  have hUn := impl_FloatUnrank (frank a) hfa
  rw [if_pos (frank_back a ha)] at hUn
  have HUn := hid hUn
  have hOf := hid (impl_FloatOf (fbits a))
  have hBits2 := impl_FloatBits (fbits a) (fbits_lt a ha)
  rw [fbits_twice] at hBits2
  have HBits2 := hid hBits2
  have hRank2 := impl_FloatRank (back (frank a)) hml
  rw [frank_back a ha] at hRank2
  have HRank2 := hid hRank2
  have hCmp1 := impl_FloatCompare a (back (frank a)) ha hml
  rw [frank_back a ha, cmp3_self] at hCmp1
  have HCmp1 := hid hCmp1
  have hCmp2 := impl_FloatCompare a b ha hb
  have hRank3 := hid (impl_FloatRank b hb)
  have hZ1 : Hid (∀ w, Calls Try.prog 18 #[.float .f64 9223372036854775808] w fun e w' => e = .returned (.int .u64 9223372036854775808) ∧ w' = w) := impl_FloatBits 9223372036854775808 (by omega)
  have hZ2 : Hid (∀ w, Calls Try.prog 22 #[.float .f64 9223372036854775808, .float .f64 0] w fun e w' => e = .returned (.int .i64 0) ∧ w' = w) := impl_FloatCompare 9223372036854775808 0 (by omega) (by omega)
  have hneg := neg_run 0 9223372036854775808 (by decide)
  clear hUn hBits2 hRank2 hCmp1 h hm
  rcases stand a b ha hb with ⟨o1, o2, o3, hk, hl⟩ | ⟨o1, o2, o3, hk, hl⟩ | ⟨o1, o2, o3, hk, hl⟩ | ⟨o1, o2, o3, hk, hl⟩ | ⟨o1, o2, o3, hk, hl⟩ | ⟨o1, o2, o3, hk, hl⟩
  all_goals
    rw [hk] at hCmp2
    have HCmp2 := hid hCmp2
    have HL := hid hl
    clear hCmp2 hk ha hb hfa hml hl
    generalize back (frank a) = m at *
    generalize fbits a = f at *
    generalize frank a = A at *
    generalize frank b = B at *
    go_wp2_with fail
    refine (hBits.out _).mono ?_
    rintro e w2 ⟨rfl, rfl⟩
    go_wp2_with fail
    refine (hRank.out _).mono ?_
    rintro e w2 ⟨rfl, rfl⟩
    go_wp2_with fail
    refine (HUn.out _).mono ?_
    rintro e w2 ⟨rfl, rfl⟩
    go_wp2_with fail
    refine (hOf.out _).mono ?_
    rintro e w2 ⟨rfl, rfl⟩
    go_wp2_with fail
    refine (HBits2.out _).mono ?_
    rintro e w2 ⟨rfl, rfl⟩
    go_wp2_with fail
    refine (HRank2.out _).mono ?_
    rintro e w2 ⟨rfl, rfl⟩
    go_wp2_with fail
    refine (HCmp1.out _).mono ?_
    rintro e w2 ⟨rfl, rfl⟩
    go_wp2_with fail
    refine (HCmp2.out _).mono ?_
    rintro e w2 ⟨rfl, rfl⟩
    go_wp2_with fail
    refine (hZ1.out _).mono ?_
    rintro e w2 ⟨rfl, rfl⟩
    go_wp2_with fail
    refine (hZ2.out _).mono ?_
    rintro e w2 ⟨rfl, rfl⟩
    go_wp2_with fail
    refine (hRank3.out _).mono ?_
    rintro e w2 ⟨rfl, rfl⟩
    go_wp2_with fail
    go_ret
    refine ⟨?_, b1⟩
    have hl := HL.out
    simp at hl ⊢
    omega
end Go.Proofs.Ytchkbhdlmfchdaa
