/- The contracts of the draws of floats: whatever the code, some float. For codes of at most 2^21 bytes. -/
import Derived.Test.YtioefplkadpfnaaMgc
namespace Go.Proofs.Ytioefplkadpfnaa
open Go.RowKit

theorem u64_rng (n : Int) : 0 ≤ IntKind.u64.wrap n ∧ IntKind.u64.wrap n < 18446744073709551616 := by
  have e : IntKind.u64.wrap n = n % 18446744073709551616 := by simp [IntKind.wrap, IntKind.bits, IntKind.signed]
  rw [e]; omega
theorem bits_rng (op : BinOp) (a b : Int) (h : op = .or ∨ op = .and ∨ op = .xor) : 0 ≤ bits op .u64 a b ∧ bits op .u64 a b < 18446744073709551616 := by
  rcases h with rfl | rfl | rfl <;> exact u64_rng _

theorem ofInt_lt (z : Int) : floatOfInt .f64 z < 18446744073709551616 := by
  have := floatOfInt_wf .f64 z
  simpa [Lit.wf] using this

set_option maxRecDepth 100000 in
set_option maxHeartbeats 3200000 in
theorem l2bits {w : World} {g : Nat} {ad : Option Addr} {n cap : Nat} {zs : List Int} (c : Cur w g ad n cap zs) (hn : n ≤ 2097152) :
    Calls Try.prog 103 #[.pointer (some ⟨g, 0, none⟩)] w fun e w' => ∃ x : Int, e = .returned (.int .u64 x) ∧ 0 ≤ x ∧ x < 18446744073709551616 ∧ Cur w' g ad n cap zs ∧ w.grownBy w' (some g) := by
  go_enter Try.func103, Try.ntmps103
  go_wp2_with fail
  go_loopw [3, 4] (fun s i wr => ∃ (k : Nat) (y : Int), k ≤ 8 ∧ i = .int .i64 k ∧ s = .int .u64 y ∧ 0 ≤ y ∧ y < 18446744073709551616 ∧ Cur wr g ad n cap zs ∧ w.grownBy wr (some g)) (fun _ i _ => 8 - (intOf i).toNat)
  case atStart => exact ⟨0, 0, by omega, rfl, rfl, by omega, by omega, c, grown_refl _ _⟩
  case round =>
    obtain ⟨k, y, hk, rfl, rfl, hy0, hy1, cr, gr⟩ := hrel
    by_cases hlt : k < 8
    · go_wp2_with fail
      refine (l1Byte cr hn).mono ?_
      rintro e w2 ⟨b, rfl, hb0, hb1, c2, g2⟩
      go_wp2_with fail
      go_roundw
      case rel => exact ⟨k + 1, _, by omega, by go_num, rfl, (u64_rng _).1, (u64_rng _).2, c2, grown_trans gr g2⟩
      case measure => simp [intOf]; omega
    · go_wp2_with fail
      refine (l1Below cr hn 9 (by omega) (by omega)).mono ?_
      rintro e w2 ⟨t, rfl, ht0, ht1, c2, g2⟩
      have G2 := grown_trans gr g2
      clear cr gr g2 c hlt
      by_cases t0 : t = 0
      · subst t0
        go_wp2_with fail
        refine (l1Below c2 hn 2 (by omega) (by omega)).mono ?_
        rintro e w3 ⟨p, rfl, hp0, hp1, c3, g3⟩
        go_wp2_with fail
        refine (l1Below c3 hn 3 (by omega) (by omega)).mono ?_
        rintro e w4 ⟨q, rfl, hq0, hq1, c4, g4⟩
        go_wp2_with fail
        go_ret
        exact ⟨_, rfl, (bits_rng .or _ _ (by simp)).1, (bits_rng .or _ _ (by simp)).2, c4, grown_trans (grown_trans G2 g3) g4⟩
      by_cases t1 : t = 1
      · subst t1
        go_wp2_with fail
        refine (l1Below c2 hn 2 (by omega) (by omega)).mono ?_
        rintro e w3 ⟨p, rfl, hp0, hp1, c3, g3⟩
        go_wp2_with fail
        refine (l1Below c3 hn 3 (by omega) (by omega)).mono ?_
        rintro e w4 ⟨q, rfl, hq0, hq1, c4, g4⟩
        go_wp2_with fail
        go_ret
        exact ⟨_, rfl, (bits_rng .or _ _ (by simp)).1, (bits_rng .or _ _ (by simp)).2, c4, grown_trans (grown_trans G2 g3) g4⟩
      by_cases t2 : t = 2
      · subst t2
        go_wp2_with fail
        refine (l1Below c2 hn 2 (by omega) (by omega)).mono ?_
        rintro e w3 ⟨p, rfl, hp0, hp1, c3, g3⟩
        go_wp2_with fail
        go_ret
        exact ⟨_, rfl, (bits_rng .or _ _ (by simp)).1, (bits_rng .or _ _ (by simp)).2, c3, grown_trans G2 g3⟩
      by_cases t3 : t = 3
      · subst t3
        go_wp2_with fail
        refine (l1Below c2 hn 2 (by omega) (by omega)).mono ?_
        rintro e w3 ⟨p, rfl, hp0, hp1, c3, g3⟩
        go_wp2_with fail
        refine (l1Below c3 hn 3 (by omega) (by omega)).mono ?_
        rintro e w4 ⟨q, rfl, hq0, hq1, c4, g4⟩
        go_wp2_with fail
        go_ret
        exact ⟨_, rfl, (bits_rng .or _ _ (by simp)).1, (bits_rng .or _ _ (by simp)).2, c4, grown_trans (grown_trans G2 g3) g4⟩
      by_cases t4 : t = 4
      · subst t4
        go_wp2_with fail
        refine (l1Below c2 hn 12 (by omega) (by omega)).mono ?_
        rintro e w3 ⟨p, rfl, hp0, hp1, c3, g3⟩
        go_wp2_with fail
        refine (l1Below c3 hn 16 (by omega) (by omega)).mono ?_
        rintro e w4 ⟨q, rfl, hq0, hq1, c4, g4⟩
        go_wp2_with fail
        go_ret
        exact ⟨_, rfl, (bits_rng .or _ _ (by simp)).1, (bits_rng .or _ _ (by simp)).2, c4, grown_trans (grown_trans G2 g3) g4⟩
      by_cases t5 : t = 5
      · subst t5
        go_wp2_with fail
        refine (l1Below c2 hn 21 (by omega) (by omega)).mono ?_
        rintro e w3 ⟨p, rfl, hp0, hp1, c3, g3⟩
        have hwf := ofInt_lt (p - 10)
        go_wp2_with fail
        refine (spec_FloatBits _ hwf _).mono ?_
        rintro e w4 ⟨rfl, rfl⟩
        have hb := fbits_lt _ hwf
        go_wp2_with fail
        go_ret
        exact ⟨_, rfl, by omega, by omega, c3, grown_trans G2 g3⟩
      have n0 : (t == 0) = false := beq_eq_false_iff_ne.2 t0
      have n1 : (t == 1) = false := beq_eq_false_iff_ne.2 t1
      have n2 : (t == 2) = false := beq_eq_false_iff_ne.2 t2
      have n3 : (t == 3) = false := beq_eq_false_iff_ne.2 t3
      have n4 : (t == 4) = false := beq_eq_false_iff_ne.2 t4
      have n5 : (t == 5) = false := beq_eq_false_iff_ne.2 t5
      clear t0 t1 t2 t3 t4 t5
      go_wp2_with fail
      go_ret
      exact ⟨_, rfl, hy0, hy1, c2, G2⟩

theorem l2float {w : World} {g : Nat} {ad : Option Addr} {n cap : Nat} {zs : List Int} (c : Cur w g ad n cap zs) (hn : n ≤ 2097152) :
    Calls Try.prog 96 #[.pointer (some ⟨g, 0, none⟩)] w fun e w' => ∃ y : Nat, e = .returned (.float .f64 y) ∧ y < 18446744073709551616 ∧ Cur w' g ad n cap zs ∧ w.grownBy w' (some g) := by
  go_enter Try.func96, Try.ntmps96
  go_wp2_with fail
  refine (l2bits c hn).mono ?_
  rintro e w1 ⟨x, rfl, hx0, hx1, c1, g1⟩
  obtain ⟨b, rfl⟩ := Int.eq_ofNat_of_zero_le hx0
  have hb : b < 18446744073709551616 := by omega
  clear hx0 hx1
  go_wp2_with fail
  refine (spec_FloatOf b hb _).mono ?_
  rintro e w2 ⟨y, rfl, hy, _, _, st⟩
  go_wp2_with fail
  go_ret
  exact ⟨y, rfl, hy, c1.still st, grown_still g1 st⟩

theorem fbits_top0 (x : Nat) (h : x < 18446744073709551616) : fbits x ≤ 18442240474082181120 := by
  unfold fbits
  split
  · omega
  · rename_i hn
    have := (isN_not x).1 (by simpa using hn)
    omega

end Go.Proofs.Ytioefplkadpfnaa
