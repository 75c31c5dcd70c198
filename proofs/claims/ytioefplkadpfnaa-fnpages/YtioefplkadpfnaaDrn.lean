/- The draw of a number. For codes of at most 2^21 bytes. -/
import Derived.Test.YtioefplkadpfnaaMgb
import Derived.Test.YtioefplkadpfnaaSum
import Derived.Test.YtioefplkadpfnaaMga
namespace Go.Proofs.Ytioefplkadpfnaa
open Go.RowKit
theorem wrap_bd (n : Int) : -9223372036854775808 ≤ IntKind.i64.wrap n ∧ IntKind.i64.wrap n ≤ 9223372036854775807 := by
  rw [IntKind.wrap_i64]; omega

set_option maxRecDepth 100000 in
set_option maxHeartbeats 3200000 in
theorem l1number {w : World} {g : Nat} {ad : Option Addr} {n cap : Nat} {zs : List Int} (c : Cur w g ad n cap zs) (hn : n ≤ 2097152) :
    Calls Try.prog 97 #[.pointer (some ⟨g, 0, none⟩)] w fun e w' => ∃ x : Int, e = .returned (.int .i64 x) ∧ -9223372036854775808 ≤ x ∧ x ≤ 9223372036854775807 ∧ Cur w' g ad n cap zs ∧ w.grownBy w' (some g) := by
  go_enter Try.func97, Try.ntmps97
  go_wp2_with fail
  refine (l1Below c hn 1000 (by omega) (by omega)).mono ?_
  rintro e w1 ⟨x, rfl, hx0, hx1, c1, g1⟩
  go_wp2_with fail
  refine (l1Below c1 hn 6 (by omega) (by omega)).mono ?_
  rintro e w2 ⟨j, rfl, hj0, hj1, c2, g2⟩
  have G2 := grown_trans g1 g2
  clear c1 g1 g2 c
  go_wp2_with fail
  go_loopw [3, 4] (fun s i wr => ∃ (k : Nat) (y : Int), k ≤ 5 ∧ i = .int .i64 k ∧ s = .int .i64 y ∧ 0 ≤ y ∧ y < 1000 * 256 ^ (5 - k) ∧ Cur wr g ad n cap zs ∧ w.grownBy wr (some g)) (fun _ i _ => (intOf i).toNat)
  case atStart =>
    obtain ⟨k, rfl⟩ := Int.eq_ofNat_of_zero_le hj0
    have := pow256_le 0 (5 - k) (Nat.zero_le _)
    exact ⟨k, x, by omega, rfl, rfl, hx0, by omega, c2, G2⟩
  case round =>
    obtain ⟨k, y, hk, rfl, rfl, hy0, hy1, c3, g3⟩ := hrel
    by_cases hk0 : k = 0
    · subst hk0
      have hy2 : y < 1099511627776000 := by have : (256 : Int) ^ (5 - 0) = 1099511627776 := by decide
                                            omega
      clear hy1 c2 G2
      go_wp2_with fail
      refine (l1Below c3 hn 12 (by omega) (by omega)).mono ?_
      rintro e w4 ⟨t, rfl, ht0, ht1, c4, g4⟩
      have G4 := grown_trans g3 g4
      clear c3 g3 g4
      by_cases t0 : t = 0
      · subst t0
        go_wp2_with fail
        go_ret
        exact ⟨_, rfl, by omega, by omega, c4, G4⟩
      by_cases t1 : t = 1
      · subst t1
        go_wp2_with fail
        have c5 := hid (c4.still (Still.drew w4))
        have G5 := grown_still G4 (Still.drew w4)
        clear c4 G4
        go_region_held3 (fun _ => True) (trivial) (first
          | (go_at_call_of 48 (Value.int IntKind.i64 7); refine (l1Below c5.out hn 7 (by omega) (by omega)).mono ?_; rintro e w6 ⟨p, rfl, hp0, hp1, c6, g6⟩; have hs1 := wrap_i64_in (1 + p) (by omega) (by omega); have hs2 := wrap_i64_in (8 * (1 + p)) (by omega) (by omega); have hs3 := shift_shl .i64 .i64 1 (8 * (1 + p)) (by omega) (by show 8 * (1 + p) ≤ 64; omega))
          | (go_at_call_of 48 (Value.int IntKind.i64 2); refine (l1Below c6 hn 2 (by omega) (by omega)).mono ?_; rintro e w7 ⟨q, rfl, hq0, hq1, c7, g7⟩))
        go_wp2_with fail
        go_ret
        have hb := wrap_bd (IntKind.i64.wrap (2 ^ (8 * (1 + p)).toNat) - q)
        exact ⟨_, rfl, hb.1, hb.2, c7, grown_trans (grown_trans G5 g6) g7⟩
      by_cases t2 : t = 2
      · subst t2
        go_wp2_with fail
        go_ret
        exact ⟨_, rfl, by omega, by omega, c4, G4⟩
      by_cases t3 : t = 3
      · subst t3
        go_wp2_with fail
        go_ret
        exact ⟨_, rfl, by omega, by omega, c4, G4⟩
      go_wp2_with fail
      go_ret
      exact ⟨_, rfl, by omega, by omega, c4, G4⟩
    · obtain ⟨m, rfl⟩ : ∃ m, k = m + 1 := ⟨k - 1, by omega⟩
      have p4 := pow256_le (5 - (m + 1)) 4 (by omega)
      have e4 : (256 : Int) ^ 4 = 4294967296 := by decide
      have ps : Hid ((256 : Int) ^ (5 - m) = 256 ^ (5 - (m + 1)) * 256) := by
        unfold Hid; rw [show 5 - m = 5 - (m + 1) + 1 by omega, Int.pow_succ]
      generalize (256 : Int) ^ (5 - (m + 1)) = P at *
      have hy2 : y < 4294967296000 := by omega
      have HY := hid hy1
      clear hy1 c2 G2 p4 e4
      go_wp2_with fail
      refine (l1Byte c3 hn).mono ?_
      rintro e w4 ⟨u, rfl, hu0, hu1, c4, g4⟩
      have G4 := grown_trans g3 g4
      clear c3 g3 g4
      go_wp2_with fail
      go_roundw
      case rel => exact ⟨m, _, by omega, by go_num, rfl, by omega, by rw [ps.out]; have := HY.out; omega, c4, G4⟩
      case measure => simp [intOf]

end Go.Proofs.Ytioefplkadpfnaa
