/- The contract of the program's FloatSum. Conditions: a length as Go allows it. -/
import Derived.Test.YtchkbhdlmfchdaaFsb
namespace Go.Proofs.Ytchkbhdlmfchdaa
open Go.RowKit Ieee

set_option maxHeartbeats 1600000 in
theorem impl_FloatSum_some {ad : Option Addr} {n : Nat} (cap : Nat) {xs : List Nat} {w : World} (h : ReadsF w ad n xs) (hn : n ≤ 1000) :
    Calls Try.prog 24 #[.slice ad n cap] w fun e w' => ∃ y, e = .returned (.float .f64 y) ∧ y < 18446744073709551616 ∧ Hid (Same (fsum xs) y) ∧ Still w w' := by
  have hn' : (n : Int) ≤ 1000 := by omega
  have HN := hid hn
  clear hn
  go_enter Try.func24, Try.ntmps24
  go_wp2
  go_loopw [3, 4, 11] (fun s _ i wr => ∃ k y : Nat, Hid (k ≤ n) ∧ s = .float .f64 y ∧ i = .int .i64 k ∧ y < 18446744073709551616 ∧ Hid (Same (fsum (xs.take k)) y) ∧ Hid (Still w wr)) (fun _ _ i _ => n - (intOf i).toNat)
  case atStart => exact ⟨0, 0, hid (by omega), rfl, rfl, by omega, hid (by rw [List.take_zero]; exact Same.refl _), hid (Still.refl _)⟩
  case round =>
    obtain ⟨k, y, Hk, rfl, rfl, hy, HS, HW⟩ := hrel
    have hk0 : (0 : Int) ≤ (k : Int) := by omega
    by_cases hlt : k < n
    · rcases h.cells with h0 | ⟨b, off, rfl, hc⟩
      · omega
      have hcell : wr.cell? ⟨b, off + k, none⟩ = some (.float .f64 (xs.getD k 0)) := by rw [HW.out.cell]; exact hc k hlt
      obtain ⟨z, w', hrun, hz, H1, H2⟩ := add_run 35 _ y (xs.getD k 0) (fsum_lt _) hy HS.out wr
      have H3 : Hid (Same (fsum (xs.take (k + 1))) z) := by rw [fsum_step xs k (by rw [h.len]; exact hlt)]; exact H1
      generalize xs.getD k 0 = x at *
      have hlt' : (k : Int) < (n : Int) := by omega
      have Hlt := hid hlt
      clear hc H1 hlt
      go_wp2
      go_roundw
      case rel => exact ⟨k + 1, z, hid (by have := Hlt.out; omega), rfl, by go_num, hz, H3, hid (HW.out.trans H2.out)⟩
      case measure => have := Hlt.out; simp [intOf]; omega
    · have hge : ¬ (k : Int) < (n : Int) := by omega
      have ek := hid (show k = n by have := Hk.out; omega)
      clear hlt
      go_wp2
      go_ret
      refine ⟨y, rfl, hy, ?_, HW.out⟩
      have := HS.out
      rw [ek.out, List.take_of_length_le (by rw [h.len]; exact Nat.le_refl _)] at this
      exact hid this

theorem nan_walk (w : World) : Calls Try.prog 41 #[] w fun e w' => e = .returned (.float .f64 9221120237041090561) ∧ w' = w := by
  have hb := frombits_run 9221120237041090561
  go_enter Try.func41, Try.ntmps41
  go_wp2
  go_ret
  exact ⟨rfl, rfl⟩

set_option maxHeartbeats 1600000 in
theorem impl_FloatSum_many {ad : Option Addr} {n : Nat} (cap : Nat) {w : World} (hn : 1000 < n) (hm : n ≤ 2097152) :
    Calls Try.prog 24 #[.slice ad n cap] w fun e w' => ∃ y, e = .returned (.float .f64 y) ∧ y < 18446744073709551616 ∧ Hid (isN y = true) ∧ Still w w' := by
  have hn' : (1000 : Int) < (n : Int) := by omega
  have Hm := hid hm
  clear hn hm
  go_enter Try.func24, Try.ntmps24
  go_wp2_with fail
  refine (nan_walk _).mono ?_
  rintro e w1 ⟨rfl, rfl⟩
  go_wp2_with fail
  go_ret
  exact ⟨9221120237041090561, rfl, by omega, hid (by decide), Still.refl _⟩

theorem impl_FloatSum {ad : Option Addr} {n : Nat} (cap : Nat) {xs : List Nat} {w : World} (h : ReadsF w ad n xs) (hm : n ≤ 2097152) :
    Calls Try.prog 24 #[.slice ad n cap] w fun e w' => ∃ y, e = .returned (.float .f64 y) ∧ y < 18446744073709551616 ∧ Hid (Same (sumOf xs) y) ∧ Still w w' := by
  by_cases hn : n ≤ 1000
  · rw [show sumOf xs = fsum xs by rw [sumOf, if_neg (by rw [h.len]; omega)]]
    exact impl_FloatSum_some cap h hn
  · rw [show sumOf xs = 9221120237041090560 by rw [sumOf, if_pos (by rw [h.len]; omega)]]
    refine (impl_FloatSum_many cap (by omega) hm).mono ?_
    rintro e w' ⟨y, rfl, hy, hN, hS⟩
    exact ⟨y, rfl, hy, hid (.inl ⟨isN_nan, hN.out⟩), hS⟩
end Go.Proofs.Ytchkbhdlmfchdaa
