/- The contracts of the laws' markRecordS at a list of the call's own, and of heldRecordS behind it. Conditions: sizes of at most 2^21, numbers of at most 10^9. -/
import Derived.Test.YtgdnjpdheghfoaaRl
namespace Go.Proofs.Ytgdnjpdheghfoaa
open Go.RowKit
set_option maxRecDepth 100000

set_option maxHeartbeats 6400000 in
theorem heldRecordS {ad : Option Addr} {n : Nat} (cap : Nat) {rs : List Rc} {w : World} (k : Int) (h : ReadsR w ad (mkR k rs)) (hl : rs.length = n) (hn : n ≤ 2097152) (ht : tr rs ≤ 20971520) (hk0 : 0 ≤ k) (hk1 : k ≤ 500000000) (hb : ∀ i, (rs.getD i r0).D.length ≤ 2097152) :
    Calls Try.prog 39 #[.slice ad n cap, .int .i64 k] w fun e w' => e = .returned (.int .i64 (k + tr rs)) ∧ w' = w := by
  go_enter Try.func39, Try.ntmps39
  go_wp2
  go_loopw [1, 5] (fun kk i wr => ∃ (j : Nat) (q : Int), j ≤ n ∧ i = .int .i64 j ∧ kk = .int .i64 q ∧ 0 ≤ q ∧ q ≤ 600000000 ∧ Hid (q = k + tr (rs.take j)) ∧ wr = w) (fun _ i _ => n - (intOf i).toNat)
  case atStart => exact ⟨0, k, Nat.zero_le _, rfl, rfl, hk0, by omega, hid (by simp [tr, tot]), rfl⟩
  case round =>
    obtain ⟨j, q, hj, rfl, rfl, hq0, hq1, HQ, rfl⟩ := hrel
    by_cases hlt : j < n
    · have hlt' : (j : Int) < (n : Int) := by omega
      have hj0 : (0 : Int) ≤ (j : Int) := by omega
      have hlm := mkR_length k rs
      rcases h.cells with h0 | ⟨b, off, rfl, hc⟩
      · omega
      obtain ⟨v, x1, a, c, rfl, hr0, _, _⟩ := hc j (by omega)
      rw [mkR_at k rs j (by omega), ← HQ.out] at x1 hr0
      obtain ⟨hc0, hc1, hc2, hc3, hc4, hc5⟩ := x1
      have HT := hid (tr_step rs j (by omega))
      have HU := hid (tr_take rs (j + 1))
      have hbj := hb j
      generalize (rs.getD j r0).D.length = m at *
      simp only [mkO, marks_length, Nat.add_zero] at hc0 hc1 hc2 hc3 hc4 hc5 hr0
      have HR := hid hr0
      have hq2 : ¬ (q + 5 + (m : Int)) < 0 := by omega
      have hw : ∀ i : Int, 0 ≤ i → i ≤ 5 → (q + i != q + i) = false := by intro i _ _; simp
      have w1 := hw 1 (by omega) (by omega)
      have w2 := hw 2 (by omega) (by omega)
      have w3 := hw 3 (by omega) (by omega)
      have w4 := hw 4 (by omega) (by omega)
      have w0' : (q != q) = false := by simp
      have a2 : q + 1 + 1 = q + 2 := by omega
      have a3 : q + 2 + 1 = q + 3 := by omega
      have a4 : q + 3 + 1 = q + 4 := by omega
      have a5 : q + 4 + 1 = q + 5 := by omega
      clear hc hr0 hlm hw
      go_wp2_with fail
      refine (heldByteS_any c (q + 5) HR.out (by omega) (by omega) (by omega)).mono ?_
      rintro e w1 ⟨rfl, rfl⟩
      go_wp2_with fail
      go_roundw
      case rel => exact ⟨j + 1, q + 5 + m, by omega, by go_num, rfl, by omega, by have := HT.out; have := HU.out; have := HQ.out; omega, hid (by have := HT.out; have := HQ.out; omega), by first | trivial | rfl⟩
      case measure => simp [intOf]; omega
    · have hlt' : ¬ (j : Int) < (n : Int) := by omega
      go_wp2
      go_ret
      have hQ := HQ.out
      rw [List.take_of_length_le (by omega)] at hQ
      exact ⟨by rw [hQ]; rfl, rfl⟩
end Go.Proofs.Ytgdnjpdheghfoaa
