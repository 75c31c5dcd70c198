/- The contract of the laws' heldRowS. Conditions: rows of at most 2^21 bytes together. -/
import Derived.Test.YtebhipicfgnajaaGreatHm10
namespace Go.Proofs.YtebhipicfgnajaaGreat
open Go.RowKit
set_option maxRecDepth 100000

theorem flI_is {z : Int} (h0 : 0 ≤ z) (h1 : z ≤ 1000000000000) {y : Nat} (hs : Same (flI z) y) : y = flI z := by
  obtain ⟨n, rfl⟩ := Int.eq_ofNat_of_zero_le h0
  have hn : n < 2 ^ 53 := by omega
  have hlt := F_lt n 1074 hn (by omega)
  have hN : isN (flI (n : Int)) = false := by unfold flI; rw [of_F n hn]; exact (isN_not _).2 (by omega)
  rcases hs with ⟨h, _⟩ | ⟨_, h⟩
  · rw [hN] at h; cases h
  · exact h

set_option maxHeartbeats 6400000 in
theorem heldRowS {ad : Option Addr} {n : Nat} (cap : Nat) {rs : List Rw} {w : World} (k : Int) (h : ReadsRw w ad (mkRs k rs)) (hl : rs.length = n) (hn : n ≤ 2097152) (hs : sumR rs ≤ 2097152) (hk0 : 0 ≤ k) (hk1 : k ≤ 400000000) :
    Calls Tryz.prog 45 #[.slice ad n cap, .int .i64 k] w fun e w' => e = .returned (.int .i64 (k + sumR rs)) ∧ w' = w := by
  go_enter Tryz.func45, Tryz.ntmps45
  go_wp2
  go_loopw [1, 5] (fun x i wr => ∃ j : Nat, j ≤ n ∧ i = .int .i64 j ∧ x = .int .i64 (k + sumR (rs.take j)) ∧ wr = w) (fun _ i _ => n - (intOf i).toNat)
  case atStart => exact ⟨0, Nat.zero_le _, rfl, by simp [sumR], rfl⟩
  case round =>
    obtain ⟨j, hj, rfl, rfl, rfl⟩ := hrel
    by_cases hlt : j < n
    · have hlt' : (j : Int) < (n : Int) := by omega
      have hj0 : (0 : Int) ≤ (j : Int) := by omega
      obtain ⟨b, off, f1, f2, a1, c1, a2, c2, rfl, bx, sm, r1, r2⟩ := h.at (k := j) (by rw [mkRs_length]; omega)
      have HStep := hid (sumR_step rs j (by omega))
      have hz1 := sumR_take rs (j + 1)
      rw [mkRs_at k rs j (by omega)] at bx sm r1 r2
      obtain ⟨X, hX⟩ : ∃ X : Int, k + sumR (rs.take j) = X := ⟨_, rfl⟩
      have hX0 : 0 ≤ X ∧ X ≤ 410000000 := by have := sumR_take rs j; omega
      rw [hX] at bx sm r1 r2 ⊢
      have HX := hid hX
      generalize rs.getD j rw0 = r at *
      obtain ⟨P, S, A, B, K, N, F, Z, L, M, G, Y, okk⟩ := r
      simp only [nmR] at HStep
      obtain ⟨zl, hzl⟩ : ∃ zl, Z.length = zl := ⟨_, rfl⟩
      obtain ⟨yl, hyl⟩ : ∃ yl, Y.length = yl := ⟨_, rfl⟩
      simp only [mkR1, marks_length, hzl, hyl] at bx sm r1 r2 HStep
      have hzy : zl + yl ≤ 2097152 := by have := HStep.out; omega
      obtain ⟨sa, sb, _, _⟩ := sm
      simp only at sa sb
      have ef1 := flI_is (by omega) (by omega) sa
      have ef2 := flI_is (by omega) (by omega) sb
      subst ef1
      subst ef2
      unfold flI at bx
      have o1 := (flI_ok (z := X + 6) (by omega) (by omega)).2
      have o2 := (flI_ok (z := X + 9 + zl) (by omega) (by omega)).2
      unfold flI at o1 o2
      obtain ⟨Q, hQ⟩ : ∃ Q : Int, X + 1 + 1 + 1 + 1 + 1 + 1 + 1 + (zl : Int) = Q := ⟨_, rfl⟩
      rw [show X + 10 + (zl : Int) = Q + 1 + 1 + 1 by omega] at r2
      rw [show X + 9 + (zl : Int) = Q + 1 + 1 by omega] at bx o2
      rw [show X + 8 + (zl : Int) = Q + 1 by omega, show X + 7 + (zl : Int) = Q by omega, show X + 6 = X + 1 + 1 + 1 + 1 + 1 + 1 by omega, show X + 5 = X + 1 + 1 + 1 + 1 + 1 by omega, show X + 4 = X + 1 + 1 + 1 + 1 by omega, show X + 3 = X + 1 + 1 + 1 by omega, show X + 2 = X + 1 + 1 by omega] at bx
      rw [show X + 6 = X + 1 + 1 + 1 + 1 + 1 + 1 by omega] at o1
      rw [show X + 7 = X + 1 + 1 + 1 + 1 + 1 + 1 + 1 by omega] at r1
      have HQ := hid hQ
      have hQ0 : 0 ≤ Q ∧ Q ≤ 420000000 := by omega
      have hQn : ¬ Q < 0 := by omega
      obtain ⟨T, hT⟩ : ∃ T : Int, Q + 1 + 1 + 1 + (yl : Int) = T := ⟨_, rfl⟩
      have hTn : ¬ T < 0 := by omega
      have HTT := hid hT
      have R1 := hid r1
      have R2 := hid r2
      obtain ⟨x0, x1, x2, x3, x4, x5, x6, x7, x8, x9, x10, x11⟩ := bx
      clear r1 r2 hX hQ hT hzl hyl sa sb
      go_wp2_with fail
      refine (heldByteS_any c1 (X + 1 + 1 + 1 + 1 + 1 + 1 + 1) R1.out (by omega) (by omega) (by omega)).mono ?_
      rintro e w1 ⟨rfl, e1⟩
      subst w1
      rw [HQ.out]
      go_wp2_with fail
      refine (heldByteS_any c2 (Q + 1 + 1 + 1) R2.out (by omega) (by omega) (by omega)).mono ?_
      rintro e w1 ⟨rfl, e1⟩
      subst w1
      rw [HTT.out]
      go_wp2_with fail
      go_roundw
      case rel => exact ⟨j + 1, by omega, by go_num, by rw [show (k + (sumR (rs.take (j + 1)) : Int)) = T by have := HStep.out; have := HX.out; have := HQ.out; have := HTT.out; omega], by trivial⟩
      case measure => simp [intOf]; omega
    · have hlt' : ¬ (j : Int) < (n : Int) := by omega
      go_wp2
      go_ret
      exact ⟨by rw [List.take_of_length_le (by omega)]; rfl, rfl⟩
end Go.Proofs.YtebhipicfgnajaaGreat
