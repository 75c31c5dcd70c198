/- What FrameAt answers, plainly. No conditions. -/
import Derived.Test.YtplbejipkaionaaFri
import Derived.Test.YtplbejipkaionaaGet
namespace Go.Proofs.Ytplbejipkaionaa
set_option maxRecDepth 100000
open Go.RowKit

/-- m numbers of a list, from place A on. -/
def sub (zs : List Int) (A m : Nat) : List Int := (zs.drop A).take m
theorem sub_length (zs : List Int) (A m : Nat) (h : A + m ≤ zs.length) : (sub zs A m).length = m := by simp [sub]; omega
theorem sub_at (zs : List Int) (A m i : Nat) (h : i < m) : (sub zs A m).getD i 0 = zs.getD (A + i) 0 := by simp [sub, h]
theorem Reads.cut {w : World} {b off n : Nat} {zs : List Int} (h : Reads w (some ⟨b, off, none⟩) n zs) (A m : Nat) (hm : A + m ≤ n) : Reads w (some ⟨b, off + A, none⟩) m (sub zs A m) := by
  refine ⟨sub_length zs A m (by rw [h.len]; exact hm), ?_, ?_⟩
  · by_cases h0 : m = 0
    · exact .inl h0
    · rcases h.cells with h1 | ⟨b', off', e, hc⟩
      · omega
      · cases e
        refine .inr ⟨b, off + A, rfl, fun i hi => ?_⟩
        rw [Nat.add_assoc, hc (A + i) (by omega), sub_at zs A m i hi]
  · intro i
    by_cases hi : i < m
    · rw [sub_at zs A m i hi]; exact h.bd _
    · have : (sub zs A m).length ≤ m := by simp [sub]; omega
      rw [List.getD_eq_getElem?_getD, List.getElem?_eq_none (by omega)]; simp

/-- FrameAt's four answers. -/
structure FA where
  k : Int
  b : List Int
  n : Int
  c : Int
def faOf (zs : List Int) (at' : Int) : FA :=
  if 65536 < zs.length ∨ at' < 0 ∨ (zs.length : Int) < at' + 3 then ⟨0, [], 0, 1⟩
  else if zs.getD at'.toNat 0 = 0 ∨ 1000 < numOf zs (at' + 1) 2 then ⟨0, [], 0, 2⟩
  else if (zs.length : Int) < at' + 7 + numOf zs (at' + 1) 2 then ⟨0, [], 0, 1⟩
  else if numOf zs (at' + 3 + numOf zs (at' + 1) 2) 4 ≠ crcOf (sub zs at'.toNat (3 + (numOf zs (at' + 1) 2).toNat)) then ⟨0, [], 0, 3⟩
  else ⟨zs.getD at'.toNat 0, sub zs (at'.toNat + 3) (numOf zs (at' + 1) 2).toNat, at' + 7 + numOf zs (at' + 1) 2, 0⟩

theorem byteFrom_bd {zs : List Int} (hz : ∀ i, 0 ≤ zs.getD i 0 ∧ zs.getD i 0 ≤ 255) (A : Nat) : ∀ j, 0 ≤ byteFrom zs A j ∧ byteFrom zs A j ≤ 255 := fun j => hz (A + j)
theorem num_two (zs : List Int) (hz : ∀ i, 0 ≤ zs.getD i 0 ∧ zs.getD i 0 ≤ 255) (A : Nat) (h : A + 2 ≤ zs.length) : numOk zs A 2 = true ∧ 0 ≤ numOf zs A 2 ∧ numOf zs A 2 ≤ 65535 := by
  have hl := val_lt (byteFrom zs A) (byteFrom_bd hz A) 2 0
  have h0 := val_nonneg (byteFrom zs A) (byteFrom_bd hz A) 2 0
  have p : (256 : Int) ^ 2 = 65536 := by decide
  obtain ⟨e1, e2⟩ := num_yes zs A 2 (by omega) (by omega) h (by omega)
  rw [show ((2 : Nat) : Int) = 2 from rfl] at e1 e2
  rw [e2]
  exact ⟨e1, h0, by omega⟩
theorem num_four (zs : List Int) (hz : ∀ i, 0 ≤ zs.getD i 0 ∧ zs.getD i 0 ≤ 255) (A : Nat) (h : A + 4 ≤ zs.length) : numOk zs A 4 = true ∧ 0 ≤ numOf zs A 4 ∧ numOf zs A 4 ≤ 4294967295 := by
  have hl := val_lt (byteFrom zs A) (byteFrom_bd hz A) 4 0
  have h0 := val_nonneg (byteFrom zs A) (byteFrom_bd hz A) 4 0
  have p : (256 : Int) ^ 4 = 4294967296 := by decide
  obtain ⟨e1, e2⟩ := num_yes zs A 4 (by omega) (by omega) h (by omega)
  rw [show ((4 : Nat) : Int) = 4 from rfl] at e1 e2
  rw [e2]
  exact ⟨e1, h0, by omega⟩

theorem fa_no (zs : List Int) (at' : Int) (h : 65536 < zs.length ∨ at' < 0 ∨ (zs.length : Int) < at' + 3) : faOf zs at' = ⟨0, [], 0, 1⟩ := by unfold faOf; rw [if_pos h]
theorem fa_bad (zs : List Int) (A : Nat) (N : Int) (hl : zs.length ≤ 65536) (hA : A + 3 ≤ zs.length) (hN : numOf zs ((A : Int) + 1) 2 = N) (h : zs.getD A 0 = 0 ∨ 1000 < N) : faOf zs A = ⟨0, [], 0, 2⟩ := by
  unfold faOf; rw [if_neg (by omega), Int.toNat_natCast, hN, if_pos h]
theorem fa_short (zs : List Int) (A : Nat) (N : Int) (hl : zs.length ≤ 65536) (hA : A + 3 ≤ zs.length) (hN : numOf zs ((A : Int) + 1) 2 = N) (h : ¬ (zs.getD A 0 = 0 ∨ 1000 < N)) (h2 : (zs.length : Int) < A + 7 + N) : faOf zs A = ⟨0, [], 0, 1⟩ := by
  unfold faOf; rw [if_neg (by omega), Int.toNat_natCast, hN, if_neg h, if_pos h2]
theorem fa_sum (zs : List Int) (A N : Nat) (hl : zs.length ≤ 65536) (hA : A + 3 ≤ zs.length) (hN : numOf zs ((A : Int) + 1) 2 = N) (h : ¬ (zs.getD A 0 = 0 ∨ 1000 < (N : Int))) (h2 : ¬ (zs.length : Int) < A + 7 + N) (h3 : numOf zs ((A : Int) + 3 + N) 4 ≠ crcOf (sub zs A (3 + N))) : faOf zs A = ⟨0, [], 0, 3⟩ := by
  unfold faOf; rw [if_neg (by omega), Int.toNat_natCast, hN, if_neg h, if_neg h2, Int.toNat_natCast, if_pos h3]
theorem fa_well (zs : List Int) (A N : Nat) (hl : zs.length ≤ 65536) (hA : A + 3 ≤ zs.length) (hN : numOf zs ((A : Int) + 1) 2 = N) (h : ¬ (zs.getD A 0 = 0 ∨ 1000 < (N : Int))) (h2 : ¬ (zs.length : Int) < A + 7 + N) (h3 : numOf zs ((A : Int) + 3 + N) 4 = crcOf (sub zs A (3 + N))) : faOf zs A = ⟨zs.getD A 0, sub zs (A + 3) N, A + 7 + N, 0⟩ := by
  unfold faOf; rw [if_neg (by omega), Int.toNat_natCast, hN, if_neg h, if_neg h2, Int.toNat_natCast, if_neg (by simpa using h3)]
end Go.Proofs.Ytplbejipkaionaa
