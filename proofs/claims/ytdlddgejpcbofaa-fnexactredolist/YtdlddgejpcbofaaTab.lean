/- The contracts of the program's table of sums and of its Crc. For slices of at most 2^21 bytes. -/
import Derived.Test.YtdlddgejpcbofaaCrc
namespace Go.Proofs.Ytdlddgejpcbofaa
set_option maxRecDepth 100000
open Go.RowKit

/-- The table as it stands behind k rounds. -/
def tabL (k : Nat) : List Value := (List.range k).map (fun i => Value.int .u32 ((stN 8 i : Nat) : Int)) ++ List.replicate (256 - k) (Value.int .u32 0)
def tabA (k : Nat) : Array Value := (tabL k).toArray
theorem tabA_size (k : Nat) (h : k ≤ 256) : (tabA k).size = 256 := by simp [tabA, tabL]; omega
theorem tabA_set (k : Nat) (h : k < 256) : (tabA k).setIfInBounds k (.int .u32 ((stN 8 k : Nat) : Int)) = tabA (k + 1) := by
  unfold tabA tabL
  obtain ⟨m, hm⟩ : ∃ m, 256 - k = m + 1 := ⟨255 - k, by omega⟩
  rw [List.setIfInBounds_toArray, List.set_append_right _ _ (by simp), hm, show 256 - (k + 1) = m by omega]
  simp [List.replicate_succ, List.range_succ]
theorem tabA_at (k i : Nat) (h : k ≤ 256) (hi : i < 256) : ∃ v, (tabA k)[i]? = some v := by
  have := tabA_size k h
  exact ⟨_, Array.getElem?_eq_getElem (by omega)⟩
theorem tabA_full (i : Nat) (hi : i < 256) : (tabA 256)[i]? = some (.int .u32 ((stN 8 i : Nat) : Int)) := by simp [tabA, tabL, hi]
theorem tabA_one (k : Nat) : (tabA k).all (·.oneCell') = true := by
  rw [Array.all_eq_true_iff_forall_mem]
  intro v hv
  simp [tabA, tabL] at hv
  rcases hv with ⟨i, _, rfl⟩ | ⟨_, rfl⟩ <;> rfl
theorem low_u32 (y c : Nat) (hc : c ≤ 255) : bits .xor .u8 ((y : Int) % 256) (c : Int) = ((y % 256 ^^^ c : Nat) : Int) := by
  rw [← u8_xor_nat (y % 256) c (by omega) (by omega)]; simp
theorem tab_step (y c : Nat) (hy : y < 4294967296) (hc : c ≤ 255) : bits .xor .u32 ((y : Int) / 256) ((stN 8 (y % 256 ^^^ c) : Nat) : Int) = ((stp y (c : Int) : Nat) : Int) := by
  have hl : y % 256 ^^^ c < 256 := Nat.xor_lt_two_pow (n := 8) (by omega) (by omega)
  have h := xor_u32 (y / 256) (stN 8 (y % 256 ^^^ c)) (by omega) (stN_lt _ _ (by omega))
  have e : stp y (c : Int) = y / 256 ^^^ stN 8 (y % 256 ^^^ c) := by unfold stp; rw [Int.toNat_natCast, stN_table]
  rw [e, ← h]; simp

theorem crcOf_big (zs : List Int) (h : 65536 < zs.length) : crcOf zs = -1 := by unfold crcOf; rw [if_pos h]

end Go.Proofs.Ytdlddgejpcbofaa
