/- Eight bytes, high first: the contract of the specification's l3high. No conditions. -/
import Derived.Test.YtnhlfkffllbpiaaMga
namespace Go.Proofs.Ytnhlfkffllbpiaa
open Go.RowKit

/-- The byte at place j of eight, high first. -/
def hb (x j : Nat) : Int := ((x / 2 ^ (8 * (7 - j)) % 256 : Nat) : Int)
def hi8 (x k : Nat) : List Int := (List.range k).map (hb x)
theorem hi8_succ (x k : Nat) : hi8 x (k + 1) = hi8 x k ++ [hb x k] := by simp [hi8, List.range_succ]
theorem hi8_length (x k : Nat) : (hi8 x k).length = k := by simp [hi8]
theorem hb_bd (x j : Nat) : 0 ≤ hb x j ∧ hb x j ≤ 255 := by unfold hb; omega

theorem shr_eq (x i : Nat) : (x : Int) / 2 ^ (8 * (i : Int)).toNat = ((x / 2 ^ (8 * i) : Nat) : Int) := by
  rw [show (8 * (i : Int)).toNat = 8 * i by omega]
  simp
theorem and_byte (y : Nat) (h : y < 18446744073709551616) : bits .and .u64 (y : Int) 255 = ((y % 256 : Nat) : Int) := by
  have := u64_and_nat y 255 h (by omega)
  rw [nat_mask8] at this
  exact this

end Go.Proofs.Ytnhlfkffllbpiaa
