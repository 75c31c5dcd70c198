/- The contracts of Crc, the specification's and the program's: both answer 'crcOf' of what is read. For slices of at most 2^21 bytes. -/
import Derived.Test.YtdlddgejpcbofaaHelp
import Derived.Test.YtdlddgejpcbofaaSum
import Derived.WalkLawsBesides
import Derived.Laws.Tables
namespace Go.Proofs.Ytdlddgejpcbofaa
set_option maxRecDepth 100000
open Go.RowKit

theorem and_one (a : Nat) (ha : a < 4294967296) : bits .and .u32 (a : Int) 1 = ((a % 2 : Nat) : Int) := by
  have := u32_and_nat a 1 ha (by omega)
  rw [show ((1 : Nat) : Int) = 1 from rfl] at this
  rw [this, Nat.and_one_is_mod]
theorem st1_odd (a : Nat) (h : a % 2 = 1) : st1 a = a / 2 ^^^ 3988292384 := by unfold st1; rw [if_pos h]
theorem st1_even (a : Nat) (h : ¬ a % 2 = 1) : st1 a = a / 2 := by unfold st1; rw [if_neg h]
theorem xor_u32 (a b : Nat) (ha : a < 4294967296) (hb : b < 4294967296) : bits .xor .u32 (a : Int) (b : Int) = ((a ^^^ b : Nat) : Int) := u32_xor_nat a b ha hb

theorem odd_u32 (y : Nat) (hlt : y < 4294967296) (h : y % 2 = 1) : bits .xor .u32 ((y : Int) / 2) 3988292384 = ((st1 y : Nat) : Int) := by
  rw [st1_odd y h, ← xor_u32 (y / 2) 3988292384 (by omega) (by omega)]
  simp only [Int.natCast_ediv]; rfl
theorem odd_i64 (y : Nat) (hlt : y < 4294967296) (h : y % 2 = 1) : bits .xor .i64 ((y : Int) / 2) 3988292384 = ((st1 y : Nat) : Int) := by
  rw [st1_odd y h, ← i64_xor (y / 2) 3988292384 (by omega) (by omega)]
  simp only [Int.natCast_ediv]; rfl
theorem even_any (y : Nat) (h : ¬ y % 2 = 1) : (y : Int) / 2 = ((st1 y : Nat) : Int) := by
  rw [st1_even y h]; omega
theorem ones_i64 (y : Nat) (hlt : y < 4294967296) : bits .xor .i64 (y : Int) 4294967295 = ((y ^^^ 4294967295 : Nat) : Int) := by
  rw [← i64_xor y 4294967295 hlt (by omega)]; rfl
theorem ones_u32 (y : Nat) (hlt : y < 4294967296) : bits .xor .u32 (y : Int) 4294967295 = ((y ^^^ 4294967295 : Nat) : Int) := by
  rw [← xor_u32 y 4294967295 hlt (by omega)]; rfl
theorem ret_congr {k : IntKind} {a b : Int} (h : a = b) : Ending.returned (.int k a) = .returned (.int k b) := by rw [h]
theorem int_congr {k : IntKind} {a b : Int} (h : a = b) : Value.int k a = .int k b := by rw [h]

end Go.Proofs.Ytdlddgejpcbofaa
