/- Plain arithmetic on numbers as bytes, low first. No conditions. -/
import Derived.Test.YtplbejipkaionaaBase
namespace Go.Proofs.Ytplbejipkaionaa
open Go.RowKit
set_option maxRecDepth 100000

/-- n behind i bytes. -/
def sh (n i : Nat) : Nat := n / 256 ^ i
theorem sh_zero (n : Nat) : sh n 0 = n := by simp [sh]
theorem sh_succ (n i : Nat) : sh n (i + 1) = sh n i / 256 := by simp [sh, Nat.pow_succ, Nat.div_div_eq_div_mul]
theorem sh_le (n i : Nat) : sh n i ≤ n := Nat.div_le_self _ _

/-- The lowest 'size' bytes of n, low first. -/
def dig (n size : Nat) : List Int := (List.range size).map fun i => ((sh n i : Nat) : Int) % 256
theorem dig_length (n size : Nat) : (dig n size).length = size := by simp [dig]
theorem dig_succ (n i : Nat) : dig n (i + 1) = dig n i ++ [((sh n i : Nat) : Int) % 256] := by simp [dig, List.range_succ]
theorem dig_zero (n : Nat) : dig n 0 = [] := rfl
theorem dig_at (n size i : Nat) (h : i < size) : (dig n size).getD i 0 = ((sh n i : Nat) : Int) % 256 := by simp [dig, h]
theorem dig_bd (n size i : Nat) : 0 ≤ (dig n size).getD i 0 ∧ (dig n size).getD i 0 ≤ 255 := by
  by_cases h : i < size
  · rw [dig_at n size i h]; omega
  · simp [dig, h]

/-- What PutNum answers. -/
def putL (n size : Int) : List Int := if 1 ≤ size ∧ size ≤ 8 ∧ 0 ≤ n ∧ sh n.toNat size.toNat = 0 then dig n.toNat size.toNat else []
theorem putL_bd (n size : Int) (i : Nat) : 0 ≤ (putL n size).getD i 0 ∧ (putL n size).getD i 0 ≤ 255 := by
  unfold putL; split
  · exact dig_bd _ _ _
  · simp
theorem putL_no (n size : Int) (h : ¬ (1 ≤ size ∧ size ≤ 8 ∧ 0 ≤ n)) : putL n size = [] := by
  unfold putL; rw [if_neg (by omega)]
theorem putL_big (n size : Nat) (h : 0 < sh n size) : putL n size = [] := by
  unfold putL; rw [if_neg (by simp; omega)]
theorem putL_yes (n size : Nat) (h1 : 1 ≤ size) (h8 : size ≤ 8) (h : sh n size = 0) : putL n size = dig n size := by
  unfold putL; rw [if_pos (by simp; omega)]; simp
theorem putL_length (n size : Int) : (putL n size).length ≤ 8 := by
  unfold putL; split
  · rw [dig_length]; omega
  · simp
end Go.Proofs.Ytplbejipkaionaa
