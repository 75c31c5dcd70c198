/- An item as bytes: the contracts of the specification's l3bytes. Conditions: texts of at most 2^21 bytes. -/
import Derived.Test.YtoppccfgcccijaaDoorIt7
import Derived.Laws.AppendOwnNone
namespace Go.Proofs.YtoppccfgcccijaaDoor
open Go.RowKit

theorem xor_top (N : Int) (h0 : -9223372036854775808 ≤ N) (h1 : N ≤ 9223372036854775807) : bits .xor .u64 (IntKind.u64.wrap N) 9223372036854775808 = (((N + 9223372036854775808).toNat : Nat) : Int) := by
  have e : IntKind.u64.wrap N = N % 18446744073709551616 := by simp [IntKind.wrap, IntKind.bits, IntKind.signed]
  rw [e]
  by_cases hN : 0 ≤ N
  · obtain ⟨m, rfl⟩ := Int.eq_ofNat_of_zero_le hN
    rw [show (m : Int) % 18446744073709551616 = (m : Int) by omega]
    have h := u64_xor_nat m 9223372036854775808 (by omega) (by omega)
    have hx : m ^^^ 9223372036854775808 = 9223372036854775808 + m := neg_bits' m (by omega)
    rw [hx] at h
    rw [show ((m : Int) + 9223372036854775808).toNat = 9223372036854775808 + m by omega]
    exact h
  · obtain ⟨m, hm⟩ := Int.eq_ofNat_of_zero_le (show 0 ≤ N + 9223372036854775808 by omega)
    rw [show N % 18446744073709551616 = ((9223372036854775808 + m : Nat) : Int) by omega, hm]
    have h := u64_xor_nat (9223372036854775808 + m) 9223372036854775808 (by omega) (by omega)
    have hx : (9223372036854775808 + m) ^^^ 9223372036854775808 = m := neg_bits m (by omega)
    rw [hx] at h
    exact h

/-- An item's bytes, with these bits of its float. -/
def bytesI (K N : Int) (B : Nat) (zs : List Int) : List Int := [K] ++ (if K = 1 then hi8 (N + 9223372036854775808).toNat 8 else if K = 2 then hi8 B 8 else zs)

theorem hi8_bd (x k : Nat) : ∀ i, 0 ≤ (hi8 x k).getD i 0 ∧ (hi8 x k).getD i 0 ≤ 255 := by
  intro i
  by_cases h : i < k
  · simp only [hi8, List.getD, List.getElem?_map, List.getElem?_range h, Option.map_some, Option.getD_some]
    exact hb_bd x i
  · simp [hi8, List.getD, h]

end Go.Proofs.YtoppccfgcccijaaDoor
