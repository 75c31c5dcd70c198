/- What is read of bytes: eight bytes and their number; keys and values. -/
import Derived.Test.YtggnghnnlemccaaIl
namespace Go.Proofs.Ytggnghnnlemccaa
open Go.RowKit

theorem eight {zs : List Int} (h : zs.length = 8) : ∃ a b c d e f g i, zs = [a, b, c, d, e, f, g, i] := by
  match zs, h with
  | [a, b, c, d, e, f, g, i], _ => exact ⟨a, b, c, d, e, f, g, i, rfl⟩

theorem low_eight (a b c d e f g i : Nat) (ha : a < 256) (hb : b < 256) (hc : c < 256) (hd : d < 256) (he : e < 256) (hf : f < 256) (hg : g < 256) (hi : i < 256) :
    low [(a : Int), b, c, d, e, f, g, i] = a * 72057594037927936 + b * 281474976710656 + c * 1099511627776 + d * 4294967296 + e * 16777216 + f * 65536 + g * 256 + i := by
  simp only [low, List.foldl_cons, List.foldl_nil, Int.toNat_natCast]
  omega

theorem hi8_low {zs : List Int} (h : zs.length = 8) (hB : ∀ i, 0 ≤ zs.getD i 0 ∧ zs.getD i 0 ≤ 255) : hi8 (low zs) 8 = zs := by
  obtain ⟨a, b, c, d, e, f, g, i, rfl⟩ := eight h
  have b0 := hB 0
  have b1 := hB 1
  have b2 := hB 2
  have b3 := hB 3
  have b4 := hB 4
  have b5 := hB 5
  have b6 := hB 6
  have b7 := hB 7
  simp only [List.getD_cons_zero, List.getD_cons_succ] at b0 b1 b2 b3 b4 b5 b6 b7
  obtain ⟨a, rfl⟩ := Int.eq_ofNat_of_zero_le b0.1
  obtain ⟨b, rfl⟩ := Int.eq_ofNat_of_zero_le b1.1
  obtain ⟨c, rfl⟩ := Int.eq_ofNat_of_zero_le b2.1
  obtain ⟨d, rfl⟩ := Int.eq_ofNat_of_zero_le b3.1
  obtain ⟨e, rfl⟩ := Int.eq_ofNat_of_zero_le b4.1
  obtain ⟨f, rfl⟩ := Int.eq_ofNat_of_zero_le b5.1
  obtain ⟨g, rfl⟩ := Int.eq_ofNat_of_zero_le b6.1
  obtain ⟨i, rfl⟩ := Int.eq_ofNat_of_zero_le b7.1
  rw [low_eight a b c d e f g i (by omega) (by omega) (by omega) (by omega) (by omega) (by omega) (by omega) (by omega)]
  have hr : List.range 8 = [0, 1, 2, 3, 4, 5, 6, 7] := by decide
  rw [hi8, hr]
  simp only [List.map_cons, List.map_nil, hb]
  simp only [show 8 * (7 - 0) = 56 from rfl, show 8 * (7 - 1) = 48 from rfl, show 8 * (7 - 2) = 40 from rfl, show 8 * (7 - 3) = 32 from rfl, show 8 * (7 - 4) = 24 from rfl, show 8 * (7 - 5) = 16 from rfl, show 8 * (7 - 6) = 8 from rfl, show 8 * (7 - 7) = 0 from rfl, List.cons.injEq, and_true]
  refine ⟨?_, ?_, ?_, ?_, ?_, ?_, ?_, ?_⟩ <;> omega

theorem low_hi8 (x : Nat) (hx : x < 18446744073709551616) : low (hi8 x 8) = x := by
  have hr : List.range 8 = [0, 1, 2, 3, 4, 5, 6, 7] := by decide
  rw [hi8, hr]
  simp only [List.map_cons, List.map_nil, hb]
  rw [low_eight _ _ _ _ _ _ _ _ (by omega) (by omega) (by omega) (by omega) (by omega) (by omega) (by omega) (by omega)]
  simp only [show 8 * (7 - 0) = 56 from rfl, show 8 * (7 - 1) = 48 from rfl, show 8 * (7 - 2) = 40 from rfl, show 8 * (7 - 3) = 32 from rfl, show 8 * (7 - 4) = 24 from rfl, show 8 * (7 - 5) = 16 from rfl, show 8 * (7 - 6) = 8 from rfl, show 8 * (7 - 7) = 0 from rfl]
  omega
end Go.Proofs.Ytggnghnnlemccaa
