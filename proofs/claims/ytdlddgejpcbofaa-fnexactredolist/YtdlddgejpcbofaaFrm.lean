/- What Frame answers, plainly, and the contract of the specification's Frame. For bodies of at most 2^21 bytes. -/
import Derived.Test.YtdlddgejpcbofaaPut
import Derived.Test.YtdlddgejpcbofaaTab
namespace Go.Proofs.Ytdlddgejpcbofaa
set_option maxRecDepth 100000
open Go.RowKit

theorem sh_le_pow (n k : Nat) (h : n < 256 ^ k) : sh n k = 0 := Nat.div_eq_of_lt h
theorem putL_two (n : Nat) (h : n ≤ 65535) : (putL n 2).length = 2 := by
  rw [show (2 : Int) = ((2 : Nat) : Int) from rfl, putL_yes n 2 (by omega) (by omega) (sh_le_pow n 2 (by omega)), dig_length]
theorem putL_four (x : Int) (h0 : 0 ≤ x) (h : x ≤ 4294967295) : (putL x 4).length = 4 := by
  obtain ⟨n, rfl⟩ := Int.eq_ofNat_of_zero_le h0
  rw [show (4 : Int) = ((4 : Nat) : Int) from rfl, putL_yes n 4 (by omega) (by omega) (sh_le_pow n 4 (by omega)), dig_length]

/-- A frame without its sum. -/
def headL (kind : Int) (zs : List Int) : List Int := [kind] ++ putL zs.length 2 ++ zs
/-- A frame. -/
def frameL (kind : Int) (zs : List Int) : List Int := headL kind zs ++ putL (crcOf (headL kind zs)) 4
/-- What Frame answers. -/
def frameOf (kind : Int) (zs : List Int) : List Int := if 1 ≤ kind ∧ kind ≤ 255 ∧ zs.length ≤ 1000 then frameL kind zs else []

theorem bd_append {a b : List Int} (ha : ∀ i, 0 ≤ a.getD i 0 ∧ a.getD i 0 ≤ 255) (hb : ∀ i, 0 ≤ b.getD i 0 ∧ b.getD i 0 ≤ 255) : ∀ i, 0 ≤ (a ++ b).getD i 0 ∧ (a ++ b).getD i 0 ≤ 255 := by
  intro i
  by_cases h : i < a.length
  · have := ha i
    rwa [List.getD_eq_getElem?_getD, List.getElem?_append_left h, ← List.getD_eq_getElem?_getD]
  · have := hb (i - a.length)
    rwa [List.getD_eq_getElem?_getD, List.getElem?_append_right (by omega), ← List.getD_eq_getElem?_getD]
theorem bd_one (x : Int) (h0 : 0 ≤ x) (h : x ≤ 255) : ∀ i, 0 ≤ [x].getD i 0 ∧ [x].getD i 0 ≤ 255 := by
  intro i
  match i with
  | 0 => simpa using ⟨h0, h⟩
  | i + 1 => simp
theorem headL_bd (kind : Int) (zs : List Int) (h0 : 0 ≤ kind) (h : kind ≤ 255) (hz : ∀ i, 0 ≤ zs.getD i 0 ∧ zs.getD i 0 ≤ 255) : ∀ i, 0 ≤ (headL kind zs).getD i 0 ∧ (headL kind zs).getD i 0 ≤ 255 :=
  bd_append (bd_append (bd_one kind h0 h) (putL_bd _ _)) hz
theorem frameL_bd (kind : Int) (zs : List Int) (h0 : 0 ≤ kind) (h : kind ≤ 255) (hz : ∀ i, 0 ≤ zs.getD i 0 ∧ zs.getD i 0 ≤ 255) : ∀ i, 0 ≤ (frameL kind zs).getD i 0 ∧ (frameL kind zs).getD i 0 ≤ 255 :=
  bd_append (headL_bd kind zs h0 h hz) (putL_bd _ _)
theorem frameOf_bd (kind : Int) (zs : List Int) (hz : ∀ i, 0 ≤ zs.getD i 0 ∧ zs.getD i 0 ≤ 255) : ∀ i, 0 ≤ (frameOf kind zs).getD i 0 ∧ (frameOf kind zs).getD i 0 ≤ 255 := by
  unfold frameOf; split
  · exact frameL_bd kind zs (by omega) (by omega) hz
  · simp
theorem headL_length (kind : Int) (zs : List Int) (h : zs.length ≤ 1000) : (headL kind zs).length = 3 + zs.length := by
  unfold headL; rw [List.length_append, List.length_append, putL_two _ (by omega)]; simp
theorem crcOf_small (zs : List Int) (h : zs.length ≤ 65536) (hz : ∀ i, 0 ≤ zs.getD i 0 ∧ zs.getD i 0 ≤ 255) : 0 ≤ crcOf zs ∧ crcOf zs ≤ 4294967295 := by
  refine ⟨?_, (crcOf_bd zs hz).2⟩
  unfold crcOf; rw [if_neg (by omega)]; omega
theorem frameOf_no (kind : Int) (zs : List Int) (h : ¬ (1 ≤ kind ∧ kind ≤ 255 ∧ zs.length ≤ 1000)) : frameOf kind zs = [] := by unfold frameOf; rw [if_neg h]
theorem frameOf_yes (kind : Int) (zs : List Int) (h : 1 ≤ kind ∧ kind ≤ 255 ∧ zs.length ≤ 1000) : frameOf kind zs = frameL kind zs := by unfold frameOf; rw [if_pos h]
theorem frameL_length (kind : Int) (zs : List Int) (h0 : 0 ≤ kind) (h1 : kind ≤ 255) (h : zs.length ≤ 1000) (hz : ∀ i, 0 ≤ zs.getD i 0 ∧ zs.getD i 0 ≤ 255) : (frameL kind zs).length = zs.length + 7 := by
  have hh := headL_length kind zs h
  have hc := crcOf_small (headL kind zs) (by omega) (headL_bd kind zs h0 h1 hz)
  unfold frameL
  rw [List.length_append, hh, putL_four _ hc.1 hc.2]; omega
theorem frameOf_length (kind : Int) (zs : List Int) (hz : ∀ i, 0 ≤ zs.getD i 0 ∧ zs.getD i 0 ≤ 255) : (frameOf kind zs).length ≤ 1007 := by
  unfold frameOf; split
  · rw [frameL_length kind zs (by omega) (by omega) (by omega) hz]; omega
  · simp

end Go.Proofs.Ytdlddgejpcbofaa
