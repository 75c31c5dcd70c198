/- Decimal digits as the library's numerals tell them, both ways. No program, no conditions. -/
import Derived.Test.YtoppccfgcccijaaDoorMga
import Derived.Test.YtoppccfgcccijaaDoorSt
import Derived.Lib.ItoaNum
import Derived.Lib.AtoiAll
namespace Go.Proofs.YtoppccfgcccijaaDoor
open Go.RowKit
set_option maxRecDepth 100000

theorem us_app18 (a b : List Int) : us (a ++ b) = us a ++ us b := by simp [us]
theorem u8_of18 {n : Nat} (h : n ≤ 255) : (UInt8.ofNat n).toNat = n := by
  rw [UInt8.toNat_ofNat']; omega
theorem dec_low18 : ∀ (f n : Nat), n < 10 ^ (f + 1) → us (lowD f n).reverse = Lib.decDigits n
  | 0, n, h => by
    rw [Lib.decDigits, dif_pos (by simpa using h)]
    simp only [lowD, List.reverse_singleton, us, List.map_cons, List.map_nil]
    congr 2
  | f + 1, n, h => by
    by_cases hn : 9 < n
    · rw [lowD_big hn, List.reverse_cons, us_app18, dec_low18 f (n / 10) (by rw [Nat.pow_succ] at h; omega)]
      rw [show Lib.decDigits n = Lib.decDigits (n / 10) ++ [UInt8.ofNat (48 + n % 10)] from by rw [Lib.decDigits, dif_neg (show ¬ n < 10 by omega)]]
      congr 1
    · rw [lowD_one hn, Lib.decDigits, dif_pos (by omega)]
      simp only [List.reverse_singleton, us, List.map_cons, List.map_nil]
      congr 2
theorem dec_us18 {n : Nat} (h : n ≤ 9223372036854775808) : us (decN n) = Lib.decDigits n := dec_low18 20 n (by omega)
theorem itoa_dec18 {n : Int} (h : -9223372036854775808 ≤ n ∧ n ≤ 9223372036854775807) : Lib.itoa n = us (decI n) := by
  unfold Lib.itoa decI
  split
  · rw [show n.natAbs = (-n).toNat by omega, ← dec_us18 (by omega)]; rfl
  · rw [← dec_us18 (by omega)]
theorem str_itoa18 {n : Int} (h : -9223372036854775808 ≤ n ∧ n ≤ 9223372036854775807) : (⟨(Lib.itoa n).toArray⟩ : ByteArray) = str (decI n) := by rw [itoa_dec18 h]; rfl
theorem parse_dec18 : ∀ (f n : Nat) (r : List UInt8), n < 10 ^ (f + 1) → n ≤ 9223372036854775808 → Lib.parseUint10 0 (us (lowD f n).reverse ++ r) = Lib.parseUint10 n r
  | 0, n, r, h, hb => by
    have hd : (UInt8.ofNat (48 + (n : Int)).toNat).toNat = 48 + n := by rw [show (48 + (n : Int)).toNat = 48 + n by omega]; exact u8_of18 (by simp at h; omega)
    simp only [lowD, List.reverse_singleton, us, List.map_cons, List.map_nil, List.cons_append, List.nil_append, Lib.parseUint10]
    rw [hd, if_pos (by simp at h; omega), if_neg (by omega), if_neg (by simp at h; omega)]
    congr 1; omega
  | f + 1, n, r, h, hb => by
    by_cases hn : 9 < n
    · rw [lowD_big hn, List.reverse_cons, us_app18, List.append_assoc, parse_dec18 f (n / 10) _ (by rw [Nat.pow_succ] at h; omega) (by omega)]
      have hd : (UInt8.ofNat (48 + (n : Int) % 10).toNat).toNat = 48 + n % 10 := by rw [show (48 + (n : Int) % 10).toNat = 48 + n % 10 by omega]; exact u8_of18 (by omega)
      simp only [us, List.map_cons, List.map_nil, List.cons_append, List.nil_append, Lib.parseUint10]
      rw [hd, if_pos (by omega), if_neg (by omega), if_neg (by omega)]
      congr 1; omega
    · have hd : (UInt8.ofNat (48 + (n : Int)).toNat).toNat = 48 + n := by rw [show (48 + (n : Int)).toNat = 48 + n by omega]; exact u8_of18 (by omega)
      rw [lowD_one hn]
      simp only [List.reverse_singleton, us, List.map_cons, List.map_nil, List.cons_append, List.nil_append, Lib.parseUint10]
      rw [hd, if_pos (by omega), if_neg (by omega), if_neg (by omega)]
      congr 1; omega
theorem parse_decN18 {n : Nat} (h : n ≤ 9223372036854775808) : Lib.parseMag (us (decN n)) = .ok n := by
  have h1 := parse_dec18 20 n [] (by omega) h
  rw [List.append_nil] at h1
  have hl := decN_len n
  unfold Lib.parseMag
  rw [if_neg (by intro e; rw [us, List.map_eq_nil_iff] at e; rw [e] at hl; simp at hl)]
  exact h1
theorem atoi_dec18 {n : Int} (h : -9223372036854775808 ≤ n ∧ n ≤ 9223372036854775807) : Lib.atoiAll (us (decI n)) = .ok n := by
  unfold decI
  split
  · rename_i hn
    have hp := parse_decN18 (n := (-n).toNat) (by omega)
    show Lib.atoiAll ((45 : UInt8) :: us (decN (-n).toNat)) = _
    simp only [Lib.atoiAll]
    rw [if_pos (Or.inr (by decide)), hp]
    simp only
    rw [if_neg (by intro e; exact e.1 (by decide)), if_neg (by omega), if_pos (by decide)]
    congr 1; omega
  · rename_i hn
    have hp := parse_decN18 (n := n.toNat) (by omega)
    have hl := decN_len n.toNat
    have hb := decN_bd (n := n.toNat) (by omega)
    cases hd : decN n.toNat with
    | nil => rw [hd] at hl; simp at hl
    | cons c r =>
      have hc := hb c (by rw [hd]; exact List.mem_cons_self ..)
      rw [hd] at hp
      have hcn : (UInt8.ofNat c.toNat).toNat = c.toNat := u8_of18 (by omega)
      show Lib.atoiAll (UInt8.ofNat c.toNat :: us r) = _
      simp only [Lib.atoiAll]
      rw [hcn, if_neg (by omega)]
      rw [show UInt8.ofNat c.toNat :: us r = us (c :: r) from rfl, hp]
      simp only
      rw [if_neg (by omega), if_neg (by omega), if_neg (by omega)]
      congr 1; omega
end Go.Proofs.YtoppccfgcccijaaDoor
