/- Plain arithmetic: the number that bytes are, low first, and what GetNum answers. No conditions. -/
import Derived.Test.YtplbejipkaionaaBase
namespace Go.Proofs.Ytplbejipkaionaa
open Go.RowKit
set_option maxRecDepth 100000

/-- The number that the c bytes from place k on are, low first. -/
def val (f : Nat → Int) : Nat → Nat → Int
  | _, 0 => 0
  | k, c + 1 => val f (k + 1) c * 256 + f k

theorem val_zero (f : Nat → Int) (k : Nat) : val f k 0 = 0 := rfl
theorem val_step (f : Nat → Int) (k size : Nat) (h : k < size) : val f k (size - k) = val f (k + 1) (size - (k + 1)) * 256 + f k := by
  obtain ⟨c, hc⟩ : ∃ c, size - k = c + 1 := ⟨size - k - 1, by omega⟩
  rw [hc, show size - (k + 1) = c by omega]; rfl
theorem val_nonneg (f : Nat → Int) (hf : ∀ j, 0 ≤ f j ∧ f j ≤ 255) : ∀ c k, 0 ≤ val f k c
  | 0, k => by simp [val]
  | c + 1, k => by have := val_nonneg f hf c (k + 1); have := hf k; simp only [val]; omega
theorem val_lt (f : Nat → Int) (hf : ∀ j, 0 ≤ f j ∧ f j ≤ 255) : ∀ c k, val f k c < 256 ^ c
  | 0, k => by simp [val]
  | c + 1, k => by
    have := val_lt f hf c (k + 1); have := hf k; simp only [val]
    have e : (256 : Int) ^ (c + 1) = 256 ^ c * 256 := by rw [Int.pow_succ]
    omega
theorem val_top (f : Nat → Int) (hf : ∀ j, 0 ≤ f j ∧ f j ≤ 255) : ∀ c k, f (k + c) ≤ 127 → val f k (c + 1) < 128 * 256 ^ c
  | 0, k, h => by simp [val] at h ⊢; omega
  | c + 1, k, h => by
    have := val_top f hf c (k + 1) (by rw [show k + 1 + c = k + (c + 1) by omega]; exact h)
    have := hf k
    have e : (256 : Int) ^ (c + 1) = 256 ^ c * 256 := by rw [Int.pow_succ]
    rw [show val f k (c + 1 + 1) = val f (k + 1) (c + 1) * 256 + f k from rfl]
    omega
theorem val_top_ge (f : Nat → Int) (hf : ∀ j, 0 ≤ f j ∧ f j ≤ 255) : ∀ c k, 128 ≤ f (k + c) → 128 * 256 ^ c ≤ val f k (c + 1)
  | 0, k, h => by simp [val] at h ⊢; omega
  | c + 1, k, h => by
    have := val_top_ge f hf c (k + 1) (by rw [show k + 1 + c = k + (c + 1) by omega]; exact h)
    have := hf k
    have e : (256 : Int) ^ (c + 1) = 256 ^ c * 256 := by rw [Int.pow_succ]
    rw [show val f k (c + 1 + 1) = val f (k + 1) (c + 1) * 256 + f k from rfl]
    omega

theorem pow256_le (c d : Nat) (h : c ≤ d) : (256 : Int) ^ c ≤ 256 ^ d := by
  induction h with
  | refl => exact Int.le_refl _
  | step h ih => rename_i m; have e : (256 : Int) ^ (m + 1) = 256 ^ m * 256 := by rw [Int.pow_succ]
                 have : (0 : Int) < 256 ^ m := Int.pow_pos (by decide)
                 omega

/-- Inside the loop nothing passes 2^55. -/
theorem val_in (f : Nat → Int) (hf : ∀ j, 0 ≤ f j ∧ f j ≤ 255) (k size : Nat) (h1 : 1 ≤ k) (hk : k ≤ size) (h8 : size ≤ 8) (ht : size = 8 → k ≤ 7 → f 7 ≤ 127) : val f k (size - k) ≤ 36028797018963967 := by
  by_cases e : size = 8 ∧ k ≤ 7
  · obtain ⟨rfl, h7⟩ := e
    have h := val_top f hf (7 - k) k (by rw [show k + (7 - k) = 7 by omega]; exact ht rfl h7)
    rw [show 7 - k + 1 = 8 - k by omega] at h
    have p := pow256_le (7 - k) 6 (by omega)
    have : (256 : Int) ^ 6 = 281474976710656 := by decide
    omega
  · have h := val_lt f hf (size - k) k
    have p := pow256_le (size - k) 6 (by omega)
    have : (256 : Int) ^ 6 = 281474976710656 := by decide
    omega
theorem val_56 (f : Nat → Int) (hf : ∀ j, 0 ≤ f j ∧ f j ≤ 255) (k size : Nat) (h1 : 1 ≤ k) (h8 : size ≤ 8) : val f k (size - k) ≤ 72057594037927935 := by
  have h := val_lt f hf (size - k) k
  have p := pow256_le (size - k) 7 (by omega)
  have : (256 : Int) ^ 7 = 72057594037927936 := by decide
  omega
theorem val_64 (f : Nat → Int) (hf : ∀ j, 0 ≤ f j ∧ f j ≤ 255) (k size : Nat) (h8 : size ≤ 8) : val f k (size - k) ≤ 18446744073709551615 := by
  have h := val_lt f hf (size - k) k
  have p := pow256_le (size - k) 8 (by omega)
  have : (256 : Int) ^ 8 = 18446744073709551616 := by decide
  omega

/-- The byte at a place, of the list zs. -/
def byteFrom (zs : List Int) (at' : Nat) (j : Nat) : Int := zs.getD (at' + j) 0
/-- The number that stands there. -/
def numAt (zs : List Int) (at' size : Int) : Int := val (byteFrom zs at'.toNat) 0 size.toNat
/-- Is there one? -/
def numOk (zs : List Int) (at' size : Int) : Bool := decide (1 ≤ size ∧ size ≤ 8 ∧ 0 ≤ at' ∧ at' + size ≤ zs.length ∧ numAt zs at' size ≤ 9223372036854775807)
/-- What GetNum answers beside it. -/
def numOf (zs : List Int) (at' size : Int) : Int := if numOk zs at' size = true then numAt zs at' size else 0
theorem num_no (zs : List Int) (at' size : Int) (h : ¬ (1 ≤ size ∧ size ≤ 8 ∧ 0 ≤ at' ∧ at' + size ≤ zs.length)) : numOk zs at' size = false ∧ numOf zs at' size = 0 := by
  have e : numOk zs at' size = false := by unfold numOk; rw [decide_eq_false]; omega
  exact ⟨e, by unfold numOf; rw [if_neg (by simp [e])]⟩
theorem num_big (zs : List Int) (at' size : Nat) (h : 9223372036854775807 < val (byteFrom zs at') 0 size) : numOk zs at' size = false ∧ numOf zs at' size = 0 := by
  have e : numOk zs at' size = false := by unfold numOk numAt; rw [decide_eq_false]; simp only [Int.toNat_natCast]; omega
  exact ⟨e, by unfold numOf; rw [if_neg (by simp [e])]⟩
theorem num_yes (zs : List Int) (at' size : Nat) (h1 : 1 ≤ size) (h8 : size ≤ 8) (hl : at' + size ≤ zs.length) (h : val (byteFrom zs at') 0 size ≤ 9223372036854775807) :
    numOk zs at' size = true ∧ numOf zs at' size = val (byteFrom zs at') 0 size := by
  have e : numOk zs at' size = true := by unfold numOk numAt; rw [decide_eq_true]; simp only [Int.toNat_natCast]; omega
  exact ⟨e, by unfold numOf; rw [if_pos e]; simp [numAt]⟩
end Go.Proofs.Ytplbejipkaionaa
