/- The program's take, over the whole array. Conditions: places up to 400. -/
import Derived.Test.YtioefplkadpfnaaSg8
namespace Go.Proofs.Ytioefplkadpfnaa
open Go.RowKit
set_option maxRecDepth 100000

/-- The two bits at place q of a byte. -/
def bitsAt (c : Int) (q : Nat) : Int := if q = 0 then c % 4 else if q = 1 then c / 4 % 4 else if q = 2 then c / 16 % 4 else c / 64 % 4
def sh4 (q : Nat) : Int := if q = 0 then 1 else if q = 1 then 4 else if q = 2 then 16 else 64
theorem and3 (n : Int) : bits .and .i64 n 3 = n % 4 := by
  have h3 : (BitVec.ofInt 64 3).toNat = 2 ^ 2 - 1 := by decide
  have key : (BitVec.ofInt 64 n &&& BitVec.ofInt 64 3).toNat = (n % ((2 ^ 64 : Nat) : Int)).toNat % 2 ^ 2 := by
    rw [BitVec.toNat_and, BitVec.toNat_ofInt, h3, Nat.and_two_pow_sub_one_eq_mod]
  show IntKind.i64.wrap ((BitVec.ofInt 64 n &&& BitVec.ofInt 64 3).toNat : Nat) = n % 4
  rw [key, IntKind.wrap_i64]
  omega
theorem bitsAt_bd (c : Int) (q : Nat) : 0 ≤ bitsAt c q ∧ bitsAt c q ≤ 3 := by unfold bitsAt; split <;> (try split) <;> (try split) <;> omega
theorem clr_all : ∀ c : Fin 256, (c.val &&& (255 - c.val % 4) = c.val - c.val % 4) ∧ (c.val &&& (255 - c.val / 4 % 4 * 4) = c.val - c.val / 4 % 4 * 4) ∧ (c.val &&& (255 - c.val / 16 % 4 * 16) = c.val - c.val / 16 % 4 * 16) ∧ (c.val &&& (255 - c.val / 64 % 4 * 64) = c.val - c.val / 64 % 4 * 64) := by decide +kernel
theorem clr (c : Int) (h0 : 0 ≤ c) (h1 : c ≤ 255) (q : Nat) (hq : q < 4) : bits .andNot .u8 c (bitsAt c q * sh4 q) = c - bitsAt c q * sh4 q := by
  obtain ⟨n, rfl⟩ := Int.eq_ofNat_of_zero_le h0
  have hn : n < 256 := by omega
  obtain ⟨e0, e1, e2, e3⟩ := clr_all ⟨n, hn⟩
  simp only at e0 e1 e2 e3
  rcases (show q = 0 ∨ q = 1 ∨ q = 2 ∨ q = 3 by omega) with rfl | rfl | rfl | rfl
  · have e := u8_andNot_nat n (n % 4) hn (by omega)
    rw [e0] at e
    rw [show bitsAt (n : Int) 0 * sh4 0 = ((n % 4 : Nat) : Int) by simp [bitsAt, sh4], e]; omega
  · have e := u8_andNot_nat n (n / 4 % 4 * 4) hn (by omega)
    rw [e1] at e
    rw [show bitsAt (n : Int) 1 * sh4 1 = ((n / 4 % 4 * 4 : Nat) : Int) by simp [bitsAt, sh4], e]; omega
  · have e := u8_andNot_nat n (n / 16 % 4 * 16) hn (by omega)
    rw [e2] at e
    rw [show bitsAt (n : Int) 2 * sh4 2 = ((n / 16 % 4 * 16 : Nat) : Int) by simp [bitsAt, sh4], e]; omega
  · have e := u8_andNot_nat n (n / 64 % 4 * 64) hn (by omega)
    rw [e3] at e
    rw [show bitsAt (n : Int) 3 * sh4 3 = ((n / 64 % 4 * 64 : Nat) : Int) by simp [bitsAt, sh4], e]; omega

theorem take_no3 {w : World} {p x : Nat} {zs : List Int} (h : Arr w p zs) (hx : x ≤ 400) (hs : bitsAt (zs.getD (x / 4) 0) (x % 4) ≠ 3) :
    Calls Try.prog 71 #[.pointer (some ⟨p, 0, none⟩), .int .i64 x] w fun e w' => e = .returned (.int .i64 (bitsAt (zs.getD (x / 4) 0) (x % 4))) ∧ Arr w' p (zs.set (x / 4) (zs.getD (x / 4) 0 - bitsAt (zs.getD (x / 4) 0) (x % 4) * sh4 (x % 4))) ∧ w.grownBy w' (some p) := by
  have hj : (x : Int) / 4 = ((x / 4 : Nat) : Int) := by omega
  have hj1 : x / 4 < 101 := by omega
  have hb := h.bd (x / 4)
  have hc := h.cell hj1
  have hB := bitsAt_bd (zs.getD (x / 4) 0) (x % 4)
  have hcl := clr _ hb.1 hb.2 (x % 4) (by omega)
  have hnb : 0 ≤ zs.getD (x / 4) 0 - bitsAt (zs.getD (x / 4) 0) (x % 4) * sh4 (x % 4) ∧ zs.getD (x / 4) 0 - bitsAt (zs.getD (x / 4) 0) (x % 4) * sh4 (x % 4) ≤ 255 := by
    generalize zs.getD (x / 4) 0 = c at *
    rcases (show x % 4 = 0 ∨ x % 4 = 1 ∨ x % 4 = 2 ∨ x % 4 = 3 by omega) with hm | hm | hm | hm <;> rw [hm] <;> simp [bitsAt, sh4] <;> omega
  obtain ⟨nb, hN⟩ : ∃ nb, zs.getD (x / 4) 0 - bitsAt (zs.getD (x / 4) 0) (x % 4) * sh4 (x % 4) = nb := ⟨_, rfl⟩
  obtain ⟨s, hS⟩ : ∃ s, bitsAt (zs.getD (x / 4) 0) (x % 4) = s := ⟨_, rfl⟩
  have H : ∀ e w', e = Ending.returned (.int .i64 s) ∧ w' = (w.drew.setCell ⟨p, x / 4, none⟩ (.int .u8 nb)).drew → e = Ending.returned (.int .i64 s) ∧ Arr w' p (zs.set (x / 4) nb) ∧ w.grownBy w' (some p) := by
    rintro e w' ⟨rfl, rfl⟩
    have hA : Arr w.drew p zs := h.below ((Still.drew w).below _) (Nat.le_refl _)
    exact ⟨rfl, hA.set hj1 (by rw [← hN]; exact hnb), grown_trans (grown_st8 (Still.drew _)) (grown_trans (grown_set8 _ p (x / 4) _) (grown_st8 (Still.drew _)))⟩
  rw [hN] at hcl hnb ⊢
  rw [hS] at hcl hs hB ⊢
  clear hN
  generalize zs.getD (x / 4) 0 = c at *
  generalize x / 4 = j at *
  rcases (show x % 4 = 0 ∨ x % 4 = 1 ∨ x % 4 = 2 ∨ x % 4 = 3 by omega) with hm | hm | hm | hm
  · rw [hm] at hcl hS
    exact (take_0 hx hj (by omega) hc (h.frozen _) hb.1 hb.2 (by rw [and3]; simpa [bitsAt] using hS) hB.1 (by omega) (by simpa [sh4] using hcl)).mono H
  · rw [hm] at hcl hS
    exact (take_1 hx hj (by omega) hc (h.frozen _) hb.1 hb.2 (by rw [and3]; simpa [bitsAt] using hS) hB.1 (by omega) (by simpa [sh4] using hcl)).mono H
  · rw [hm] at hcl hS
    exact (take_2 hx hj (by omega) hc (h.frozen _) hb.1 hb.2 (by rw [and3]; simpa [bitsAt] using hS) hB.1 (by omega) (by simpa [sh4] using hcl)).mono H
  · rw [hm] at hcl hS
    exact (take_3 hx hj (by omega) hc (h.frozen _) hb.1 hb.2 (by rw [and3]; simpa [bitsAt] using hS) hB.1 (by omega) (by simpa [sh4] using hcl)).mono H

theorem take_is3 {w : World} {p x : Nat} {zs : List Int} (h : Arr w p zs) (hx : x ≤ 400) (hs : bitsAt (zs.getD (x / 4) 0) (x % 4) = 3) :
    Calls Try.prog 71 #[.pointer (some ⟨p, 0, none⟩), .int .i64 x] w fun e w' => e = .returned (.int .i64 0) ∧ Still w w' := by
  have hj : (x : Int) / 4 = ((x / 4 : Nat) : Int) := by omega
  have hj1 : x / 4 < 101 := by omega
  have hb := h.bd (x / 4)
  have hc := h.cell hj1
  have H : ∀ e w', e = Ending.returned (.int .i64 0) ∧ w' = w.drew → e = Ending.returned (.int .i64 0) ∧ Still w w' := by
    rintro e w' ⟨rfl, rfl⟩
    exact ⟨rfl, Still.drew _⟩
  generalize zs.getD (x / 4) 0 = c at *
  generalize x / 4 = j at *
  rcases (show x % 4 = 0 ∨ x % 4 = 1 ∨ x % 4 = 2 ∨ x % 4 = 3 by omega) with hm | hm | hm | hm
  · rw [hm] at hs
    exact (take3_0 hx hj (by omega) hc hb.1 hb.2 (by rw [and3]; simpa [bitsAt] using hs)).mono H
  · rw [hm] at hs
    exact (take3_1 hx hj (by omega) hc hb.1 hb.2 (by rw [and3]; simpa [bitsAt] using hs)).mono H
  · rw [hm] at hs
    exact (take3_2 hx hj (by omega) hc hb.1 hb.2 (by rw [and3]; simpa [bitsAt] using hs)).mono H
  · rw [hm] at hs
    exact (take3_3 hx hj (by omega) hc hb.1 hb.2 (by rw [and3]; simpa [bitsAt] using hs)).mono H
end Go.Proofs.Ytioefplkadpfnaa
