/- Plain arithmetic: the sum of 32 bits, one bit at a time and by a table. No conditions. -/
import Derived.Test.YtplbejipkaionaaBase
import Derived.Laws.BitsAllLaws
namespace Go.Proofs.Ytplbejipkaionaa
open Go.RowKit

/-- One step of the sum: moved down by one bit, turned if a 1 fell out. -/
def st1 (x : Nat) : Nat := if x % 2 = 1 then x / 2 ^^^ 3988292384 else x / 2
/-- k steps. -/
def stN : Nat → Nat → Nat
  | 0, x => x
  | k + 1, x => st1 (stN k x)
theorem xor_lt32 (a b : Nat) (ha : a < 4294967296) (hb : b < 4294967296) : a ^^^ b < 4294967296 := Nat.xor_lt_two_pow (n := 32) ha hb
theorem st1_lt (x : Nat) (h : x < 4294967296) : st1 x < 4294967296 := by
  unfold st1; split
  · exact xor_lt32 _ _ (by omega) (by omega)
  · omega
theorem stN_lt (k x : Nat) (h : x < 4294967296) : stN k x < 4294967296 := by
  induction k with
  | zero => exact h
  | succ k ih => exact st1_lt _ ih
theorem xor_half (a b : Nat) : (a ^^^ b) / 2 = a / 2 ^^^ b / 2 := by
  have := Nat.shiftRight_xor_distrib (a := a) (b := b) (i := 1)
  simpa [Nat.shiftRight_eq_div_pow] using this
theorem xor_par (a b : Nat) : (a ^^^ b) % 2 = (a % 2 + b % 2) % 2 := by
  have h := @Nat.xor_mod_two_eq_one a b
  by_cases ha : a % 2 = 1 <;> by_cases hb : b % 2 = 1
  · have : ¬ (a ^^^ b) % 2 = 1 := fun e => (h.1 e) ⟨fun _ => hb, fun _ => ha⟩
    omega
  · have : (a ^^^ b) % 2 = 1 := h.2 (fun e => hb (e.1 ha))
    omega
  · have : (a ^^^ b) % 2 = 1 := h.2 (fun e => ha (e.2 hb))
    omega
  · have : ¬ (a ^^^ b) % 2 = 1 := fun e => (h.1 e) ⟨fun x => absurd x ha, fun x => absurd x hb⟩
    omega
theorem st1_xor (a b : Nat) : st1 (a ^^^ b) = st1 a ^^^ st1 b := by
  unfold st1
  rw [xor_half, xor_par]
  by_cases ha : a % 2 = 1 <;> by_cases hb : b % 2 = 1
  · rw [if_neg (by omega), if_pos ha, if_pos hb]
    rw [show a / 2 ^^^ 3988292384 ^^^ (b / 2 ^^^ 3988292384) = (a / 2 ^^^ b / 2) ^^^ (3988292384 ^^^ 3988292384) by ac_rfl]
    simp
  · rw [if_pos (by omega), if_pos ha, if_neg hb]; ac_rfl
  · rw [if_pos (by omega), if_neg ha, if_pos hb]; ac_rfl
  · rw [if_neg (by omega), if_neg ha, if_neg hb]
theorem stN_xor (k a b : Nat) : stN k (a ^^^ b) = stN k a ^^^ stN k b := by
  induction k with
  | zero => rfl
  | succ k ih => simp only [stN, ih, st1_xor]
theorem stN_high (y : Nat) : ∀ k, k ≤ 8 → stN k (y * 256) = y * 2 ^ (8 - k)
  | 0, _ => rfl
  | k + 1, h => by
    have ih := stN_high y k (by omega)
    rw [stN, ih, show 8 - k = (8 - (k + 1)) + 1 by omega, Nat.pow_succ]
    unfold st1
    rw [if_neg (by rw [← Nat.mul_assoc]; omega), ← Nat.mul_assoc]
    omega
theorem split256 (x : Nat) : x = (x / 256 * 256) ^^^ (x % 256) := by
  have h := Nat.shiftLeft_add_eq_or_of_lt (a := x / 256) (b := x % 256) (i := 8) (by omega)
  have e : x / 256 * 256 = (x / 256) <<< 8 := by rw [Nat.shiftLeft_eq]
  apply Nat.eq_of_testBit_eq
  intro i
  rw [Nat.testBit_xor, e]
  have hx : x = (x / 256) <<< 8 ||| x % 256 := by rw [← h, Nat.shiftLeft_eq]; omega
  have t1 : ((x / 256) <<< 8).testBit i = (decide (8 ≤ i) && (x / 256).testBit (i - 8)) := by rw [Nat.testBit_shiftLeft]
  have t2 : (x % 256).testBit i = (decide (i < 8) && x.testBit i) := by rw [show 256 = 2 ^ 8 by rfl, Nat.testBit_mod_two_pow]
  have t3 : x.testBit i = (((x / 256) <<< 8).testBit i || (x % 256).testBit i) := (congrArg (fun y => y.testBit i) hx).trans (by rw [Nat.testBit_or])
  rw [t3, t1, t2]
  by_cases h8 : 8 ≤ i
  · simp [h8, show ¬ i < 8 by omega]
  · simp [h8]
/-- The table's way and the bits' way are one. -/
theorem stN_table (x c : Nat) : stN 8 (x ^^^ c) = x / 256 ^^^ stN 8 (x % 256 ^^^ c) := by
  have e : x ^^^ c = (x / 256 * 256) ^^^ (x % 256 ^^^ c) := by rw [← Nat.xor_assoc, ← split256]
  rw [e, stN_xor, stN_high _ 8 (by omega)]; simp

/-- The sum behind one byte more. -/
def stp (x : Nat) (c : Int) : Nat := stN 8 (x ^^^ c.toNat)
/-- The sum behind a list of bytes. -/
def sumL (x : Nat) (l : List Int) : Nat := l.foldl stp x
theorem sumL_snoc (x : Nat) (l : List Int) (c : Int) : sumL x (l ++ [c]) = stp (sumL x l) c := by
  unfold sumL; rw [List.foldl_append, List.foldl_cons, List.foldl_nil]
theorem sumL_lt (l : List Int) (h : ∀ c ∈ l, c ≤ 255) : ∀ x, x < 4294967296 → sumL x l < 4294967296 := by
  induction l with
  | nil => intro x hx; exact hx
  | cons a r ih =>
    intro x hx
    unfold sumL
    rw [List.foldl_cons]
    exact ih (fun c hc => h c (by simp [hc])) _ (stN_lt _ _ (xor_lt32 _ _ hx (by have := h a (by simp); omega)))
/-- The sum behind the first k bytes. -/
def sumTo (zs : List Int) (k : Nat) : Nat := sumL 4294967295 (zs.take k)
theorem sumTo_zero (zs : List Int) : sumTo zs 0 = 4294967295 := by unfold sumTo sumL; rw [List.take_zero, List.foldl_nil]
theorem sumTo_succ (zs : List Int) (k : Nat) (h : k < zs.length) : sumTo zs (k + 1) = stp (sumTo zs k) (zs.getD k 0) := by
  unfold sumTo
  rw [List.take_add_one, List.getElem?_eq_getElem h, List.getD_eq_getElem?_getD, List.getElem?_eq_getElem h]
  exact sumL_snoc _ _ _
theorem sumTo_lt (zs : List Int) (hb : ∀ i, 0 ≤ zs.getD i 0 ∧ zs.getD i 0 ≤ 255) (k : Nat) : sumTo zs k < 4294967296 := by
  refine sumL_lt _ (fun c hc => ?_) _ (by omega)
  obtain ⟨i, hi, rfl⟩ := List.getElem_of_mem (List.mem_of_mem_take hc)
  have := (hb i).2
  rwa [List.getD_eq_getElem?_getD, List.getElem?_eq_getElem hi] at this
/-- What Crc answers. -/
def crcOf (zs : List Int) : Int := if 65536 < zs.length then -1 else ((sumTo zs zs.length ^^^ 4294967295 : Nat) : Int)
theorem crcOf_bd (zs : List Int) (hb : ∀ i, 0 ≤ zs.getD i 0 ∧ zs.getD i 0 ≤ 255) : -1 ≤ crcOf zs ∧ crcOf zs ≤ 4294967295 := by
  unfold crcOf; split
  · omega
  · have := xor_lt32 _ _ (sumTo_lt zs hb zs.length) (show 4294967295 < 4294967296 by omega); omega

theorem wrap_i64_in (n : Int) (h0 : 0 ≤ n) (h1 : n < 9223372036854775808) : IntKind.i64.wrap n = n := by
  rw [IntKind.wrap_i64]; omega
theorem i64_xor (a b : Nat) (ha : a < 4294967296) (hb : b < 4294967296) : bits .xor .i64 (a : Int) (b : Int) = ((a ^^^ b : Nat) : Int) := by
  have hx := xor_lt32 a b ha hb
  have h1 : (BitVec.ofInt 64 (a : Int)).toNat = a := by
    rw [BitVec.ofInt_natCast, BitVec.toNat_ofNat]; exact Nat.mod_eq_of_lt (by omega)
  have h2 : (BitVec.ofInt 64 (b : Int)).toNat = b := by
    rw [BitVec.ofInt_natCast, BitVec.toNat_ofNat]; exact Nat.mod_eq_of_lt (by omega)
  show IntKind.i64.wrap ((BitVec.ofInt 64 (a : Int) ^^^ BitVec.ofInt 64 (b : Int)).toNat : Int) = _
  rw [BitVec.toNat_xor, h1, h2, wrap_i64_in _ (by omega) (by omega)]
end Go.Proofs.Ytplbejipkaionaa
