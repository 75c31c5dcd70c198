/- Tuples, plain: what is right, their bytes, what is read of bytes. No program, no conditions. -/
import Derived.Test.YtebhipicfgnajaaMgb
import Derived.Test.YtebhipicfgnajaaNum
import Derived.Test.YtebhipicfgnajaaVal
namespace Go.Proofs.Ytebhipicfgnajaa
open Go.RowKit
set_option maxRecDepth 100000

/-- What is TupleOk. -/
def okT (A B K N : Int) (f n : Nat) (L M : Int) (h m : Nat) : Bool := decide (1 ≤ A ∧ A ≤ 400 ∧ 0 ≤ B ∧ B ≤ 400) && (okK K N f n && (okI L M h m && decide (L ≠ 0)))
theorem okT_iff {A B K N : Int} {f n : Nat} {L M : Int} {h m : Nat} : okT A B K N f n L M h m = true ↔ (1 ≤ A ∧ A ≤ 400 ∧ 0 ≤ B ∧ B ≤ 400) ∧ okK K N f n = true ∧ okI L M h m = true ∧ L ≠ 0 := by
  unfold okT
  rw [Bool.and_eq_true, Bool.and_eq_true, Bool.and_eq_true, decide_eq_true_iff, decide_eq_true_iff]

/-- A tuple's bytes, of its head and its key's and value's bytes. -/
def layT (A B : Int) (ks vs : List Int) : List Int := putL A 4 ++ (putL B 4 ++ ([(ks.length : Int)] ++ (ks ++ ([(vs.length : Int)] ++ vs))))
/-- A tuple's bytes. -/
def bytesT (A B K N : Int) (f n : Nat) (zs : List Int) (L M : Int) (h m : Nat) (ys : List Int) : List Int := if okT A B K N f n L M h m = true then layT A B (keyB K N f n zs) (valB L M h m ys) else []

theorem okI_lim {K N : Int} {f n : Nat} (h : okI K N f n = true) : (0 ≤ K ∧ K ≤ 3) ∧ n ≤ 40 := by
  have := of_decide_eq_true h
  omega
theorem bytesI_len (K N : Int) (B : Nat) (zs : List Int) (h : zs.length ≤ 40) : 1 ≤ (bytesI K N B zs).length ∧ (bytesI K N B zs).length ≤ 41 := by
  unfold bytesI
  split
  · simp [hi8_length]
  · split
    · simp [hi8_length]
    · simp; omega
theorem keyB_len {K N : Int} {f n : Nat} {zs : List Int} (h : zs.length = n) : (keyB K N f n zs).length ≤ 41 := by
  unfold keyB
  split
  · rename_i hk
    unfold okK at hk
    rw [Bool.and_eq_true] at hk
    exact (bytesI_len _ _ _ _ (by have := okI_lim hk.1; omega)).2
  · simp
theorem valB_len {K N : Int} {f n : Nat} {zs : List Int} (h : zs.length = n) : (valB K N f n zs).length ≤ 41 := by
  unfold valB
  split
  · rename_i hk
    exact (bytesI_len _ _ _ _ (by have := okI_lim hk.1; omega)).2
  · simp
end Go.Proofs.Ytebhipicfgnajaa
