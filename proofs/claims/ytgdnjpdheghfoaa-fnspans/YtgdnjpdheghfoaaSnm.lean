/- The mathematics of FnSpans: how strings of bytes stand, and when two keys are the same. No statement of its own; no conditions. -/
import Derived.Test.YtgdnjpdheghfoaaSo
import Derived.Test.YtgdnjpdheghfoaaIsp
namespace Go.Proofs.Ytgdnjpdheghfoaa
open Go.RowKit

theorem txt_anti : ∀ (zs ys : List Int), txt ys zs = - txt zs ys
  | [], [] => rfl
  | [], _ :: _ => rfl
  | _ :: _, [] => rfl
  | x :: xs, y :: ys => by
    have ih := txt_anti xs ys
    rw [txt, txt]
    by_cases h1 : x < y
    · rw [if_pos h1, if_neg (by omega), if_pos h1]; omega
    · by_cases h2 : y < x
      · rw [if_pos h2, if_neg h1, if_pos h2]
      · rw [if_neg h2, if_neg h1, if_neg h1, if_neg h2, ih]

theorem leq_txt {zs ys : List Int} (h : inB zs) (h' : inB ys) : (Op.bytesLess (str zs).toList (str ys).toList || (str zs).toList == (str ys).toList) = decide (txt zs ys ≤ 0) := by
  rw [str_list, str_list, less_txt zs ys h h', eq_txt zs ys h h']
  rcases txt_range zs ys with e | e | e <;> rw [e] <;> rfl

/-- Floats that are no minus zero: the same rank, the same bits. -/
theorem frank_eq (f f' : Nat) (hf : f < 18446744073709551616) (hf' : f' < 18446744073709551616) (z : f ≠ 9223372036854775808) (z' : f' ≠ 9223372036854775808) : frank f = frank f' ↔ fbits f = fbits f' := by
  unfold frank fbits
  cases n : isN f with
  | true =>
    cases n' : isN f' with
    | true => simp
    | false =>
      have q := (isN_not f').1 n'
      simp only [if_true, if_false, Bool.false_eq_true]
      constructor
      · intro e; split at e <;> (try split at e) <;> omega
      · intro e; omega
  | false =>
    have p := (isN_not f).1 n
    cases n' : isN f' with
    | true =>
      simp only [if_true, if_false, Bool.false_eq_true]
      constructor
      · intro e; split at e <;> (try split at e) <;> omega
      · intro e; omega
    | false =>
      have q := (isN_not f').1 n'
      simp only [if_false, Bool.false_eq_true]
      constructor
      · intro e; split at e <;> (try split at e) <;> (try split at e) <;> (try split at e) <;> omega
      · intro e; rw [e]

theorem cmp3_zero (x y : Nat) : cmp3 x y = 0 ↔ x = y := by
  unfold cmp3
  by_cases h1 : x < y
  · rw [if_pos h1]; omega
  · rw [if_neg h1]
    by_cases h2 : y < x
    · rw [if_pos h2]; omega
    · rw [if_neg h2]; omega

theorem cmpI_zero (K N K' N' : Int) (f f' n n' : Nat) (zs zs' : List Int) (h : okK K N f n = true) (h' : okK K' N' f' n' = true) (hf : f < 18446744073709551616) (hf' : f' < 18446744073709551616) :
    cmpI K N f n zs K' N' f' n' zs' = 0 ↔ (K = K' ∧ N = N' ∧ fbits f = fbits f' ∧ zs = zs') := by
  have o := okK_I h
  have o' := okK_I h'
  rw [cmpI, if_neg (by rw [o.1, o'.1]; simp), ← frank_eq f f' hf hf' o.2.2 o'.2.2, ← txt_zero zs zs', ← cmp3_zero (frank f) (frank f')]
  by_cases hk : K = K'
  · rw [if_neg (fun e => e hk)]
    by_cases hn : N = N'
    · rw [if_neg (fun e => e hn)]
      by_cases hc : cmp3 (frank f) (frank f') = 0
      · rw [if_neg (fun e => e hc)]; simp [hk, hn, hc]
      · rw [if_pos hc]; simp [hc]
    · rw [if_pos hn]; simp only [hn, false_and, and_false, iff_false]; split <;> omega
  · rw [if_pos hk]; simp only [hk, false_and, iff_false]; split <;> omega

/-- A span of one: whether it holds the other. -/
theorem inSp_one (K N K' N' : Int) (f f' n n' : Nat) (zs zs' : List Int) (h : okK K N f n = true) (h' : okK K' N' f' n' = true) (hl : zs.length = n) (hl' : zs'.length = n')
    (hN0 : -9223372036854775808 ≤ N) (hN1 : N ≤ 9223372036854775807) (hN0' : -9223372036854775808 ≤ N') (hN1' : N' ≤ 9223372036854775807) (hf : f < 18446744073709551616) (hf' : f' < 18446744073709551616) :
    inSp K N f n zs K N f n zs K' N' f' n' zs' = decide (K = K' ∧ N = N' ∧ fbits f = fbits f' ∧ zs = zs') := by
  have e1 := keyB_cmp K N K' N' f f' n n' zs zs' h h' hl hl' hN0 hN1 hN0' hN1' hf hf'
  have e2 := keyB_cmp K' N' K N f' f n' n zs' zs h' h hl' hl hN0' hN1' hN0 hN1 hf' hf
  have z := cmpI_zero K N K' N' f f' n n' zs zs' h h' hf hf'
  rw [txt_anti, e1] at e2
  rw [inSp, h, h', ← e2]
  simp only [Bool.and_self, Bool.true_and]
  rw [← Bool.decide_and]
  exact decide_eq_decide.2 ⟨fun q => z.1 (by omega), fun q => by have := z.2 q; omega⟩
theorem inSp_self (K N : Int) (f n : Nat) (zs : List Int) (h : okK K N f n = true) (hl : zs.length = n)
    (hN0 : -9223372036854775808 ≤ N) (hN1 : N ≤ 9223372036854775807) (hf : f < 18446744073709551616) :
    inSp K N f n zs K N f n zs K N f n zs = true := by
  rw [inSp_one K N K N f f n n zs zs h h hl hl hN0 hN1 hN0 hN1 hf hf]; simp
/-- A span's word: the keys' bytes tell it. -/
theorem inSp_keys (K1 N1 K2 N2 K3 N3 : Int) (f1 f2 f3 n1 n2 n3 : Nat) (z1 z2 z3 : List Int) (h1 : okK K1 N1 f1 n1 = true) (h2 : okK K2 N2 f2 n2 = true) (h3 : okK K3 N3 f3 n3 = true) {T13 T32 : Int} (e1 : T13 = cmpI K1 N1 f1 n1 z1 K3 N3 f3 n3 z3) (e2 : T32 = cmpI K3 N3 f3 n3 z3 K2 N2 f2 n2 z2) :
    inSp K1 N1 f1 n1 z1 K2 N2 f2 n2 z2 K3 N3 f3 n3 z3 = (decide (T13 ≤ 0) && decide (T32 ≤ 0)) := by
  rw [inSp, h1, h2, h3, e1, e2]; rfl
end Go.Proofs.Ytgdnjpdheghfoaa
