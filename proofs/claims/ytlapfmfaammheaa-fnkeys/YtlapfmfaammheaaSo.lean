/- Keys' bytes, compared as texts, stand as the keys do. -/
import Derived.Test.YtlapfmfaammheaaKdr
import Derived.Test.YtlapfmfaammheaaSt
namespace Go.Proofs.Ytlapfmfaammheaa
open Go.RowKit

/-- What bytes are worth, high first. -/
def bv : List Int → Nat
  | [] => 0
  | a :: ts => a.toNat * 256 ^ ts.length + bv ts
theorem bv_lt : ∀ (zs : List Int), inB zs → bv zs < 256 ^ zs.length
  | [], _ => by simp [bv]
  | a :: ts, h => by
    have ih := bv_lt ts h.tail
    have ha := h.head
    have h1 : a.toNat ≤ 255 := by omega
    have h2 : a.toNat * 256 ^ ts.length ≤ 255 * 256 ^ ts.length := Nat.mul_le_mul_right _ h1
    rw [bv, List.length_cons, Nat.pow_succ]
    omega
theorem txt_bv : ∀ (zs ys : List Int), zs.length = ys.length → inB zs → inB ys → txt zs ys = if bv zs < bv ys then -1 else if bv ys < bv zs then 1 else 0
  | [], [], _, _, _ => by simp [bv, txt]
  | [], _ :: _, h, _, _ => by simp at h
  | _ :: _, [], h, _, _ => by simp at h
  | a :: zs, b :: ys, h, hz, hy => by
    have hl : zs.length = ys.length := by simpa using h
    have ih := txt_bv zs ys hl hz.tail hy.tail
    have l1 := bv_lt zs hz.tail
    have l2 := bv_lt ys hy.tail
    have ha := hz.head
    have hb := hy.head
    rw [txt, bv, bv, hl]
    rw [hl] at l1
    generalize 256 ^ ys.length = P at *
    by_cases h1 : a < b
    · have h2 : (a.toNat + 1) * P ≤ b.toNat * P := Nat.mul_le_mul_right _ (by omega)
      rw [Nat.add_mul] at h2
      rw [if_pos h1, if_pos (by omega)]
    · rw [if_neg h1]
      by_cases h2 : b < a
      · have h3 : (b.toNat + 1) * P ≤ a.toNat * P := Nat.mul_le_mul_right _ (by omega)
        rw [Nat.add_mul] at h3
        rw [if_pos h2, if_neg (by omega), if_pos (by omega)]
      · obtain rfl : a = b := by omega
        rw [if_neg h2, ih]
        by_cases c1 : bv zs < bv ys
        · rw [if_pos c1, if_pos (show a.toNat * P + bv zs < a.toNat * P + bv ys by omega)]
        · by_cases c2 : bv ys < bv zs
          · rw [if_neg c1, if_pos c2, if_neg (show ¬ a.toNat * P + bv zs < a.toNat * P + bv ys by omega), if_pos (show a.toNat * P + bv ys < a.toNat * P + bv zs by omega)]
          · rw [if_neg c1, if_neg c2, if_neg (show ¬ a.toNat * P + bv zs < a.toNat * P + bv ys by omega), if_neg (show ¬ a.toNat * P + bv ys < a.toNat * P + bv zs by omega)]
theorem bv_hi8 (x : Nat) (hx : x < 18446744073709551616) : bv (hi8 x 8) = x := by
  have hr : List.range 8 = [0, 1, 2, 3, 4, 5, 6, 7] := by decide
  rw [hi8, hr]
  simp only [List.map_cons, List.map_nil, hb, bv, List.length_cons, List.length_nil, Int.toNat_natCast]
  simp only [show 8 * (7 - 0) = 56 from rfl, show 8 * (7 - 1) = 48 from rfl, show 8 * (7 - 2) = 40 from rfl, show 8 * (7 - 3) = 32 from rfl, show 8 * (7 - 4) = 24 from rfl, show 8 * (7 - 5) = 16 from rfl, show 8 * (7 - 6) = 8 from rfl, show 8 * (7 - 7) = 0 from rfl]
  omega
theorem txt_hi8 (x y : Nat) (hx : x < 18446744073709551616) (hy : y < 18446744073709551616) : txt (hi8 x 8) (hi8 y 8) = if x < y then -1 else if y < x then 1 else 0 := by
  rw [txt_bv _ _ (by rw [hi8_length, hi8_length]) (hi8_bd x 8) (hi8_bd y 8), bv_hi8 x hx, bv_hi8 y hy]

theorem txt_cons (k : Int) (a b : List Int) : txt (k :: a) (k :: b) = txt a b := by
  rw [txt, if_neg (by omega), if_neg (by omega)]
theorem keyB_head {K N : Int} {f n : Nat} {zs : List Int} (h : okK K N f n = true) : ∃ ts, keyB K N f n zs = K :: ts := by
  rw [keyB, if_pos h, bytesI]; exact ⟨_, rfl⟩
theorem kB1 {N : Int} {f n : Nat} {zs : List Int} (h : okK 1 N f n = true) : keyB 1 N f n zs = 1 :: hi8 (N + 9223372036854775808).toNat 8 := by
  rw [keyB, if_pos h, bytesI, if_pos rfl]; rfl
theorem kB2 {N : Int} {f n : Nat} {zs : List Int} (h : okK 2 N f n = true) : keyB 2 N f n zs = 2 :: hi8 (frank f) 8 := by
  rw [keyB, if_pos h, bytesI, if_neg (by decide), if_pos rfl]; rfl
theorem kB3 {N : Int} {f n : Nat} {zs : List Int} (h : okK 3 N f n = true) : keyB 3 N f n zs = 3 :: zs := by
  rw [keyB, if_pos h, bytesI, if_neg (by decide), if_neg (by decide)]; rfl
theorem cmp_nil (x y : Nat) : (if cmp3 x y ≠ 0 then cmp3 x y else txt [] []) = if x < y then -1 else if y < x then 1 else 0 := by
  unfold cmp3
  by_cases h1 : x < y
  · simp [h1]
  · by_cases h2 : y < x
    · simp [h1, h2]
    · simp [h1, h2, txt]

theorem keyB_cmp (K N K' N' : Int) (f f' n n' : Nat) (zs zs' : List Int) (h : okK K N f n = true) (h' : okK K' N' f' n' = true) (hl : zs.length = n) (hl' : zs'.length = n')
    (hN0 : -9223372036854775808 ≤ N) (hN1 : N ≤ 9223372036854775807) (hN0' : -9223372036854775808 ≤ N') (hN1' : N' ≤ 9223372036854775807) (hf : f < 18446744073709551616) (hf' : f' < 18446744073709551616) :
    txt (keyB K N f n zs) (keyB K' N' f' n' zs') = cmpI K N f n zs K' N' f' n' zs' := by
  have o := okK_I h
  have o' := okK_I h'
  have c := of_decide_eq_true o.1
  have c' := of_decide_eq_true o'.1
  rw [cmpI, if_neg (by rw [o.1, o'.1]; simp)]
  by_cases hk : K = K'
  · subst hk
    rw [if_neg (show ¬ K ≠ K from fun e => e rfl)]
    have hK : K = 1 ∨ K = 2 ∨ K = 3 := by omega
    rcases hK with rfl | rfl | rfl
    · obtain rfl : f = 0 := by omega
      obtain rfl : f' = 0 := by omega
      obtain rfl : zs = [] := List.eq_nil_of_length_eq_zero (by omega)
      obtain rfl : zs' = [] := List.eq_nil_of_length_eq_zero (by omega)
      rw [kB1 h, kB1 h', txt_cons, txt_hi8 _ _ (by omega) (by omega), cmp_nil]
      by_cases h1 : N = N'
      · subst h1
        rw [if_neg (show ¬ N ≠ N from fun e => e rfl), if_neg (by omega), if_neg (by omega), if_neg (by omega), if_neg (by omega)]
      · rw [if_pos h1]
        by_cases h2 : N < N'
        · rw [if_pos (by omega), if_pos h2]
        · rw [if_neg (by omega), if_pos (by omega), if_neg h2]
    · obtain rfl : N = 0 := by omega
      obtain rfl : N' = 0 := by omega
      obtain rfl : zs = [] := List.eq_nil_of_length_eq_zero (by omega)
      obtain rfl : zs' = [] := List.eq_nil_of_length_eq_zero (by omega)
      rw [kB2 h, kB2 h', txt_cons, txt_hi8 _ _ (frank_lt f hf) (frank_lt f' hf'), cmp_nil, if_neg (show ¬ (0 : Int) ≠ 0 from fun e => e rfl)]
    · obtain rfl : N = 0 := by omega
      obtain rfl : N' = 0 := by omega
      obtain rfl : f = 0 := by omega
      obtain rfl : f' = 0 := by omega
      rw [kB3 h, kB3 h', txt_cons, if_neg (show ¬ (0 : Int) ≠ 0 from fun e => e rfl), show cmp3 (frank 0) (frank 0) = 0 by decide, if_neg (show ¬ (0 : Int) ≠ 0 from fun e => e rfl)]
  · obtain ⟨ts, e1⟩ := keyB_head (zs := zs) h
    obtain ⟨ts', e2⟩ := keyB_head (zs := zs') h'
    rw [e1, e2, if_pos hk, txt]
    by_cases h1 : K < K'
    · rw [if_pos h1, if_pos h1]
    · rw [if_neg h1, if_pos (by omega), if_neg h1]
end Go.Proofs.Ytlapfmfaammheaa
