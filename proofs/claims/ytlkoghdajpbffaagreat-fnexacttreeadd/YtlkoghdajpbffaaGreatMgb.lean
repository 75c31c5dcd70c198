/- Texts of this proof in one: Flo Flx Flv Fli. -/
import Derived.Test.YtlkoghdajpbffaaGreatMga
import Derived.Laws.FloatArith
import Derived.Test.YtlkoghdajpbffaaGreatChecked
import Derived.WalkLawsBesides
import Derived.Laws.BitsAllLaws
import Derived.Laws.Externs
import Derived.KernelRfl
/- Floats of 64 bits, by what they are worth: the number of least floats in each (its 'wval'), and what sums, differences, products and halves give where the result is exact. No statement of its own; no conditions. -/


namespace Go.Proofs.YtlkoghdajpbffaaGreat
open Ieee
def wval (r : Nat) : Nat := if r < 2 ^ 52 then r else (2 ^ 52 + r % 2 ^ 52) * 2 ^ (r / 2 ^ 52 - 1)
def rg (v : Nat) : Nat := (v.log2 - 52) * 2 ^ 52 + v / 2 ^ (v.log2 - 52)
theorem log2_mul_pow (m k : Nat) (h : 0 < m) : (m * 2 ^ k).log2 = m.log2 + k := by
 have hm : m ≠ 0 := by omega
 have h1 := Nat.log2_self_le hm
 have h2 := Nat.lt_log2_self (n := m)
 have hp : 0 < 2 ^ k := Nat.two_pow_pos k
 refine (Nat.log2_eq_iff (Nat.mul_ne_zero hm (by omega))).2 ⟨?_, ?_⟩
 · rw [Nat.pow_add]; exact Nat.mul_le_mul_right _ h1
 · rw [show m.log2 + k + 1 = (m.log2 + 1) + k by omega, Nat.pow_add]; exact Nat.mul_lt_mul_of_pos_right h2 hp
theorem cut_even (s : Bool) (q d : Nat) : Toward.even.cut s (q * 2 ^ d) d = q := by
 have hp : 0 < 2 ^ d := Nat.two_pow_pos d
 by_cases hq : q = 0
 · subst hq
   have : 0 < 1 <<< min d 2 := by rw [Nat.one_shiftLeft]; exact Nat.two_pow_pos _
   simp only [Toward.cut, Nat.zero_mul, Nat.log2_zero, Nat.zero_add, Nat.zero_div, Nat.zero_mod, Nat.mul_zero]
   have h1 : ¬ (1 <<< min d 2 < 0) := by omega
   have h2 : ((1 <<< min d 2) == 0) = false := beq_eq_false_iff_ne.2 (by omega)
   simp [h2]
 · have hl := log2_mul_pow q d (by omega)
   have hm : min d ((q * 2 ^ d).log2 + 2) = d := by omega
   simp only [Toward.cut, hm, Nat.one_shiftLeft]
   rw [Nat.mul_div_cancel _ hp, Nat.mul_mod_left]
   have h2 : ((2 ^ d) == 2 * 0) = false := beq_eq_false_iff_ne.2 (by omega)
   simp [h2]
theorem cut_zero (s : Bool) (n d : Nat) : Toward.zero.cut s n d = n / 2 ^ d := by
 simp only [Toward.cut, Nat.one_shiftLeft, Bool.toNat_false, Nat.add_zero]
 by_cases h : d ≤ n.log2 + 2
 · rw [Nat.min_eq_left h]
 · have h1 : n < 2 ^ (n.log2 + 1) := Nat.lt_log2_self
   have h2 : 2 ^ (n.log2 + 1) ≤ 2 ^ (n.log2 + 2) := Nat.pow_le_pow_right (by omega) (by omega)
   have h3 : 2 ^ (n.log2 + 2) ≤ 2 ^ d := Nat.pow_le_pow_right (by omega) (by omega)
   rw [Nat.min_eq_right (by omega), Nat.div_eq_of_lt (by omega), Nat.div_eq_of_lt (by omega)]
theorem lp : double.leastPlace = -1074 := by decide
theorem fb : double.fractionBits = 52 := rfl
theorem bin : double.binade = 2 ^ 52 := rfl
theorem infR : double.infRung = 2047 * 2 ^ 52 := by decide
theorem sw : double.signWeight = 2 ^ 63 := rfl
theorem rg_zero : rg 0 = 0 := by decide
theorem nearest_rg (s : Bool) (m : Nat) (p : Int) (v : Nat) (h : m * 2 ^ (p + 1074).toNat = v * 2 ^ (-1074 - p).toNat) (hd : 2 ^ (v.log2 - 52) ∣ v) :
 double.nearest s m p = double.word s (min (rg v) (2047 * 2 ^ 52)) := by
 by_cases hm : m = 0
 · subst hm
   have hp : 0 < 2 ^ (-1074 - p).toNat := Nat.two_pow_pos _
   have hv : v = 0 := by
    rw [Nat.zero_mul] at h
    rcases Nat.mul_eq_zero.1 h.symm with h | h
    · exact h
    · omega
   subst hv
   rw [rg_zero]
   simp [Format.nearest]
 · have hv : 0 < v := by
    rcases Nat.eq_zero_or_pos v with rfl | h0
    · rw [Nat.zero_mul] at h
      rcases Nat.mul_eq_zero.1 h with h | h
      · exact absurd h hm
      · have := Nat.two_pow_pos (p + 1074).toNat; omega
    · exact h0
   have hl : m.log2 + (p + 1074).toNat = v.log2 + (-1074 - p).toNat := by
    rw [← log2_mul_pow m _ (by omega), ← log2_mul_pow v _ hv, h]
   obtain ⟨q, hq⟩ := hd
   have hrg : rg v = (v.log2 - 52) * 2 ^ 52 + q := by
    unfold rg
    have hp : 0 < 2 ^ (v.log2 - 52) := Nat.two_pow_pos _
    have : v / 2 ^ (v.log2 - 52) = q := by
     rw [Nat.div_eq_iff_eq_mul_left hp ⟨q, hq⟩, Nat.mul_comm]
     exact hq
    rw [this]
   have hK : max (p + (m.log2 : Int) - (52 : Nat)) (-1074) = ((v.log2 - 52 : Nat) : Int) - 1074 := by omega
   rw [hrg]
   have hkept : Toward.even.cut s (m <<< (p - (((v.log2 - 52 : Nat) : Int) - 1074)).toNat) ((((v.log2 - 52 : Nat) : Int) - 1074) - p).toNat = q := by
    clear hK hrg hl
    generalize v.log2 - 52 = K at hq
    rw [hq] at h
    by_cases ht : (K : Int) ≤ p + 1074
    · obtain ⟨t, ht'⟩ : ∃ t : Nat, p + 1074 = K + t := ⟨(p + 1074 - K).toNat, by omega⟩
      have e1 : (p - ((K : Int) - 1074)).toNat = t := by omega
      have e2 : (((K : Int) - 1074) - p).toNat = 0 := by omega
      have e3 : (p + 1074).toNat = K + t := by omega
      have e4 : (-1074 - p).toNat = 0 := by omega
      rw [e3, e4, Nat.pow_zero, Nat.mul_one, Nat.pow_add] at h
      rw [e1, e2, Nat.shiftLeft_eq]
      have hp : 0 < 2 ^ K := Nat.two_pow_pos _
      have : m * 2 ^ t = q := by
       apply Nat.eq_of_mul_eq_mul_left hp
       rw [← h, ← Nat.mul_assoc, Nat.mul_comm (2 ^ K) m, Nat.mul_assoc]
      rw [this]
      have := cut_even s q 0
      rwa [Nat.pow_zero, Nat.mul_one] at this
    · obtain ⟨t, ht'⟩ : ∃ t : Nat, (K : Int) = p + 1074 + t := ⟨(K - (p + 1074)).toNat, by omega⟩
      have e1 : (p - ((K : Int) - 1074)).toNat = 0 := by omega
      have e2 : (((K : Int) - 1074) - p).toNat = t := by omega
      rw [e1, e2, Nat.shiftLeft_eq, Nat.pow_zero, Nat.mul_one]
      have : m = q * 2 ^ t := by
       by_cases hA : 0 ≤ p + 1074
       · obtain ⟨A, hA'⟩ : ∃ A : Nat, p + 1074 = A := ⟨(p + 1074).toNat, by omega⟩
         have e3 : (p + 1074).toNat = A := by omega
         have e4 : (-1074 - p).toNat = 0 := by omega
         have e5 : K = A + t := by omega
         rw [e3, e4, Nat.pow_zero, Nat.mul_one, e5, Nat.pow_add] at h
         have hp : 0 < 2 ^ A := Nat.two_pow_pos _
         apply Nat.eq_of_mul_eq_mul_right hp
         rw [h, Nat.mul_comm q, Nat.mul_assoc, Nat.mul_assoc, Nat.mul_comm, Nat.mul_assoc]
       · obtain ⟨A, hA'⟩ : ∃ A : Nat, p + 1074 = -A := ⟨(-(p + 1074)).toNat, by omega⟩
         have e3 : (p + 1074).toNat = 0 := by omega
         have e4 : (-1074 - p).toNat = A := by omega
         have e5 : t = K + A := by omega
         rw [e3, e4, Nat.pow_zero, Nat.mul_one] at h
         rw [h, e5, Nat.pow_add, Nat.mul_comm (2 ^ K) q, Nat.mul_assoc]
      rw [this, cut_even]
   simp only [Format.nearest, hm, if_false, lp, fb, bin, infR]
   rw [hK, hkept]
   have e : ((((v.log2 - 52 : Nat) : Int) - 1074) - -1074).toNat = v.log2 - 52 := by omega
   rw [e]
def Rep (v : Nat) : Prop := rg v < 2047 * 2 ^ 52 ∧ wval (rg v) = v ∧ 2 ^ (v.log2 - 52) ∣ v
theorem rep_of (c j : Nat) (hc : c < 2 ^ 53) (hv : j ≤ 2045) : Rep (c * 2 ^ j) := by
 by_cases h0 : c = 0
 · subst h0
   rw [Nat.zero_mul]
   refine ⟨by rw [rg_zero]; decide, by rw [rg_zero]; decide, ⟨0, by simp⟩⟩
 · have hl := log2_mul_pow c j (by omega)
   have hcl : c.log2 < 53 := (Nat.log2_lt h0).2 hc
   have hdvd : 2 ^ ((c * 2 ^ j).log2 - 52) ∣ c * 2 ^ j := Nat.dvd_trans (Nat.pow_dvd_pow 2 (by omega)) ⟨c, Nat.mul_comm _ _⟩
   have hpos : c * 2 ^ j ≠ 0 := Nat.mul_ne_zero h0 (by have := Nat.two_pow_pos j; omega)
   generalize c * 2 ^ j = v at *
   have hL := Nat.log2_self_le hpos
   have hU := Nat.lt_log2_self (n := v)
   have hLv : v.log2 < 2098 := by omega
   unfold Rep rg
   by_cases hs : v.log2 ≤ 52
   · have e : v.log2 - 52 = 0 := by omega
     rw [e] at hdvd ⊢
     rw [Nat.pow_zero, Nat.zero_mul, Nat.zero_add, Nat.div_one]
     have h53 : v < 2 ^ 53 := Nat.lt_of_lt_of_le hU (Nat.pow_le_pow_right (by omega) (by omega))
     refine ⟨by omega, ?_, ⟨v, by omega⟩⟩
     unfold wval
     split
     · rfl
     · have : v / 2 ^ 52 = 1 := by omega
       rw [this]
       omega
   · obtain ⟨K, hK⟩ : ∃ K, v.log2 = 52 + K := ⟨v.log2 - 52, by omega⟩
     have e : v.log2 - 52 = K := by omega
     rw [e] at hdvd ⊢
     rw [hK] at hL hU
     obtain ⟨q, rfl⟩ := hdvd
     have hp : 0 < 2 ^ K := Nat.two_pow_pos _
     rw [Nat.mul_div_cancel_left _ hp]
     have hq1 : 2 ^ 52 ≤ q := by
      rw [Nat.pow_add, Nat.mul_comm] at hL
      exact Nat.le_of_mul_le_mul_left hL hp
     have hq2 : q < 2 ^ 53 := by
      rw [show 52 + K + 1 = K + 53 by omega, Nat.pow_add] at hU
      exact Nat.lt_of_mul_lt_mul_left hU
     have hKl : K ≤ 2045 := by omega
     refine ⟨by omega, ?_, ⟨q, rfl⟩⟩
     unfold wval
     have h1 : ¬ (K * 2 ^ 52 + q < 2 ^ 52) := by omega
     have h2 : (K * 2 ^ 52 + q) / 2 ^ 52 = K + 1 := by omega
     have h3 : (K * 2 ^ 52 + q) % 2 ^ 52 = q - 2 ^ 52 := by omega
     have h4 : 2 ^ 52 + (q - 2 ^ 52) = q := by omega
     rw [if_neg h1, h2, h3, h4, Nat.add_sub_cancel, Nat.mul_comm]
theorem wval_lt (a b : Nat) (h : a < b) : wval a < wval b := by
 unfold wval
 by_cases hb : b < 2 ^ 52
 · rw [if_pos hb, if_pos (by omega)]
   exact h
 · rw [if_neg hb]
   have hm : a % 2 ^ 52 < 2 ^ 52 := Nat.mod_lt _ (by omega)
   by_cases ha : a < 2 ^ 52
   · rw [if_pos ha]
     have hp : 0 < 2 ^ (b / 2 ^ 52 - 1) := Nat.two_pow_pos _
     have : (2 ^ 52 + b % 2 ^ 52) * 1 ≤ (2 ^ 52 + b % 2 ^ 52) * 2 ^ (b / 2 ^ 52 - 1) := Nat.mul_le_mul_left _ hp
     omega
   · rw [if_neg ha]
     have hab : a / 2 ^ 52 ≤ b / 2 ^ 52 := Nat.div_le_div_right (by omega)
     by_cases he : a / 2 ^ 52 = b / 2 ^ 52
     · rw [he]
       exact Nat.mul_lt_mul_of_pos_right (by omega) (Nat.two_pow_pos _)
     · obtain ⟨t, ht⟩ : ∃ t, b / 2 ^ 52 - 1 = (a / 2 ^ 52 - 1) + 1 + t := ⟨b / 2 ^ 52 - 1 - (a / 2 ^ 52 - 1) - 1, by omega⟩
       rw [ht, Nat.pow_add, Nat.pow_succ (n := 2) (m := a / 2 ^ 52 - 1)]
       have hp : 0 < 2 ^ (a / 2 ^ 52 - 1) := Nat.two_pow_pos _
       have ht' : 0 < 2 ^ t := Nat.two_pow_pos _
       generalize 2 ^ (a / 2 ^ 52 - 1) = P at *
       calc (2 ^ 52 + a % 2 ^ 52) * P < (2 ^ 52 * 2) * P := Nat.mul_lt_mul_of_pos_right (by omega) hp
        _ = 2 ^ 52 * (P * 2) := by rw [Nat.mul_assoc, Nat.mul_comm 2 P]
        _ ≤ 2 ^ 52 * (P * 2 * 2 ^ t) := Nat.mul_le_mul_left _ (Nat.le_mul_of_pos_right _ ht')
        _ ≤ (2 ^ 52 + b % 2 ^ 52) * (P * 2 * 2 ^ t) := Nat.mul_le_mul_right _ (by omega)
theorem wval_inj (a b : Nat) (h : wval a = wval b) : a = b := by
 rcases Nat.lt_trichotomy a b with h' | h' | h'
 · have := wval_lt a b h'; omega
 · exact h'
 · have := wval_lt b a h'; omega
theorem wval_form (r : Nat) (h : r < 2047 * 2 ^ 52) : ∃ c j, c < 2 ^ 53 ∧ wval r = c * 2 ^ j ∧ j ≤ 2045 := by
 unfold wval
 have hm : r % 2 ^ 52 < 2 ^ 52 := Nat.mod_lt _ (by omega)
 split
 · exact ⟨r, 0, by omega, by rw [Nat.pow_zero, Nat.mul_one], by omega⟩
 · exact ⟨_, _, by omega, rfl, by omega⟩
theorem rep_wval (r : Nat) (h : r < 2047 * 2 ^ 52) : Rep (wval r) := by
 obtain ⟨c, j, hc, he, hv⟩ := wval_form r h
 rw [he]
 exact rep_of c j hc hv
theorem rg_wval (r : Nat) (h : r < 2047 * 2 ^ 52) : rg (wval r) = r := wval_inj _ _ (rep_wval r h).2.1
theorem read_word (s : Bool) (r : Nat) (h : r < 2047 * 2 ^ 52) : ∃ m : Nat, ∃ k : Nat, double.read (double.word s r) = .number s m ((k : Int) - 1074) ∧ m * 2 ^ k = wval r ∧ m < 2 ^ 53 := by
 have h63 : r < 2 ^ 63 := by omega
 have hs : (double.word s r / double.signWeight % 2 == 1) = s := by
  unfold Format.word
  rw [sw]
  cases s
  · rw [if_neg (by simp)]
    have : r / 2 ^ 63 = 0 := by omega
    rw [this]; rfl
  · rw [if_pos rfl]
    have : (2 ^ 63 + r) / 2 ^ 63 % 2 = 1 := by omega
    rw [this]; rfl
 have hr : double.word s r % double.signWeight = r := by
  unfold Format.word
  rw [sw]
  cases s
  · rw [if_neg (by simp)]; omega
  · rw [if_pos rfl]; omega
 simp only [Format.read, hs, hr, bin, infR, lp]
 have hm : r % 2 ^ 52 < 2 ^ 52 := Nat.mod_lt _ (by omega)
 by_cases h1 : r < 2 ^ 52
 · rw [if_pos h1]
   refine ⟨r, 0, rfl, ?_, by omega⟩
   rw [wval, if_pos h1, Nat.pow_zero, Nat.mul_one]
 · rw [if_neg h1, if_pos h]
   refine ⟨2 ^ 52 + r % 2 ^ 52, r / 2 ^ 52 - 1, ?_, ?_, ?_⟩
   · congr 1
   · rw [wval, if_neg h1]
   · omega
theorem write_word (s : Bool) (m : Nat) (p : Int) (r : Nat) (hr : r < 2047 * 2 ^ 52) (h : m * 2 ^ (p + 1074).toNat = wval r * 2 ^ (-1074 - p).toNat) : double.write (.number s m p) = double.word s r := by
 have hR := rep_wval r hr
 have := nearest_rg s m p (wval r) h hR.2.2
 rw [rg_wval r hr, Nat.min_eq_left (by omega)] at this
 exact this
theorem shift (M V A B : Nat) (h : M * 2 ^ A = V * 2 ^ B) : M * 2 ^ ((A : Int) - B).toNat = V * 2 ^ ((B : Int) - A).toNat := by
 by_cases hAB : B ≤ A
 · obtain ⟨t, rfl⟩ : ∃ t, A = B + t := ⟨A - B, by omega⟩
   have e1 : (((B + t : Nat) : Int) - B).toNat = t := by omega
   have e2 : ((B : Int) - ((B + t : Nat) : Int)).toNat = 0 := by omega
   rw [e1, e2, Nat.pow_zero, Nat.mul_one]
   have hp : 0 < 2 ^ B := Nat.two_pow_pos _
   apply Nat.eq_of_mul_eq_mul_right hp
   rw [← h, Nat.pow_add, Nat.mul_assoc, Nat.mul_comm (2 ^ t)]
 · obtain ⟨t, rfl⟩ : ∃ t, B = A + t := ⟨B - A, by omega⟩
   have e1 : (((A + t : Nat) : Int) - A).toNat = t := by omega
   have e2 : ((A : Int) - ((A + t : Nat) : Int)).toNat = 0 := by omega
   rw [e1, e2, Nat.pow_zero, Nat.mul_one]
   have hp : 0 < 2 ^ A := Nat.two_pow_pos _
   apply Nat.eq_of_mul_eq_mul_right hp
   rw [h, Nat.pow_add, Nat.mul_assoc, Nat.mul_comm (2 ^ A)]
theorem write_by (s : Bool) (m : Nat) (p : Int) (r A B : Nat) (hr : r < 2047 * 2 ^ 52) (hp : p + 1074 = (A : Int) - B) (h : m * 2 ^ A = wval r * 2 ^ B) : double.write (.number s m p) = double.word s r := by
 refine write_word s m p r hr ?_
 rw [show (-1074 - p : Int) = (B : Int) - A by omega, hp]
 exact shift _ _ _ _ h
theorem mul_exact (s t : Bool) (a b c : Nat) (ha : a < 2047 * 2 ^ 52) (hb : b < 2047 * 2 ^ 52) (hc : c < 2047 * 2 ^ 52) (h : wval a * wval b = wval c * 2 ^ 1074) :
 double.mul (double.word s a) (double.word t b) = some (double.word (s ^^ t) c) := by
 obtain ⟨m, k, e1, v1, -⟩ := read_word s a ha
 obtain ⟨n, l, e2, v2, -⟩ := read_word t b hb
 rw [Format.mul, e1, e2]
 simp only [Datum.product, Option.map_some]
 rw [write_by (s ^^ t) _ _ c (k + l) 1074 hc (by omega)]
 rw [← h, ← v1, ← v2, Nat.pow_add, Nat.mul_assoc, Nat.mul_assoc, ← Nat.mul_assoc n, ← Nat.mul_assoc (2 ^ k), Nat.mul_comm (2 ^ k) n]
theorem shl_to (m k b : Nat) (h : b ≤ k) : m <<< (((k : Int) - 1074) - ((b : Int) - 1074)).toNat * 2 ^ b = m * 2 ^ k := by
 rw [show (((k : Int) - 1074) - ((b : Int) - 1074)).toNat = k - b by omega, Nat.shiftLeft_eq, Nat.mul_assoc, ← Nat.pow_add, Nat.sub_add_cancel h]
theorem min_place (k l : Nat) : min ((k : Int) - 1074) ((l : Int) - 1074) = ((min k l : Nat) : Int) - 1074 := by omega
theorem add_exact (a b c : Nat) (ha : a < 2047 * 2 ^ 52) (hb : b < 2047 * 2 ^ 52) (hc : c < 2047 * 2 ^ 52) (h : wval a + wval b = wval c) :
 double.add a b = some c := by
 obtain ⟨m, k, e1, v1, -⟩ := read_word false a ha
 obtain ⟨n, l, e2, v2, -⟩ := read_word false b hb
 have ea : double.word false a = a := rfl
 have eb : double.word false b = b := rfl
 have ec : double.word false c = c := rfl
 rw [ea] at e1
 rw [eb] at e2
 rw [Format.add, e1, e2]
 simp only [Datum.sum, Option.map_some, min_place, signed, Bool.false_eq_true, if_false, Bool.and_self]
 have h1 := shl_to m k (min k l) (Nat.min_le_left _ _)
 have h2 := shl_to n l (min k l) (Nat.min_le_right _ _)
 generalize m <<< (((k : Int) - 1074) - (((min k l : Nat) : Int) - 1074)).toNat = X at *
 generalize n <<< (((l : Int) - 1074) - (((min k l : Nat) : Int) - 1074)).toNat = Y at *
 have hs : (if (X : Int) + Y = 0 then false else decide ((X : Int) + Y < 0)) = false := by
  split
  · rfl
  · exact decide_eq_false (by omega)
 have hn : ((X : Int) + Y).natAbs = X + Y := by omega
 rw [hs, hn, write_by false _ _ c (min k l) 0 hc (by omega), ec]
 rw [Nat.pow_zero, Nat.mul_one, Nat.add_mul, h1, h2, ← h, v1, v2]
theorem sub_exact (a b c : Nat) (ha : a < 2047 * 2 ^ 52) (hb : b < 2047 * 2 ^ 52) (hc : c < 2047 * 2 ^ 52) (h : wval a = wval b + wval c) :
 double.sub a b = some c := by
 obtain ⟨m, k, e1, v1, -⟩ := read_word false a ha
 obtain ⟨n, l, e2, v2, -⟩ := read_word false b hb
 have ea : double.word false a = a := rfl
 have eb : double.word false b = b := rfl
 have ec : double.word false c = c := rfl
 rw [ea] at e1
 rw [eb] at e2
 rw [Format.sub, e1, e2]
 simp only [Datum.opposite, Datum.sum, Option.map_some, min_place, signed, Bool.false_eq_true, if_false, Bool.not_false, if_true, Bool.and_true]
 have h1 := shl_to m k (min k l) (Nat.min_le_left _ _)
 have h2 := shl_to n l (min k l) (Nat.min_le_right _ _)
 generalize m <<< (((k : Int) - 1074) - (((min k l : Nat) : Int) - 1074)).toNat = X at *
 generalize n <<< (((l : Int) - 1074) - (((min k l : Nat) : Int) - 1074)).toNat = Y at *
 have hp : 0 < 2 ^ min k l := Nat.two_pow_pos _
 have hXY : Y ≤ X := by
  apply Nat.le_of_mul_le_mul_right _ hp
  omega
 have hs : (if (X : Int) + -(Y : Int) = 0 then false else decide ((X : Int) + -(Y : Int) < 0)) = false := by
  split
  · rfl
  · exact decide_eq_false (by omega)
 have hn : ((X : Int) + -(Y : Int)).natAbs = X - Y := by omega
 rw [hs, hn, write_by false _ _ c (min k l) 0 hc (by omega), ec]
 rw [Nat.pow_zero, Nat.mul_one, Nat.sub_mul, h1, h2]
 omega
theorem half_exact (s : Bool) (d a c q : Nat) (hd : double.read d = .number false (2 ^ 52) ((q : Int) - 52)) (ha : a < 2047 * 2 ^ 52) (hc : c < 2047 * 2 ^ 52) (h : wval a = wval c * 2 ^ q) :
 double.div (double.word s a) d = some (double.word s c) := by
 obtain ⟨m, k, e1, v1, hm⟩ := read_word s a ha
 have hl : m.log2 ≤ 52 := by
  by_cases h0 : m = 0
  · subst h0; decide
  · have := (Nat.log2_lt h0).2 hm
    omega
 have h52 : (2 ^ 52 : Nat).log2 = 52 := by decide
 have hn0 : ¬ ((2 : Nat) ^ 52 = 0) := by decide
 rw [Format.div, e1, hd]
 simp only [Datum.quotient, fb, hn0, if_false, h52, Option.map_some, Bool.xor_false]
 obtain ⟨t, ht⟩ : ∃ t, 52 + 2 + 52 - m.log2 = 52 + t := ⟨52 + 2 - m.log2, by omega⟩
 rw [ht]
 have hdiv : m <<< (52 + t) = (m * 2 ^ t) * 2 ^ 52 := by rw [Nat.shiftLeft_eq, Nat.pow_add, Nat.mul_comm (2 ^ 52), Nat.mul_assoc]
 rw [hdiv, Nat.mul_div_cancel _ (by decide), Nat.mul_mod_left]
 simp only [bne_self_eq_false, Bool.toNat_false, Nat.add_zero]
 rw [write_by s _ _ c k (q + t + 1) hc (by omega)]
 have e : 2 * (m * 2 ^ t) * 2 ^ k = (m * 2 ^ k) * 2 ^ t * 2 := by ac_rfl
 rw [e, v1, h, Nat.pow_succ, Nat.pow_add]
 ac_rfl
theorem toInt_exact (a : Nat) (ha : a < 2047 * 2 ^ 52) (n : Nat) (h : wval a = n * 2 ^ 1074) : (double.read a).toInt .zero = some (n : Int) := by
 obtain ⟨m, k, e1, v1, hm⟩ := read_word false a ha
 have ea : double.word false a = a := rfl
 rw [ea] at e1
 rw [e1]
 simp only [Datum.toInt, Datum.integral, signed, Bool.false_eq_true, if_false, Nat.shiftLeft_zero, cut_zero]
 rw [← v1] at h
 have := shift _ _ _ _ h
 rw [Nat.shiftLeft_eq]
 have e1 : (k : Int) - ((1074 : Nat) : Int) = (k : Int) - 1074 := rfl
 have e2 : ((1074 : Nat) : Int) - (k : Int) = -((k : Int) - 1074) := by omega
 rw [e1, e2] at this
 rw [this, Nat.mul_div_cancel _ (Nat.two_pow_pos _)]
theorem sign_of (s : Bool) (r : Nat) (h : r < 2 ^ 63) : (double.word s r / double.signWeight % 2 == 1) = s := by
 unfold Format.word
 rw [sw]
 cases s
 · rw [if_neg (by simp)]
   have : r / 2 ^ 63 = 0 := by omega
   rw [this]; rfl
 · rw [if_pos rfl]
   have : (2 ^ 63 + r) / 2 ^ 63 % 2 = 1 := by omega
   rw [this]; rfl
theorem place_of (s : Bool) (r : Nat) (h : r < 2 ^ 63) : double.word s r % double.signWeight = r := by
 unfold Format.word
 rw [sw]
 cases s
 · rw [if_neg (by simp)]; omega
 · rw [if_pos rfl]; omega
theorem read_inf (s : Bool) : double.read (double.word s (2047 * 2 ^ 52)) = .infinity s := by cases s <;> decide
theorem read_nan (s : Bool) (r : Nat) (h : 2047 * 2 ^ 52 < r) (h' : r < 2 ^ 63) : double.read (double.word s r) = .nan s (r - 2047 * 2 ^ 52) := by
 simp only [Format.read, sign_of s r h', place_of s r h', bin, infR]
 rw [if_neg (by omega), if_neg (by omega), if_neg (by omega)]
def key (s : Bool) (r : Nat) : Int := if s then -(r : Int) else r
def sv (s : Bool) (r : Nat) : Int := if s then -(wval r : Int) else wval r
theorem wval_pos (a : Nat) (h : 0 < a) : 0 < wval a := by
 have := wval_lt 0 a h
 omega
theorem wval_zero : wval 0 = 0 := by decide
theorem sv_lt (s t : Bool) (a b : Nat) : sv s a < sv t b ↔ key s a < key t b := by
 have hz := wval_zero
 have h1 : a < b ↔ wval a < wval b := ⟨wval_lt a b, fun h => by
  rcases Nat.lt_trichotomy a b with h' | h' | h'
  · exact h'
  · subst h'; omega
  · have := wval_lt b a h'; omega⟩
 have h2 : b < a ↔ wval b < wval a := ⟨wval_lt b a, fun h => by
  rcases Nat.lt_trichotomy a b with h' | h' | h'
  · have := wval_lt a b h'; omega
  · subst h'; omega
  · exact h'⟩
 have h3 : 0 < a ↔ 0 < wval a := ⟨wval_pos a, fun h => by
  rcases Nat.eq_zero_or_pos a with rfl | h'
  · omega
  · exact h'⟩
 have h4 : 0 < b ↔ 0 < wval b := ⟨wval_pos b, fun h => by
  rcases Nat.eq_zero_or_pos b with rfl | h'
  · omega
  · exact h'⟩
 cases s <;> cases t <;> simp only [sv, key, if_true, Bool.false_eq_true, if_false] <;> omega
theorem cmp_eq (x y x' y' : Int) (h1 : x < y ↔ x' < y') (h2 : y < x ↔ y' < x') : compare x y = compare x' y' := by
 simp only [compare, compareOfLessAndEq]
 by_cases h : x < y
 · rw [if_pos h, if_pos (h1.1 h)]
 · rw [if_neg h, if_neg (fun h' => h (h1.2 h'))]
   by_cases e : x = y
   · rw [if_pos e, if_pos (by omega)]
   · rw [if_neg e, if_neg (by omega)]
theorem signed_mul (s : Bool) (m k b : Nat) (h : b ≤ k) : signed s m (((k : Int) - 1074) - ((b : Int) - 1074)).toNat * (2 ^ b : Nat) = if s then -((m * 2 ^ k : Nat) : Int) else ((m * 2 ^ k : Nat) : Int) := by
 have := shl_to m k b h
 unfold signed
 cases s
 · simp only [Bool.false_eq_true, if_false]
   rw [← Int.natCast_mul, this]
 · simp only [if_true]
   rw [Int.neg_mul, ← Int.natCast_mul, this]
theorem order_key (s t : Bool) (a b : Nat) (ha : a ≤ 2047 * 2 ^ 52) (hb : b ≤ 2047 * 2 ^ 52) : double.order (double.word s a) (double.word t b) = some (compare (key s a) (key t b)) := by
 unfold Format.order
 by_cases ha' : a = 2047 * 2 ^ 52
 · subst ha'
   rw [read_inf]
   by_cases hb' : b = 2047 * 2 ^ 52
   · subst hb'
     rw [read_inf]
     cases s <;> cases t <;> rfl
   · obtain ⟨n, l, e2, v2, -⟩ := read_word t b (by omega)
     rw [e2]
     simp only [Datum.order]
     congr 1
     cases s <;> cases t <;> simp only [key, if_true, Bool.false_eq_true, if_false, compare, compareOfLessAndEq] <;> (first | (rw [if_pos (by omega)]; done) | (rw [if_neg (by omega), if_neg (by omega)]))
 · obtain ⟨m, k, e1, v1, -⟩ := read_word s a (by omega)
   rw [e1]
   by_cases hb' : b = 2047 * 2 ^ 52
   · subst hb'
     rw [read_inf]
     simp only [Datum.order]
     congr 1
     cases s <;> cases t <;> simp only [key, if_true, Bool.false_eq_true, if_false, compare, compareOfLessAndEq] <;> (first | (rw [if_pos (by omega)]; done) | (rw [if_neg (by omega), if_neg (by omega)]))
   · obtain ⟨n, l, e2, v2, -⟩ := read_word t b (by omega)
     rw [e2]
     simp only [Datum.order, min_place]
     congr 1
     have h1 := signed_mul s m k (min k l) (Nat.min_le_left _ _)
     have h2 := signed_mul t n l (min k l) (Nat.min_le_right _ _)
     rw [v1] at h1
     rw [v2] at h2
     generalize signed s m (((k : Int) - 1074) - (((min k l : Nat) : Int) - 1074)).toNat = X at *
     generalize signed t n (((l : Int) - 1074) - (((min k l : Nat) : Int) - 1074)).toNat = Y at *
     have hp : (0 : Int) < ((2 ^ min k l : Nat) : Int) := Int.natCast_pos.2 (Nat.two_pow_pos _)
     generalize ((2 ^ min k l : Nat) : Int) = P at *
     have h1' : X * P = sv s a := h1
     have h2' : Y * P = sv t b := h2
     refine cmp_eq _ _ _ _ ?_ ?_
     · rw [← sv_lt, ← h1', ← h2']
       exact ⟨fun h => Int.mul_lt_mul_of_pos_right h hp, fun h => Int.lt_of_mul_lt_mul_right h (by omega)⟩
     · rw [← sv_lt, ← h1', ← h2']
       exact ⟨fun h => Int.mul_lt_mul_of_pos_right h hp, fun h => Int.lt_of_mul_lt_mul_right h (by omega)⟩
theorem order_nan_l (s : Bool) (r y : Nat) (h : 2047 * 2 ^ 52 < r) (h' : r < 2 ^ 63) : double.order (double.word s r) y = none := by
 unfold Format.order
 rw [read_nan s r h h']
 rfl
end Go.Proofs.YtlkoghdajpbffaaGreat
/- Floats of 64 bits, by their bits: which are NaN, how two stand to each other, their ranks. No statement of its own; no conditions. -/

namespace Go.Proofs.YtlkoghdajpbffaaGreat
open Ieee
def isN (x : Nat) : Bool := decide (9218868437227405312 < x % 9223372036854775808)
def kx (x : Nat) : Int := if x < 9223372036854775808 then (x : Int) else 9223372036854775808 - x
def fbits (x : Nat) : Nat := if isN x then 9221120237041090560 else x
def frank (x : Nat) : Nat := if isN x then 18446744073709551615 else if x % 9223372036854775808 = 0 then 9223372036854775808 else if x < 9223372036854775808 then x + 9223372036854775808 else 18446744073709551615 - x
theorem isN_iff (x : Nat) : isN x = true ↔ 9218868437227405312 < x % 9223372036854775808 := by simp [isN]
theorem isN_not (x : Nat) : isN x = false ↔ x % 9223372036854775808 ≤ 9218868437227405312 := by simp [isN]
theorem word_neg (r : Nat) : double.word true r = 9223372036854775808 + r := by unfold Format.word; rw [sw, if_pos rfl]
theorem split_x (x : Nat) (h : x < 18446744073709551616) : ∃ s r, r < 9223372036854775808 ∧ x = double.word s r ∧ x % 9223372036854775808 = r ∧ kx x = key s r := by
 by_cases hx : x < 9223372036854775808
 · exact ⟨false, x, hx, rfl, by omega, by rw [kx, if_pos hx]; rfl⟩
 · refine ⟨true, x - 9223372036854775808, by omega, by rw [word_neg]; omega, by omega, ?_⟩
   rw [kx, if_neg hx, key, if_pos rfl]
   omega
theorem order_x (x y : Nat) (hx : x < 18446744073709551616) (hy : y < 18446744073709551616) (nx : isN x = false) (ny : isN y = false) : FloatKind.f64.format.order x y = some (compare (kx x) (kx y)) := by
 rw [isN_not] at nx ny
 obtain ⟨s, a, -, rfl, ea, ka⟩ := split_x x hx
 obtain ⟨t, b, -, rfl, eb, kb⟩ := split_x y hy
 rw [ka, kb]
 exact order_key s t a b (by omega) (by omega)
theorem order_l (x y : Nat) (hx : x < 18446744073709551616) (nx : isN x = true) : FloatKind.f64.format.order x y = none := by
 rw [isN_iff] at nx
 obtain ⟨s, a, h, rfl, ea, -⟩ := split_x x hx
 exact order_nan_l s a y (by omega) (by omega)
theorem order_lt (x y : Nat) (hx : x < 18446744073709551616) (hy : y < 18446744073709551616) (nx : isN x = false) (ny : isN y = false) (h : kx x < kx y) : FloatKind.f64.format.order x y = some .lt := by
 rw [order_x x y hx hy nx ny]
 congr 1
 simp only [compare, compareOfLessAndEq]
 rw [if_pos h]
theorem order_eq (x y : Nat) (hx : x < 18446744073709551616) (hy : y < 18446744073709551616) (nx : isN x = false) (ny : isN y = false) (h : kx x = kx y) : FloatKind.f64.format.order x y = some .eq := by
 rw [order_x x y hx hy nx ny]
 congr 1
 simp only [compare, compareOfLessAndEq]
 rw [if_neg (by omega), if_pos h]
theorem order_gt (x y : Nat) (hx : x < 18446744073709551616) (hy : y < 18446744073709551616) (nx : isN x = false) (ny : isN y = false) (h : kx y < kx x) : FloatKind.f64.format.order x y = some .gt := by
 rw [order_x x y hx hy nx ny]
 congr 1
 simp only [compare, compareOfLessAndEq]
 rw [if_neg (by omega), if_neg (by omega)]
end Go.Proofs.YtlkoghdajpbffaaGreat
/- What halves, doubles, sums and cuts of floats give, in the steps that the specification takes. No statement of its own; no conditions. -/

namespace Go.Proofs.YtlkoghdajpbffaaGreat
open Ieee
def F (c j : Nat) : Nat := rg (c * 2 ^ j)
theorem F_wval (c j : Nat) (hc : c < 2 ^ 53) (hj : j ≤ 2045) : wval (F c j) = c * 2 ^ j := (rep_of c j hc hj).2.1
theorem F_lt (c j : Nat) (hc : c < 2 ^ 53) (hj : j ≤ 2045) : F c j < 2047 * 2 ^ 52 := (rep_of c j hc hj).1
theorem F_of (r c j : Nat) (h : r < 2047 * 2 ^ 52) (e : wval r = c * 2 ^ j) : r = F c j := by rw [F, ← e, rg_wval r h]
theorem wval_norm (t f : Nat) (hf : f < 2 ^ 52) : wval ((t + 1) * 2 ^ 52 + f) = (2 ^ 52 + f) * 2 ^ t := by
 unfold wval
 have h1 : ¬ ((t + 1) * 2 ^ 52 + f < 2 ^ 52) := by omega
 have h2 : ((t + 1) * 2 ^ 52 + f) / 2 ^ 52 = t + 1 := by omega
 have h3 : ((t + 1) * 2 ^ 52 + f) % 2 ^ 52 = f := by omega
 rw [if_neg h1, h2, h3, Nat.add_sub_cancel]
theorem F_norm (t f : Nat) (hf : f < 2 ^ 52) (ht : t ≤ 2045) : F (2 ^ 52 + f) t = (t + 1) * 2 ^ 52 + f := (F_of _ _ _ (by omega) (wval_norm t f hf)).symm
theorem F_sub (f : Nat) (hf : f < 2 ^ 52) : F f 0 = f := (F_of f f 0 (by omega) (by rw [wval, if_pos hf, Nat.pow_zero, Nat.mul_one])).symm
theorem two_read : double.read 4611686018427387904 = .number false (2 ^ 52) (((1 : Nat) : Int) - 52) := by decide
theorem p52_read : double.read 4841369599423283200 = .number false (2 ^ 52) (((52 : Nat) : Int) - 52) := by decide
theorem two_F : 4611686018427387904 = F (2 ^ 52) 1023 := (F_norm 1023 0 (by omega) (by omega)).symm
theorem one_F : 4607182418800017408 = F (2 ^ 52) 1022 := (F_norm 1022 0 (by omega) (by omega)).symm
theorem p52_F : 4841369599423283200 = F (2 ^ 52) 1074 := (F_norm 1074 0 (by omega) (by omega)).symm
theorem half_F (c j : Nat) (hc : c < 2 ^ 53) (hj : j + 1 ≤ 2045) : double.div (F c (j + 1)) 4611686018427387904 = some (F c j) := by
 refine half_exact false 4611686018427387904 (F c (j + 1)) (F c j) 1 two_read (F_lt _ _ hc hj) (F_lt _ _ hc (by omega)) ?_
 rw [F_wval _ _ hc hj, F_wval _ _ hc (by omega), Nat.pow_succ, Nat.pow_one, Nat.mul_assoc]
theorem cut_F (c j : Nat) (hc : c < 2 ^ 53) (hj : j + 52 ≤ 2045) : double.div (F c (j + 52)) 4841369599423283200 = some (F c j) := by
 refine half_exact false 4841369599423283200 (F c (j + 52)) (F c j) 52 p52_read (F_lt _ _ hc hj) (F_lt _ _ hc (by omega)) ?_
 rw [F_wval _ _ hc hj, F_wval _ _ hc (by omega), Nat.pow_add, Nat.mul_assoc]
theorem pw (c j a b k d : Nat) (h : j + a + b = k + d) : c * 2 ^ j * (2 ^ a * 2 ^ b) = c * 2 ^ k * 2 ^ d := by
 rw [← Nat.pow_add, Nat.mul_assoc, Nat.mul_assoc, ← Nat.pow_add, ← Nat.pow_add, ← Nat.add_assoc, h]
theorem decode_eq (b : Nat) : FloatKind.f64.decode b = double.read b := rfl
theorem double_F (c j : Nat) (hc : c < 2 ^ 53) (hj : j + 1 ≤ 2045) : double.mul (F c j) 4611686018427387904 = some (F c (j + 1)) := by
 have := mul_exact false false (F c j) (F (2 ^ 52) 1023) (F c (j + 1)) (F_lt _ _ hc (by omega)) (F_lt _ _ (by omega) (by omega)) (F_lt _ _ hc hj) (by
  rw [F_wval _ _ hc hj, F_wval _ _ hc (by omega), F_wval _ _ (by omega) (by omega)]
  exact pw c j 52 1023 (j + 1) 1074 (by omega))
 rw [← two_F] at this
 exact this
theorem lift_F (c j : Nat) (hc : c < 2 ^ 53) (hj : j + 52 ≤ 2045) : double.mul (F c j) 4841369599423283200 = some (F c (j + 52)) := by
 have := mul_exact false false (F c j) (F (2 ^ 52) 1074) (F c (j + 52)) (F_lt _ _ hc (by omega)) (F_lt _ _ (by omega) (by omega)) (F_lt _ _ hc hj) (by
  rw [F_wval _ _ hc hj, F_wval _ _ hc (by omega), F_wval _ _ (by omega) (by omega)]
  exact pw c j 52 1074 (j + 52) 1074 (by omega))
 rw [← p52_F] at this
 exact this
theorem less_F (f : Nat) (hf : f < 2 ^ 52) : double.sub (F (2 ^ 52 + f) 1022) 4607182418800017408 = some (F f 1022) := by
 rw [one_F]
 refine sub_exact _ _ _ (F_lt _ _ (by omega) (by omega)) (F_lt _ _ (by omega) (by omega)) (F_lt _ _ (by omega) (by omega)) ?_
 rw [F_wval _ _ (by omega) (by omega), F_wval _ _ (by omega) (by omega), F_wval _ _ (by omega) (by omega), Nat.add_mul]
theorem int_of (x n : Nat) (h : (double.read x).toInt .zero = some (n : Int)) (hn : n < 18446744073709551616) : floatToIntVal .f64 x .u64 = some (n : Int) := by
 rw [← decode_eq] at h
 unfold floatToIntVal
 rw [h]
 have e1 : IntKind.u64.min = 0 := by decide
 have e2 : IntKind.u64.max = 18446744073709551615 := by decide
 simp only [e1, e2]
 rw [if_pos (by omega)]
theorem int_F (f : Nat) (hf : f < 2 ^ 52) : floatToIntVal .f64 (F f 1074) .u64 = some (f : Int) :=
 int_of _ _ (toInt_exact (F f 1074) (F_lt _ _ (by omega) (by omega)) f (F_wval _ _ (by omega) (by omega))) (by omega)
theorem of_F (f : Nat) (hf : f < 2 ^ 53) : floatOfInt .f64 (f : Int) = F f 1074 := by
 unfold floatOfInt FloatKind.nearest FloatKind.encode
 have hn : decide ((f : Int) < 0) = false := decide_eq_false (by omega)
 rw [hn, Int.natAbs_natCast]
 exact write_by false f 0 (F f 1074) 1074 0 (F_lt _ _ hf (by omega)) (by omega) (by rw [F_wval _ _ hf (by omega), Nat.pow_zero, Nat.mul_one])
end Go.Proofs.YtlkoghdajpbffaaGreat
/- The contracts of the program's FloatBits, FloatOf, FloatRank, FloatUnrank and FloatCompare. For every argument. -/







namespace Go.Proofs.YtlkoghdajpbffaaGreat
open Go.RowKit
theorem isNaN_walk (x : Nat) (hx : x < 18446744073709551616) (w : World) :
 Calls Tryz.prog 98 #[.float .f64 x] w fun e w' => e = .returned (.bool (isN x)) ∧ w' = w := by
 by_cases hn : isN x = true
 · have o := order_l x x hx hn
   go_enter Tryz.func98, Tryz.ntmps98
   go_wp2
   go_ret
   exact ⟨by rw [hn]; rfl, rfl⟩
 · have hn' : isN x = false := by simpa using hn
   have o := order_eq x x hx hx hn' hn' rfl
   go_enter Tryz.func98, Tryz.ntmps98
   go_wp2
   go_ret
   exact ⟨by rw [hn']; rfl, rfl⟩
theorem bits_run (x : Nat) (w : World) : (callFunc 99 #[.float .f64 x]).run Tryz.prog w = .ok (.value (.int .u64 x)) w := by
 rw [run_callFunc_extern (P := Tryz.prog) Tryz.func99 (by kernel_rfl) (by kernel_rfl) (by kernel_rfl) (e := Extern.MathFloatBits.float64bits) (by kernel_rfl)]
 rfl
theorem impl_FloatBits (x : Nat) (hx : x < 18446744073709551616) (w : World) :
 Calls Tryz.prog 82 #[.float .f64 x] w fun e w' => e = .returned (.int .u64 (fbits x)) ∧ w' = w := by
 have hb := bits_run x
 by_cases hn : isN x = true
 · have ef : fbits x = 9221120237041090560 := by rw [fbits, if_pos hn]
   go_enter Tryz.func82, Tryz.ntmps82
   go_wp2_with fail
   refine (isNaN_walk x hx w).mono ?_
   rintro e w1 ⟨rfl, rfl⟩
   go_wp2_with fail
   go_ret
   exact ⟨by rw [ef]; rfl, rfl⟩
 · have hn' : isN x = false := by simpa using hn
   have ef : fbits x = x := by rw [fbits, if_neg hn]
   go_enter Tryz.func82, Tryz.ntmps82
   go_wp2_with fail
   refine (isNaN_walk x hx w).mono ?_
   rintro e w1 ⟨rfl, rfl⟩
   go_wp2_with fail
   go_ret
   exact ⟨by rw [ef]; rfl, rfl⟩
theorem not64 (x : Nat) (h : x < 18446744073709551616) : bits .xor .u64 IntKind.u64.max (x : Int) = ((18446744073709551615 - x : Nat) : Int) := by
 have e : IntKind.u64.max = ((18446744073709551615 : Nat) : Int) := by decide
 rw [e, u64_xor_nat _ _ (by omega) h]
 congr 1
 have h1 : (BitVec.allOnes 64 ^^^ BitVec.ofNat 64 x).toNat = 18446744073709551615 ^^^ x := by
  rw [BitVec.toNat_xor, BitVec.toNat_allOnes, BitVec.toNat_ofNat, Nat.mod_eq_of_lt h]
 rw [← h1, BitVec.allOnes_xor, BitVec.toNat_not, BitVec.toNat_ofNat, Nat.mod_eq_of_lt h]
theorem kx_zero : kx 0 = 0 := rfl
theorem isN_zero : isN 0 = false := by decide
theorem impl_FloatRank (x : Nat) (hx : x < 18446744073709551616) (w : World) :
 Calls Tryz.prog 108 #[.float .f64 x] w fun e w' => e = .returned (.int .u64 (frank x)) ∧ w' = w := by
 by_cases hn : isN x = true
 · have ef : frank x = 18446744073709551615 := by rw [frank, if_pos hn]
   go_enter Tryz.func108, Tryz.ntmps108
   go_wp2_with fail
   refine (isNaN_walk x hx w).mono ?_
   rintro e w1 ⟨rfl, rfl⟩
   go_wp2_with fail
   go_ret
   exact ⟨by rw [ef]; rfl, rfl⟩
 · have hn' : isN x = false := by simpa using hn
   have hm := (isN_not x).1 hn'
   have eb : fbits x = x := by rw [fbits, if_neg hn]
   by_cases h0 : x % 9223372036854775808 = 0
   · have ef : frank x = 9223372036854775808 := by rw [frank, if_neg hn, if_pos h0]
     have o := order_eq x 0 hx (by omega) hn' isN_zero (by rw [kx_zero, kx]; split <;> omega)
     go_enter Tryz.func108, Tryz.ntmps108
     go_wp2_with fail
     refine (isNaN_walk x hx w).mono ?_
     rintro e w1 ⟨rfl, rfl⟩
     go_wp2_with fail
     go_ret
     exact ⟨by rw [ef]; rfl, rfl⟩
   · by_cases hs : x < 9223372036854775808
     · have ef := hid (show frank x = x + 9223372036854775808 by rw [frank, if_neg hn, if_neg h0, if_pos hs])
       have o := order_gt x 0 hx (by omega) hn' isN_zero (by rw [kx_zero, kx]; split <;> omega)
       go_enter Tryz.func108, Tryz.ntmps108
       go_wp2_with fail
       refine (isNaN_walk x hx w).mono ?_
       rintro e w1 ⟨rfl, rfl⟩
       go_wp2_with fail
       refine (impl_FloatBits x hx _).mono ?_
       rintro e w1 ⟨rfl, rfl⟩
       rw [eb]
       go_wp2_with fail
       go_ret
       exact ⟨by rw [ef.out]; rfl, rfl⟩
     · have ef := hid (show frank x = 18446744073709551615 - x by rw [frank, if_neg hn, if_neg h0, if_neg hs])
       have o := order_lt x 0 hx (by omega) hn' isN_zero (by rw [kx_zero, kx]; split <;> omega)
       have hnot := not64 x hx
       go_enter Tryz.func108, Tryz.ntmps108
       go_wp2_with fail
       refine (isNaN_walk x hx w).mono ?_
       rintro e w1 ⟨rfl, rfl⟩
       go_wp2_with fail
       refine (impl_FloatBits x hx _).mono ?_
       rintro e w1 ⟨rfl, rfl⟩
       rw [eb]
       go_wp2_with fail
       go_ret
       exact ⟨by rw [ef.out]; rfl, rfl⟩
def cmp3 (x y : Nat) : Int := if x < y then -1 else if y < x then 1 else 0
theorem isNaN64 (x : Nat) (w : World) : Calls Tryz.prog 111 #[.int .u64 x] w fun e w' => e = .returned (.bool false) ∧ w' = w := by
 go_enter Tryz.func111, Tryz.ntmps111
 go_wp2
 go_ret
 exact ⟨rfl, rfl⟩
theorem cmp_walk (x y : Nat) (w : World) : Calls Tryz.prog 107 #[.int .u64 x, .int .u64 y] w fun e w' => e = .returned (.int .i64 (cmp3 x y)) ∧ w' = w := by
 rcases Nat.lt_trichotomy x y with h | h | h
 · have ec : cmp3 x y = -1 := by rw [cmp3, if_pos h]
   have h1 : (x : Int) < y := by omega
   go_enter Tryz.func107, Tryz.ntmps107
   go_wp2_with fail
   refine (isNaN64 x _).mono ?_
   rintro e w1 ⟨rfl, rfl⟩
   go_wp2_with fail
   refine (isNaN64 y _).mono ?_
   rintro e w1 ⟨rfl, rfl⟩
   go_wp2_with fail
   go_ret
   exact ⟨by rw [ec]; rfl, rfl⟩
 · have ec : cmp3 x y = 0 := by rw [cmp3, if_neg (by omega), if_neg (by omega)]
   subst h
   go_enter Tryz.func107, Tryz.ntmps107
   go_wp2_with fail
   refine (isNaN64 x _).mono ?_
   rintro e w1 ⟨rfl, rfl⟩
   go_wp2_with fail
   refine (isNaN64 x _).mono ?_
   rintro e w1 ⟨rfl, rfl⟩
   go_wp2_with fail
   go_ret
   exact ⟨by rw [ec]; rfl, rfl⟩
 · have ec : cmp3 x y = 1 := by rw [cmp3, if_neg (by omega), if_pos h]
   have h1 : (y : Int) < x := by omega
   go_enter Tryz.func107, Tryz.ntmps107
   go_wp2_with fail
   refine (isNaN64 x _).mono ?_
   rintro e w1 ⟨rfl, rfl⟩
   go_wp2_with fail
   refine (isNaN64 y _).mono ?_
   rintro e w1 ⟨rfl, rfl⟩
   go_wp2_with fail
   go_ret
   exact ⟨by rw [ec]; rfl, rfl⟩
theorem impl_FloatCompare (x y : Nat) (hx : x < 18446744073709551616) (hy : y < 18446744073709551616) (w : World) :
 Calls Tryz.prog 100 #[.float .f64 x, .float .f64 y] w fun e w' => e = .returned (.int .i64 (cmp3 (frank x) (frank y))) ∧ w' = w := by
 go_enter Tryz.func100, Tryz.ntmps100
 go_wp2_with fail
 refine (impl_FloatRank x hx _).mono ?_
 rintro e w1 ⟨rfl, rfl⟩
 go_wp2_with fail
 refine (impl_FloatRank y hy _).mono ?_
 rintro e w1 ⟨rfl, rfl⟩
 go_wp2_with fail
 refine (cmp_walk _ _ _).mono ?_
 rintro e w1 ⟨rfl, rfl⟩
 go_wp2_with fail
 go_ret
 exact ⟨rfl, rfl⟩
end Go.Proofs.YtlkoghdajpbffaaGreat
