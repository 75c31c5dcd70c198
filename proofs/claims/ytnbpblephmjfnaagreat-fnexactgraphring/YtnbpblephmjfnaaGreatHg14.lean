/- Keys in order, plain. No program; the items are keys. -/
import Derived.Test.YtnbpblephmjfnaaGreatEj13
namespace Go.Proofs.YtnbpblephmjfnaaGreat
open Go.RowKit
set_option maxRecDepth 100000
theorem txt_anti14 : ∀ (zs ys : List Int), txt ys zs = - txt zs ys
 | [], [] => rfl
 | [], _ :: _ => rfl
 | _ :: _, [] => rfl
 | x :: xs, y :: ys => by
  have ih := txt_anti14 xs ys
  rw [txt, txt]
  by_cases h1 : x < y
  · rw [if_neg (by omega), if_pos h1, if_pos h1]; rfl
  · by_cases h2 : y < x
    · rw [if_pos h2, if_neg h1, if_pos h2]
    · rw [if_neg h2, if_neg h1, if_neg h1, if_neg h2]; exact ih
theorem txt_trans14 : ∀ (a b c : List Int), txt a b < 0 → txt b c < 0 → txt a c < 0
 | [], [], c, h, _ => by simp [txt] at h
 | [], _ :: _, [], _, h => by simp [txt] at h
 | [], _ :: _, _ :: _, _, _ => by simp [txt]
 | _ :: _, [], _, h, _ => by simp [txt] at h
 | _ :: _, _ :: _, [], _, h => by simp [txt] at h
 | x :: xs, y :: ys, z :: zs, h, h' => by
  have ih := txt_trans14 xs ys zs
  rw [txt] at h h' ⊢
  by_cases h1 : x < z
  · rw [if_pos h1]; omega
  · rw [if_neg h1]
    by_cases h2 : z < x
    · exfalso
      by_cases h3 : x < y
      · rw [if_neg (by omega), if_pos (by omega)] at h'; omega
      · by_cases h4 : y < x
        · rw [if_neg h3, if_pos h4] at h; omega
        · rw [if_neg (by omega), if_pos (by omega)] at h'; omega
    · rw [if_neg h2]
      by_cases h3 : x < y
      · rw [if_neg (by omega), if_pos (by omega)] at h'; omega
      · by_cases h4 : y < x
        · rw [if_neg h3, if_pos h4] at h; omega
        · rw [if_neg h3, if_neg h4] at h
          rw [if_neg (by omega), if_neg (by omega)] at h'
          exact ih h h'
theorem txt_zero14 : ∀ (a b : List Int), txt a b = 0 → a = b
 | [], [], _ => rfl
 | [], _ :: _, h => by simp [txt] at h
 | _ :: _, [], h => by simp [txt] at h
 | x :: xs, y :: ys, h => by
  rw [txt] at h
  by_cases h1 : x < y
  · rw [if_pos h1] at h; omega
  · by_cases h2 : y < x
    · rw [if_neg h1, if_pos h2] at h; omega
    · rw [if_neg h1, if_neg h2] at h
      rw [txt_zero14 xs ys h, show x = y by omega]
theorem okM_I {a : Im} (h : okM a = true) : okI a.K a.N a.F a.Z.length = true := by
 unfold okM okK at h
 rw [Bool.and_eq_true] at h
 exact h.1
theorem cmpM_of {a b : Im} (ha : okM a = true) (hb : okM b = true) : cmpM a b = if a.K ≠ b.K then (if a.K < b.K then -1 else 1) else if a.N ≠ b.N then (if a.N < b.N then -1 else 1) else if cmp3 (frank a.F) (frank b.F) ≠ 0 then cmp3 (frank a.F) (frank b.F) else txt a.Z b.Z := by
 unfold cmpM cmpI
 rw [if_neg (by rw [okM_I ha, okM_I hb]; simp)]
section
variable {a b c : Im} (ha : okM a = true) (hb : okM b = true) (hc : okM c = true)
include ha hb
theorem cmpM_anti : cmpM b a = - cmpM a b := by
 rw [cmpM_of ha hb, cmpM_of hb ha, txt_anti14 a.Z b.Z]
 unfold cmp3
 generalize txt a.Z b.Z = t
 generalize frank a.F = r
 generalize frank b.F = s
 repeat' split
 all_goals omega
include hc
theorem cmpM_trans (h : cmpM a b < 0) (k : cmpM b c < 0) : cmpM a c < 0 := by
 have t1 := txt_trans14 a.Z b.Z c.Z
 rw [cmpM_of ha hb] at h
 rw [cmpM_of hb hc] at k
 rw [cmpM_of ha hc]
 unfold cmp3 at *
 generalize txt a.Z b.Z = t at *
 generalize txt b.Z c.Z = u at *
 generalize txt a.Z c.Z = v at *
 generalize frank a.F = r at *
 generalize frank b.F = s at *
 generalize frank c.F = q at *
 by_cases e1 : a.K = b.K
 · by_cases e2 : b.K = c.K
   · rw [if_neg (by omega)] at h k ⊢
     by_cases e3 : a.N = b.N
     · by_cases e4 : b.N = c.N
       · rw [if_neg (by omega)] at h k ⊢
         by_cases e5 : r = s
         · by_cases e6 : s = q
           · subst e5 e6
             simp only [Nat.lt_irrefl, if_false, ne_eq, not_true] at h k ⊢
             exact t1 h k
           · subst e5
             repeat' split
             all_goals repeat' split at h
             all_goals repeat' split at k
             all_goals omega
         · repeat' split
           all_goals repeat' split at h
           all_goals repeat' split at k
           all_goals omega
       · rw [if_pos e4] at k
         rw [if_neg (by omega)] at h
         rw [if_pos (by omega)]
         split at k
         · rw [if_pos (by omega)]; omega
         · omega
     · rw [if_pos e3] at h
       split at h
       · by_cases e4 : b.N = c.N
         · rw [if_pos (by omega), if_pos (by omega)]; omega
         · rw [if_pos e4] at k
           split at k
           · rw [if_pos (by omega), if_pos (by omega)]; omega
           · omega
       · omega
   · rw [if_pos e2] at k
     split at k
     · rw [if_pos (by omega), if_pos (by omega)]; omega
     · omega
 · rw [if_pos e1] at h
   split at h
   · by_cases e2 : b.K = c.K
     · rw [if_pos (by omega), if_pos (by omega)]; omega
     · rw [if_pos e2] at k
       split at k
       · rw [if_pos (by omega), if_pos (by omega)]; omega
       · omega
   · omega
theorem cmpM_eq (h : cmpM a b = 0) : cmpM a c = cmpM b c := by
 rw [cmpM_of ha hb] at h
 rw [cmpM_of ha hc, cmpM_of hb hc]
 have q : a.K = b.K ∧ a.N = b.N ∧ frank a.F = frank b.F ∧ txt a.Z b.Z = 0 := by
  unfold cmp3 at h
  generalize txt a.Z b.Z = t at *
  generalize frank a.F = r at *
  generalize frank b.F = s at *
  by_cases e1 : a.K = b.K
  · rw [if_neg (by omega)] at h
    by_cases e2 : a.N = b.N
    · rw [if_neg (by omega)] at h
      refine ⟨e1, e2, ?_⟩
      repeat' split at h
      all_goals omega
    · rw [if_pos e2] at h
      split at h <;> omega
  · rw [if_pos e1] at h
    split at h <;> omega
 obtain ⟨q1, q2, q3, q4⟩ := q
 rw [q1, q2, q3, txt_zero14 _ _ q4]
theorem cmpM_lt_le (h : cmpM a b < 0) (k : cmpM b c ≤ 0) : cmpM a c < 0 := by
 by_cases e : cmpM b c = 0
 · have h1 := cmpM_eq hb hc ha e
   rw [cmpM_anti ha hb, cmpM_anti ha hc] at h1
   omega
 · exact cmpM_trans ha hb hc h (by omega)
theorem cmpM_le_lt (h : cmpM a b ≤ 0) (k : cmpM b c < 0) : cmpM a c < 0 := by
 by_cases e : cmpM a b = 0
 · rw [cmpM_eq ha hb hc e]; exact k
 · exact cmpM_trans ha hb hc (by omega) k
theorem cmpM_le_trans (h : cmpM a b ≤ 0) (k : cmpM b c ≤ 0) : cmpM a c ≤ 0 := by
 by_cases e : cmpM a b = 0
 · rw [cmpM_eq ha hb hc e]; exact k
 · have := cmpM_lt_le ha hb hc (by omega) k; omega
end
theorem cmpM_self {a : Im} (ha : okM a = true) : cmpM a a = 0 := by have := cmpM_anti ha ha; omega
theorem inM_iff {p : Im × Im} {x : Im} (h1 : okM p.1 = true) (h2 : okM p.2 = true) (hx : okM x = true) : inM p x = decide (cmpM p.1 x ≤ 0 ∧ cmpM x p.2 ≤ 0) := by
 unfold inM inSp
 rw [show okK p.1.K p.1.N p.1.F p.1.Z.length = true from h1, show okK p.2.K p.2.N p.2.F p.2.Z.length = true from h2, show okK x.K x.N x.F x.Z.length = true from hx]
 show (true && true && true && decide (cmpM p.1 x ≤ 0) && decide (cmpM x p.2 ≤ 0)) = _
 rw [Bool.eq_iff_iff]
 simp
theorem spB_ok {p : Im × Im} (h : spB p = true) : okM p.1 = true ∧ okM p.2 = true ∧ cmpM p.1 p.2 ≤ 0 := by
 unfold spB at h
 rw [Bool.and_eq_true, Bool.and_eq_true, decide_eq_true_iff] at h
 exact h
end Go.Proofs.YtnbpblephmjfnaaGreat
