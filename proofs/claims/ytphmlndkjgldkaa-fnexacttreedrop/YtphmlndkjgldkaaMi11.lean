/- Entries in order, plain: a total order of entries. No program, no conditions. -/
import Derived.Test.YtphmlndkjgldkaaMf11
namespace Go.Proofs.Ytphmlndkjgldkaa
open Go.RowKit
set_option maxRecDepth 100000
theorem txt_lt_trans11 : ∀ (a b c : List Int), txt a b < 0 → txt b c < 0 → txt a c < 0
 | [], [], c, h, _ => by simp [txt] at h
 | [], _ :: _, [], _, h => by simp [txt] at h
 | [], _ :: _, _ :: _, _, _ => by simp [txt]
 | _ :: _, [], _, h, _ => by simp [txt] at h
 | _ :: _, _ :: _, [], _, h => by simp [txt] at h
 | x :: xs, y :: ys, z :: zs, h, h' => by
  have ih := txt_lt_trans11 xs ys zs
  rw [txt] at h h' ⊢
  by_cases h1 : x < z
  · rw [if_pos h1]; omega
  · rw [if_neg h1]
    by_cases h2 : z < x
    · exfalso
      by_cases h3 : x < y
      · rw [if_neg (by omega), if_pos (by omega)] at h'; omega
      · by_cases h4 : y < x
        · rw [if_neg h3, if_pos h4] at h; omega
        · rw [if_neg (by omega), if_pos (by omega)] at h'; omega
    · rw [if_neg h2]
      by_cases h3 : x < y
      · rw [if_neg (by omega), if_pos (by omega)] at h'; omega
      · by_cases h4 : y < x
        · rw [if_neg h3, if_pos h4] at h; omega
        · rw [if_neg h3, if_neg h4] at h
          rw [if_neg (by omega), if_neg (by omega)] at h'
          exact ih h h'
def ltP (a b : En) : Prop := a.K < b.K ∨ (a.K = b.K ∧ (a.N < b.N ∨ (a.N = b.N ∧ (frank a.F < frank b.F ∨ (frank a.F = frank b.F ∧ (txt a.Z b.Z < 0 ∨ (txt a.Z b.Z = 0 ∧ a.id < b.id)))))))
theorem entOk_I {e : En} (h : entOk e = true) : okI e.K e.N e.F e.Z.length = true := by
 unfold entOk entB okK at h
 simp only [Bool.and_eq_true] at h
 exact h.1.1
theorem ltE_iff {a b : En} (ha : entOk a = true) (hb : entOk b = true) : ltE a b = true ↔ ltP a b := by
 unfold ltE ltB cmpE ltP
 rw [decide_eq_true_iff, cmpI_of11 a.K a.N b.K b.N a.F b.F a.Z.length b.Z.length a.Z b.Z (entOk_I ha) (entOk_I hb)]
 unfold cmp3
 generalize txt a.Z b.Z = t
 generalize frank a.F = r
 generalize frank b.F = s
 repeat' split
 all_goals omega
theorem txt_tri (a b c : List Int) : (txt a b < 0 → txt b c < 0 → txt a c < 0) ∧ (txt a b = 0 → txt a c = txt b c) ∧ (txt b c = 0 → txt a c = txt a b) :=
 ⟨txt_lt_trans11 a b c, fun h => by rw [(txt_zero a b).1 h], fun h => by rw [(txt_zero b c).1 h]⟩
theorem ltP_trans {a b c : En} (h : ltP a b) (k : ltP b c) : ltP a c := by
 obtain ⟨t1, t2, t3⟩ := txt_tri a.Z b.Z c.Z
 unfold ltP at *
 omega
theorem ltP_asym {a b : En} (h : ltP a b) : ¬ ltP b a := by
 have := txt_anti11 a.Z b.Z
 unfold ltP at *
 omega
theorem ltP_le {a b c : En} (h : ¬ ltP b a) (k : ltP b c) : ltP a c := by
 obtain ⟨t1, t2, t3⟩ := txt_tri a.Z b.Z c.Z
 have := txt_anti11 a.Z b.Z
 unfold ltP at *
 omega
theorem ltP_lt {a b c : En} (h : ltP a b) (k : ¬ ltP c b) : ltP a c := by
 obtain ⟨t1, t2, t3⟩ := txt_tri a.Z b.Z c.Z
 have := txt_anti11 b.Z c.Z
 unfold ltP at *
 omega
theorem leP_trans {a b c : En} (h : ¬ ltP b a) (k : ¬ ltP c b) : ¬ ltP c a := fun q => k (ltP_lt q (fun x => h x))
section
variable {a b c : En} (ha : entOk a = true) (hb : entOk b = true) (hc : entOk c = true)
include ha hb hc
theorem ltE_trans (h : ltE a b = true) (k : ltE b c = true) : ltE a c = true := (ltE_iff ha hc).2 (ltP_trans ((ltE_iff ha hb).1 h) ((ltE_iff hb hc).1 k))
theorem ltE_le (h : ltE b a = false) (k : ltE b c = true) : ltE a c = true := (ltE_iff ha hc).2 (ltP_le (fun q => by rw [(ltE_iff hb ha).2 q] at h; cases h) ((ltE_iff hb hc).1 k))
theorem ltE_lt (h : ltE a b = true) (k : ltE c b = false) : ltE a c = true := (ltE_iff ha hc).2 (ltP_lt ((ltE_iff ha hb).1 h) (fun q => by rw [(ltE_iff hc hb).2 q] at k; cases k))
theorem leE_trans (h : ltE b a = false) (k : ltE c b = false) : ltE c a = false := by
 cases q : ltE c a with
 | false => rfl
 | true => exact absurd ((ltE_iff hc ha).1 q) (leP_trans (fun x => by rw [(ltE_iff hb ha).2 x] at h; cases h) (fun x => by rw [(ltE_iff hc hb).2 x] at k; cases k))
end
def upsB (es : List En) (e : En) : Nat := es.countP (fun x => !ltE e x)
end Go.Proofs.Ytphmlndkjgldkaa
