/- Texts of this proof in one: Hg14 He14 Hf14 Hh14. -/
import Derived.Test.YtjcjoabblafboaaGreatMgb
import Derived.Test.YtjcjoabblafboaaGreatMga
import Derived.Shelf.SlSortCmp.NoneTotal
/- Keys in order, plain. No program; the items are keys. -/

namespace Go.Proofs.YtjcjoabblafboaaGreat
open Go.RowKit
set_option maxRecDepth 100000
theorem txt_anti14 : ∀ (zs ys : List Int), txt ys zs = - txt zs ys
 | [], [] => rfl
 | [], _ :: _ => rfl
 | _ :: _, [] => rfl
 | x :: xs, y :: ys => by
  have ih := txt_anti14 xs ys
  rw [txt, txt]
  by_cases h1 : x < y
  · rw [if_neg (by omega), if_pos h1, if_pos h1]; rfl
  · by_cases h2 : y < x
    · rw [if_pos h2, if_neg h1, if_pos h2]
    · rw [if_neg h2, if_neg h1, if_neg h1, if_neg h2]; exact ih
theorem txt_trans14 : ∀ (a b c : List Int), txt a b < 0 → txt b c < 0 → txt a c < 0
 | [], [], c, h, _ => by simp [txt] at h
 | [], _ :: _, [], _, h => by simp [txt] at h
 | [], _ :: _, _ :: _, _, _ => by simp [txt]
 | _ :: _, [], _, h, _ => by simp [txt] at h
 | _ :: _, _ :: _, [], _, h => by simp [txt] at h
 | x :: xs, y :: ys, z :: zs, h, h' => by
  have ih := txt_trans14 xs ys zs
  rw [txt] at h h' ⊢
  by_cases h1 : x < z
  · rw [if_pos h1]; omega
  · rw [if_neg h1]
    by_cases h2 : z < x
    · exfalso
      by_cases h3 : x < y
      · rw [if_neg (by omega), if_pos (by omega)] at h'; omega
      · by_cases h4 : y < x
        · rw [if_neg h3, if_pos h4] at h; omega
        · rw [if_neg (by omega), if_pos (by omega)] at h'; omega
    · rw [if_neg h2]
      by_cases h3 : x < y
      · rw [if_neg (by omega), if_pos (by omega)] at h'; omega
      · by_cases h4 : y < x
        · rw [if_neg h3, if_pos h4] at h; omega
        · rw [if_neg h3, if_neg h4] at h
          rw [if_neg (by omega), if_neg (by omega)] at h'
          exact ih h h'
theorem txt_zero14 : ∀ (a b : List Int), txt a b = 0 → a = b
 | [], [], _ => rfl
 | [], _ :: _, h => by simp [txt] at h
 | _ :: _, [], h => by simp [txt] at h
 | x :: xs, y :: ys, h => by
  rw [txt] at h
  by_cases h1 : x < y
  · rw [if_pos h1] at h; omega
  · by_cases h2 : y < x
    · rw [if_neg h1, if_pos h2] at h; omega
    · rw [if_neg h1, if_neg h2] at h
      rw [txt_zero14 xs ys h, show x = y by omega]
theorem okM_I {a : Im} (h : okM a = true) : okI a.K a.N a.F a.Z.length = true := by
 unfold okM okK at h
 rw [Bool.and_eq_true] at h
 exact h.1
theorem cmpM_of {a b : Im} (ha : okM a = true) (hb : okM b = true) : cmpM a b = if a.K ≠ b.K then (if a.K < b.K then -1 else 1) else if a.N ≠ b.N then (if a.N < b.N then -1 else 1) else if cmp3 (frank a.F) (frank b.F) ≠ 0 then cmp3 (frank a.F) (frank b.F) else txt a.Z b.Z := by
 unfold cmpM cmpI
 rw [if_neg (by rw [okM_I ha, okM_I hb]; simp)]
section
variable {a b c : Im} (ha : okM a = true) (hb : okM b = true) (hc : okM c = true)
include ha hb
theorem cmpM_anti : cmpM b a = - cmpM a b := by
 rw [cmpM_of ha hb, cmpM_of hb ha, txt_anti14 a.Z b.Z]
 unfold cmp3
 generalize txt a.Z b.Z = t
 generalize frank a.F = r
 generalize frank b.F = s
 repeat' split
 all_goals omega
include hc
theorem cmpM_trans (h : cmpM a b < 0) (k : cmpM b c < 0) : cmpM a c < 0 := by
 have t1 := txt_trans14 a.Z b.Z c.Z
 rw [cmpM_of ha hb] at h
 rw [cmpM_of hb hc] at k
 rw [cmpM_of ha hc]
 unfold cmp3 at *
 generalize txt a.Z b.Z = t at *
 generalize txt b.Z c.Z = u at *
 generalize txt a.Z c.Z = v at *
 generalize frank a.F = r at *
 generalize frank b.F = s at *
 generalize frank c.F = q at *
 by_cases e1 : a.K = b.K
 · by_cases e2 : b.K = c.K
   · rw [if_neg (by omega)] at h k ⊢
     by_cases e3 : a.N = b.N
     · by_cases e4 : b.N = c.N
       · rw [if_neg (by omega)] at h k ⊢
         by_cases e5 : r = s
         · by_cases e6 : s = q
           · subst e5 e6
             simp only [Nat.lt_irrefl, if_false, ne_eq, not_true] at h k ⊢
             exact t1 h k
           · subst e5
             repeat' split
             all_goals repeat' split at h
             all_goals repeat' split at k
             all_goals omega
         · repeat' split
           all_goals repeat' split at h
           all_goals repeat' split at k
           all_goals omega
       · rw [if_pos e4] at k
         rw [if_neg (by omega)] at h
         rw [if_pos (by omega)]
         split at k
         · rw [if_pos (by omega)]; omega
         · omega
     · rw [if_pos e3] at h
       split at h
       · by_cases e4 : b.N = c.N
         · rw [if_pos (by omega), if_pos (by omega)]; omega
         · rw [if_pos e4] at k
           split at k
           · rw [if_pos (by omega), if_pos (by omega)]; omega
           · omega
       · omega
   · rw [if_pos e2] at k
     split at k
     · rw [if_pos (by omega), if_pos (by omega)]; omega
     · omega
 · rw [if_pos e1] at h
   split at h
   · by_cases e2 : b.K = c.K
     · rw [if_pos (by omega), if_pos (by omega)]; omega
     · rw [if_pos e2] at k
       split at k
       · rw [if_pos (by omega), if_pos (by omega)]; omega
       · omega
   · omega
theorem cmpM_eq (h : cmpM a b = 0) : cmpM a c = cmpM b c := by
 rw [cmpM_of ha hb] at h
 rw [cmpM_of ha hc, cmpM_of hb hc]
 have q : a.K = b.K ∧ a.N = b.N ∧ frank a.F = frank b.F ∧ txt a.Z b.Z = 0 := by
  unfold cmp3 at h
  generalize txt a.Z b.Z = t at *
  generalize frank a.F = r at *
  generalize frank b.F = s at *
  by_cases e1 : a.K = b.K
  · rw [if_neg (by omega)] at h
    by_cases e2 : a.N = b.N
    · rw [if_neg (by omega)] at h
      refine ⟨e1, e2, ?_⟩
      repeat' split at h
      all_goals omega
    · rw [if_pos e2] at h
      split at h <;> omega
  · rw [if_pos e1] at h
    split at h <;> omega
 obtain ⟨q1, q2, q3, q4⟩ := q
 rw [q1, q2, q3, txt_zero14 _ _ q4]
theorem cmpM_lt_le (h : cmpM a b < 0) (k : cmpM b c ≤ 0) : cmpM a c < 0 := by
 by_cases e : cmpM b c = 0
 · have h1 := cmpM_eq hb hc ha e
   rw [cmpM_anti ha hb, cmpM_anti ha hc] at h1
   omega
 · exact cmpM_trans ha hb hc h (by omega)
theorem cmpM_le_lt (h : cmpM a b ≤ 0) (k : cmpM b c < 0) : cmpM a c < 0 := by
 by_cases e : cmpM a b = 0
 · rw [cmpM_eq ha hb hc e]; exact k
 · exact cmpM_trans ha hb hc (by omega) k
theorem cmpM_le_trans (h : cmpM a b ≤ 0) (k : cmpM b c ≤ 0) : cmpM a c ≤ 0 := by
 by_cases e : cmpM a b = 0
 · rw [cmpM_eq ha hb hc e]; exact k
 · have := cmpM_lt_le ha hb hc (by omega) k; omega
end
theorem cmpM_self {a : Im} (ha : okM a = true) : cmpM a a = 0 := by have := cmpM_anti ha ha; omega
theorem inM_iff {p : Im × Im} {x : Im} (h1 : okM p.1 = true) (h2 : okM p.2 = true) (hx : okM x = true) : inM p x = decide (cmpM p.1 x ≤ 0 ∧ cmpM x p.2 ≤ 0) := by
 unfold inM inSp
 rw [show okK p.1.K p.1.N p.1.F p.1.Z.length = true from h1, show okK p.2.K p.2.N p.2.F p.2.Z.length = true from h2, show okK x.K x.N x.F x.Z.length = true from hx]
 show (true && true && true && decide (cmpM p.1 x ≤ 0) && decide (cmpM x p.2 ≤ 0)) = _
 rw [Bool.eq_iff_iff]
 simp
theorem spB_ok {p : Im × Im} (h : spB p = true) : okM p.1 = true ∧ okM p.2 = true ∧ cmpM p.1 p.2 ≤ 0 := by
 unfold spB at h
 rw [Bool.and_eq_true, Bool.and_eq_true, decide_eq_true_iff] at h
 exact h
end Go.Proofs.YtjcjoabblafboaaGreat
/- The program's ItemOk and ItemCompare once more, with the word that they only draw and make memory; slices.SortFunc over a row of keys. Conditions: texts of at most 2^21 bytes. -/



namespace Go.Proofs.YtjcjoabblafboaaGreat
open Go.RowKit Go.Lib Go.Sort
set_option maxRecDepth 100000
structure Gw (w w' : World) : Prop where
 b : Below w.heap.size w w'
 d : w.drawn ≤ w'.drawn
theorem Gw.refl (w : World) : Gw w w := ⟨Below.refl _ _, Nat.le_refl _⟩
theorem Gw.trans {a b c : World} (h : Gw a b) (k : Gw b c) : Gw a c := ⟨h.b.trans (k.b.mono h.b.size), Nat.le_trans h.d k.d⟩
theorem Gw.alloc {a w : World} (h : Gw a w) (o : Obj) : Gw a (w.alloc o) := ⟨h.b.alloc h.b.size o, h.d⟩
theorem Gw.drew {a w : World} (h : Gw a w) : Gw a w.drew := ⟨h.b.drew, Nat.le_succ_of_le h.d⟩
theorem world_eq {u v : World} (h1 : u.heap = v.heap) (h2 : u.tape = v.tape) (h3 : u.drawn = v.drawn) (h4 : u.os = v.os) (h5 : u.output = v.output) : u = v := by
 cases u; cases v; simp_all
theorem Gw.grow {w w' : World} (h : Gw w w') : ∃ q os, w' = Go.Sort.grow (w.drewN q) os := by
 refine ⟨w'.drawn - w.drawn, w'.heap.extract w.heap.size w'.heap.size, world_eq ?_ h.b.tape ?_ h.b.os h.b.output⟩
 · show w'.heap = w.heap ++ w'.heap.extract w.heap.size w'.heap.size
   apply Array.ext_getElem?
   intro i
   by_cases hi : i < w.heap.size
   · rw [Array.getElem?_append_left hi, h.b.block i hi]
   · rw [Array.getElem?_append_right (by omega), Array.getElem?_extract]
     have := h.b.size
     by_cases h2 : i < w'.heap.size
     · rw [if_pos (by omega), show w.heap.size + (i - w.heap.size) = i by omega]
     · rw [if_neg (by omega), Array.getElem?_eq_none (by omega)]
 · have := h.d
   show w'.drawn = w.drawn + (w'.drawn - w.drawn)
   omega
set_option maxRecDepth 100000 in
set_option maxHeartbeats 1600000 in
theorem impl_ItemOk_g (K N : Int) (f : Nat) (ad : Option Addr) (n cap : Nat) (hf : f < 18446744073709551616) (hn : n ≤ 2097152) (w : World) :
 Calls Tryz.prog 123 #[.agg #[.int .i64 K, .int .i64 N, .float .f64 f, .slice ad n cap]] w fun e w' => e = .returned (.bool (okI K N f n)) ∧ Gw w w' := by
 have hA : Gw w (w.alloc (.cells #[.int .i64 K, .int .i64 N, .float .f64 f, .slice ad n cap] 72)) := (Gw.refl _).alloc _
 have HA := hid hA
 clear hA
 by_cases h1 : K < 0
 · rw [show okI K N f n = false from decide_eq_false (by omega)]
   go_enter Tryz.func123, Tryz.ntmps123
   go_wp2
   go_ret
   exact ⟨rfl, HA.out⟩
 by_cases h2 : 3 < K
 · rw [show okI K N f n = false from decide_eq_false (by omega)]
   go_enter Tryz.func123, Tryz.ntmps123
   go_wp2
   go_ret
   exact ⟨rfl, HA.out⟩
 by_cases h3 : 40 < n
 · rw [show okI K N f n = false from decide_eq_false (by omega)]
   have h3' : (40 : Int) < (n : Int) := by omega
   go_enter Tryz.func123, Tryz.ntmps123
   go_wp2
   go_ret
   exact ⟨rfl, HA.out⟩
 have h3' : ¬ (40 : Int) < (n : Int) := by omega
 by_cases h4 : K ≠ 1 ∧ N ≠ 0
 · rw [show okI K N f n = false from decide_eq_false (by omega)]
   have q1 : (K == 1) = false := by simp [h4.1]
   have q2 : (N == 0) = false := by simp [h4.2]
   go_enter Tryz.func123, Tryz.ntmps123
   go_wp2
   go_ret
   exact ⟨rfl, HA.out⟩
 by_cases h5 : K = 1
 · subst h5
   by_cases h6 : f = 0
   · subst h6
     have hz : fbits 0 = 0 := by decide
     by_cases h7 : n = 0
     · subst h7
       rw [show okI 1 N 0 0 = true from decide_eq_true (by omega)]
       go_enter Tryz.func123, Tryz.ntmps123
       go_wp2_with fail
       refine (impl_FloatBits 0 hf _).mono ?_
       rintro e w1 ⟨rfl, rfl⟩
       rw [hz]
       go_wp2_with fail
       go_ret
       exact ⟨rfl, HA.out⟩
     · rw [show okI 1 N 0 n = false from decide_eq_false (by omega)]
       have q7 : ((n : Int) == 0) = false := beq_eq_false_iff_ne.2 (by omega)
       go_enter Tryz.func123, Tryz.ntmps123
       go_wp2_with fail
       refine (impl_FloatBits 0 hf _).mono ?_
       rintro e w1 ⟨rfl, rfl⟩
       rw [hz]
       go_wp2_with fail
       go_ret
       exact ⟨rfl, HA.out⟩
   · rw [show okI 1 N f n = false from decide_eq_false (by omega)]
     have q6 : ((fbits f : Int) == 0) = false := by have := fbits_ne f h6; simpa using this
     go_enter Tryz.func123, Tryz.ntmps123
     go_wp2_with fail
     refine (impl_FloatBits f hf _).mono ?_
     rintro e w1 ⟨rfl, rfl⟩
     go_wp2_with fail
     go_ret
     exact ⟨rfl, HA.out⟩
 have h8 : N = 0 := by omega
 subst h8
 have q1 : (K == 1) = false := by simp [h5]
 by_cases h9 : K = 2
 · subst h9
   by_cases h7 : n = 0
   · subst h7
     rw [show okI 2 0 f 0 = true from decide_eq_true (by omega)]
     go_enter Tryz.func123, Tryz.ntmps123
     go_wp2
     go_ret
     exact ⟨rfl, HA.out⟩
   · rw [show okI 2 0 f n = false from decide_eq_false (by omega)]
     have q7 : ((n : Int) == 0) = false := beq_eq_false_iff_ne.2 (by omega)
     go_enter Tryz.func123, Tryz.ntmps123
     go_wp2
     go_ret
     exact ⟨rfl, HA.out⟩
 have q9 : (K == 2) = false := by simp [h9]
 by_cases h6 : f = 0
 · subst h6
   have hz : fbits 0 = 0 := by decide
   by_cases h7 : K = 3
   · subst h7
     rw [show okI 3 0 0 n = true from decide_eq_true (by omega)]
     go_enter Tryz.func123, Tryz.ntmps123
     go_wp2_with fail
     refine (impl_FloatBits 0 hf _).mono ?_
     rintro e w1 ⟨rfl, rfl⟩
     rw [hz]
     go_wp2_with fail
     go_ret
     exact ⟨rfl, HA.out⟩
   · have h10 : K = 0 := by omega
     subst h10
     by_cases h7 : n = 0
     · subst h7
       rw [show okI 0 0 0 0 = true from decide_eq_true (by omega)]
       go_enter Tryz.func123, Tryz.ntmps123
       go_wp2_with fail
       refine (impl_FloatBits 0 hf _).mono ?_
       rintro e w1 ⟨rfl, rfl⟩
       rw [hz]
       go_wp2_with fail
       go_ret
       exact ⟨rfl, HA.out⟩
     · rw [show okI 0 0 0 n = false from decide_eq_false (by omega)]
       have q7 : ((n : Int) == 0) = false := beq_eq_false_iff_ne.2 (by omega)
       go_enter Tryz.func123, Tryz.ntmps123
       go_wp2_with fail
       refine (impl_FloatBits 0 hf _).mono ?_
       rintro e w1 ⟨rfl, rfl⟩
       rw [hz]
       go_wp2_with fail
       go_ret
       exact ⟨rfl, HA.out⟩
 · rw [show okI K 0 f n = false from decide_eq_false (by omega)]
   have q6 : ((fbits f : Int) == 0) = false := by have := fbits_ne f h6; simpa using this
   go_enter Tryz.func123, Tryz.ntmps123
   go_wp2_with fail
   refine (impl_FloatBits f hf _).mono ?_
   rintro e w1 ⟨rfl, rfl⟩
   go_wp2_with fail
   go_ret
   exact ⟨rfl, HA.out⟩
set_option maxRecDepth 100000 in
set_option maxHeartbeats 3200000 in
theorem impl_ItemCompare_g (K N K' N' : Int) (f f' : Nat) {ad ad' : Option Addr} {n n' : Nat} (cap cap' : Nat) {zs zs' : List Int} {w : World} (hf : f < 18446744073709551616) (hf' : f' < 18446744073709551616)
 (h : Reads w ad n zs) (h' : Reads w ad' n' zs') (hn : n ≤ 2097152) (hn' : n' ≤ 2097152) :
 Calls Tryz.prog 73 #[.agg #[.int .i64 K, .int .i64 N, .float .f64 f, .slice ad n cap], .agg #[.int .i64 K', .int .i64 N', .float .f64 f', .slice ad' n' cap']] w fun e w' => e = .returned (.int .i64 (cmpI K N f n zs K' N' f' n' zs')) ∧ Gw w w' := by
 have hG := hid ((((Gw.refl w).alloc (.cells #[.int .i64 K, .int .i64 N, .float .f64 f, .slice ad n cap] 72)).alloc (.cells #[.int .i64 K', .int .i64 N', .float .f64 f', .slice ad' n' cap'] 72)))
 have hB := two w (.cells #[.int .i64 K, .int .i64 N, .float .f64 f, .slice ad n cap] 72) (.cells #[.int .i64 K', .int .i64 N', .float .f64 f', .slice ad' n' cap'] 72)
 have z1 := alloc_size w (.cells #[.int .i64 K, .int .i64 N, .float .f64 f, .slice ad n cap] 72)
 have z2 := alloc_size (w.alloc (.cells #[.int .i64 K, .int .i64 N, .float .f64 f, .slice ad n cap] 72)) (.cells #[.int .i64 K', .int .i64 N', .float .f64 f', .slice ad' n' cap'] 72)
 have x1 := (Box.new w K N f ad n cap 72).below ((Below.refl (w.heap.size + 1) _).alloc (by omega) (.cells #[.int .i64 K', .int .i64 N', .float .f64 f', .slice ad' n' cap'] 72)) (by omega)
 have x2 := Box.new (w.alloc (.cells #[.int .i64 K, .int .i64 N, .float .f64 f, .slice ad n cap] 72)) K' N' f' ad' n' cap' 72
 rw [z1] at x2 z2
 have H1 := h.below hB (Nat.le_refl _)
 have H2 := h'.below hB (Nat.le_refl _)
 have e1 := impl_ItemOk_g K N f ad n cap hf hn
 have e2 := impl_ItemOk_g K' N' f' ad' n' cap' hf' hn'
 by_cases o1 : okI K N f n = false
 · rw [show cmpI K N f n zs K' N' f' n' zs' = -2 by rw [cmpI, if_pos (.inl o1)]]
   rw [o1] at e1
   go_enter Tryz.func73, Tryz.ntmps73
   go_wp2_with fail
   refine (e1 _).mono ?_
   rintro e w1 ⟨rfl, v1⟩
   have BB := hid (hG.out.trans v1)
   clear hB v1 H1 H2 x1 x2 z1 z2
   go_wp2_with fail
   go_ret
   exact ⟨rfl, BB.out⟩
 have o1' : okI K N f n = true := by simpa using o1
 rw [o1'] at e1
 by_cases o2 : okI K' N' f' n' = false
 · rw [show cmpI K N f n zs K' N' f' n' zs' = -2 by rw [cmpI, if_pos (.inr o2)]]
   rw [o2] at e2
   go_enter Tryz.func73, Tryz.ntmps73
   go_wp2_with fail
   refine (e1 _).mono ?_
   rintro e w1 ⟨rfl, v1⟩
   have b1 := v1.b
   have B1 := hid (hG.out.trans v1)
   clear v1
   have y2 := x2.below b1 (by omega)
   obtain ⟨d0, d1, d2, d3⟩ := y2
   clear hB b1 H1 H2 x1 x2 z1 z2
   go_wp2_with fail
   clear d0 d1 d2 d3
   refine (e2 _).mono ?_
   rintro e w2 ⟨rfl, v2⟩
   have BB := hid (B1.out.trans v2)
   clear v2 B1
   go_wp2_with fail
   go_ret
   exact ⟨rfl, BB.out⟩
 have o2' : okI K' N' f' n' = true := by simpa using o2
 rw [o2'] at e2
 rw [← or_cmp K N K' N' f f' n n' zs zs' o1' o2']
 clear o1 o2 o1' o2'
 go_enter Tryz.func73, Tryz.ntmps73
 go_wp2_with fail
 refine (e1 _).mono ?_
 rintro e w1 ⟨rfl, v1⟩
 have b1 := v1.b
 have B1 := hid (hG.out.trans v1)
 clear v1
 have y1 := x1.below b1 (by omega)
 have y2 := x2.below b1 (by omega)
 have zz := b1.size
 have h1 := H1.below b1 (Nat.le_refl _)
 have h2 := H2.below b1 (Nat.le_refl _)
 obtain ⟨d0, d1, d2, d3⟩ := y2
 have Y1 := hid y1
 have Y2 := hid (x2.below b1 (by omega))
 have ZZ := hid (show w.heap.size + 1 < w1.heap.size by omega)
 clear hB b1 H1 H2 x1 x2 z1 z2 y1 zz
 go_wp2_with fail
 clear d0 d1 d2 d3
 refine (e2 _).mono ?_
 rintro e w2 ⟨rfl, v2⟩
 have b2 := v2.b
 have BB := B1.out.trans v2
 clear v2
 have h3 := h1.below b2 (Nat.le_refl _)
 have h4 := h2.below b2 (Nat.le_refl _)
 have z := ZZ.out
 obtain ⟨c0, c1, c2, c3⟩ := Y1.out.below b2 (by omega)
 obtain ⟨d0, d1, d2, d3⟩ := Y2.out.below b2 (by omega)
 have ZB := b2.size
 have ZZ2 := hid (show w.heap.size + 1 < w2.heap.size by omega)
 have s1 : ∀ W, Below w2.heap.size w2 W → (convert 22 9 (.slice ad n cap)).run Tryz.prog W = .ok (.string (str zs)) W := fun W b => (h3.below b (Nat.le_refl _)).str cap 22 Tryz.underlying22 Tryz.underlying5 Tryz.underlying9
 have s2 : ∀ W, Below w2.heap.size w2 W → (convert 22 9 (.slice ad' n' cap')).run Tryz.prog W = .ok (.string (str zs')) W := fun W b => (h4.below b (Nat.le_refl _)).str cap' 22 Tryz.underlying22 Tryz.underlying5 Tryz.underlying9
 have S1 := hid s1
 have S2 := hid s2
 clear s1 s2
 have D1 : Below w2.heap.size w2 w2.drew := (Still.drewN w2 1).below w2.heap.size
 have HD := hid D1
 clear D1
 have i1 : inB zs := h.bd
 have i2 : inB zs' := h'.bd
 have HB := hid BB
 clear b2 B1 h1 h2 z ZB BB Y1 Y2 ZZ h3 h4 h h'
 go_wp2_with fail
 go_region_held3 (fun W => (W.cell? ⟨w.heap.size, 0, none⟩ = some (.int .i64 K) ∧ W.cell? ⟨w.heap.size, 1, none⟩ = some (.int .i64 N) ∧ W.cell? ⟨w.heap.size, 2, none⟩ = some (.float .f64 f) ∧ W.cell? ⟨w.heap.size, 3, none⟩ = some (.slice ad n cap)) ∧ W.cell? ⟨w.heap.size + 1, 0, none⟩ = some (.int .i64 K') ∧ W.cell? ⟨w.heap.size + 1, 1, none⟩ = some (.int .i64 N') ∧ W.cell? ⟨w.heap.size + 1, 2, none⟩ = some (.float .f64 f') ∧ W.cell? ⟨w.heap.size + 1, 3, none⟩ = some (.slice ad' n' cap') ∧ (convert 22 9 (.slice ad n cap)).run Tryz.prog W = .ok (.string (str zs)) W ∧ (convert 22 9 (.slice ad' n' cap')).run Tryz.prog W = .ok (.string (str zs')) W)
  (first
   | exact ⟨⟨by simpa using c0, by simpa using c1, by simpa using c2, by simpa using c3⟩, by simpa using d0, by simpa using d1, by simpa using d2, by simpa using d3, S1.out _ (by first | exact Below.refl _ _ | exact HD.out | exact (Still.drewN w2 _).below _), S2.out _ (by first | exact Below.refl _ _ | exact HD.out | exact (Still.drewN w2 _).below _)⟩
   | exact ⟨⟨cell_oldx _ (by simpa using c0), cell_oldx _ (by simpa using c1), cell_oldx _ (by simpa using c2), cell_oldx _ (by simpa using c3)⟩, cell_oldx _ (by simpa using d0), cell_oldx _ (by simpa using d1), cell_oldx _ (by simpa using d2), cell_oldx _ (by simpa using d3), S1.out _ (by first | exact HD.out.alloc (Nat.le_refl _) _ | exact (Below.refl _ _).alloc (Nat.le_refl _) _), S2.out _ (by first | exact HD.out.alloc (Nat.le_refl _) _ | exact (Below.refl _ _).alloc (Nat.le_refl _) _)⟩)
  (first
  | (go_at_call 91; refine (impl_ordInt _ _ _).mono ?_; rintro e w3 ⟨rfl, rfl⟩)
  | (go_at_call 124; refine (impl_FloatCompare _ _ hf hf' _).mono ?_; rintro e w3 ⟨rfl, rfl⟩)
  | (go_at_call 125; refine (impl_ordStr _ _ i1 i2 _).mono ?_; rintro e w3 ⟨rfl, rfl⟩)
  | (go_at_call 90; refine (cmp_or (ci K K') (ci N N') (cmp3 (frank f) (frank f')) (txt zs zs') w2.heap.size _ (new4 w2.drew _ _ _ _ 3).1 (new4 w2.drew _ _ _ _ 3).2.1 (new4 w2.drew _ _ _ _ 3).2.2.1 (new4 w2.drew _ _ _ _ 3).2.2.2).mono ?_; rintro e w3 ⟨rfl, rfl⟩))
 go_wp2_with fail
 go_ret
 have := ZZ2.out
 first | exact ⟨rfl, (HB.out.drew).alloc _⟩ | exact ⟨rfl, (HB.out.alloc _).drew⟩
structure Qi where
 e : Im
 a : Option Addr
 c : Nat
def qi0 : Qi := ⟨im0, none, 0⟩
instance : Inhabited Qi := ⟨qi0⟩
def encQ (q : Qi) : List Value := [.int .i64 q.e.K, .int .i64 q.e.N, .float .f64 q.e.F, .slice q.a q.e.Z.length q.c]
structure GoodQ (w : World) (blk : Nat) (q : Qi) : Prop where
 rd : Reads w q.a q.e.Z.length q.e.Z
 ne : ∀ a, q.a = some a → q.e.Z.length ≠ 0 → a.block ≠ blk
 fl : q.e.F < 18446744073709551616
 ok : okM q.e = true
theorem okM_len {e : Im} (h : okM e = true) : e.Z.length ≤ 40 := by
 have := okM_I h
 unfold okI at this
 rw [decide_eq_true_iff] at this
 exact this.2.2.1
end Go.Proofs.YtjcjoabblafboaaGreat
/- slices.SortFunc over rows of keys and of spans. Conditions: texts of at most 2^21 bytes. -/


namespace Go.Proofs.YtjcjoabblafboaaGreat
open Go.RowKit Go.Lib Go.Sort
set_option maxRecDepth 100000
theorem sortOwnP {β : Type} {ρ : Go.Shelf.Ren} (L : SlLaysF0.n6 Tryz.prog ρ) (k : Nat) (aE : ∀ w, (isAgg (ρ.t 24)).run Tryz.prog w = .ok true w) (zE : ∀ w, (Go.sizeOf (ρ.t 24)).run Tryz.prog w = .ok k w) (enc : β → List Value) (hk : ∀ x, (enc x).length = k) (h1 : ∀ x, ∀ v ∈ enc x, v.oneCell' = true) (cf : β → β → Int) (P : β → Prop)
 (irr : ∀ x, P x → ¬ cf x x < 0) (tr : ∀ x y z, P x → P y → P z → cf x y < 0 → cf y z < 0 → cf x z < 0) (nt : ∀ x y z, P x → P y → P z → ¬ cf x y < 0 → ¬ cf y z < 0 → ¬ cf x z < 0) (g : Nat) (cb : Array Value)
 {base : Nat} {T : TypeId} {a : Option Addr} {cap n : Nat} (l : List β) (hn : l.length = n) (hP : ∀ x ∈ l, P x) (w : World) (own : w.ownsRow base T k (.slice a n cap) n (l.flatMap enc)) (eg : ∀ args w, (callFunc g args).run Tryz.prog w = .ok (.enter g args) w)
 (hcmp : ∀ blk, a = some ⟨blk, 0, none⟩ → ∀ W, w.grownBy W (some blk) → ∀ x y, P x → P y → Calls Tryz.prog g (#[.agg (enc x).toArray, .agg (enc y).toArray] ++ cb) W fun e w' => e = .returned (.int .i64 (cf x y)) ∧ Gw W w') (hsz : n < 4611686018427387904) :
 Calls Tryz.prog (ρ.f 6) #[.slice a n cap, .func (.func g) #[] cb] w fun e w' => e = .returned (.tuple #[]) ∧ ∃ l' : List β, l'.Perm l ∧ l'.Pairwise (fun x y => ¬ cf y x < 0) ∧ w'.ownsRow base T k (.slice a n cap) n (l'.flatMap enc) ∧ w.grownBy w' (Value.ownBlock (.slice a n cap)) := by
 match l, hn, hP, own with
 | [], hn, _, own =>
  subst hn
  refine (AnyF.slices_SortFunc_none L a cap _ w).mono ?_
  rintro e w' ⟨he, rfl⟩
  exact ⟨he, [], List.Perm.refl _, List.Pairwise.nil, own, ⟨rfl, rfl, rfl, Nat.le_refl _, fun _ _ _ => rfl⟩⟩
 | x0 :: r, hn, hP, own =>
  have hpos : 0 < n := by rw [← hn]; simp
  obtain ⟨blk, rfl⟩ : ∃ blk, a = some ⟨blk, 0, none⟩ := by
   rcases own.2 with ⟨_, h0⟩ | ⟨g', cap', cur, e, _⟩
   · omega
   · obtain ⟨e1, -, -⟩ := Value.slice.inj e
     exact ⟨g', e1⟩
  let S := { x : β // P x }
  haveI : Inhabited S := ⟨⟨x0, hP x0 (by simp)⟩⟩
  have hmap : ((x0 :: r).attachWith P hP).map Subtype.val = x0 :: r := List.attachWith_map_subtype_val _
  have hfl : ∀ m : List S, m.flatMap (fun x => enc x.1) = (m.map Subtype.val).flatMap enc := fun m => by rw [List.flatMap_map]
  have hcon := sortOwn (α := S) L k aE zE (fun x => enc x.1) (fun x => hk x.1) (fun x => h1 x.1) (fun x y => cf x.1 y.1)
   ⟨fun x => by unfold ltOf; exact decide_eq_false (irr x.1 x.2), fun x y z h h' => by unfold ltOf at *; rw [decide_eq_true_iff] at *; exact tr _ _ _ x.2 y.2 z.2 h h', fun x y z h h' => by unfold ltOf at *; rw [decide_eq_false_iff_not] at *; exact nt _ _ _ x.2 y.2 z.2 h h'⟩
   g cb (base := base) (T := T) (blk := blk) (cap := cap) (n := n) ((x0 :: r).attachWith P hP) (by rw [List.length_attachWith]; exact hn) w (by rw [hfl, hmap]; exact own) eg
   (fun m os dk _ x y => (hcmp blk rfl _ (sortWorld_grown) x.1 y.1 x.2 y.2).mono (fun e w' h => ⟨h.1, h.2.grow⟩)) hsz
  refine hcon.mono ?_
  rintro e w' ⟨he, l', hp, hs, ho, hg⟩
  refine ⟨he, l'.map Subtype.val, ?_, ?_, by rw [← hfl]; exact ho, hg⟩
  · have := hp.map Subtype.val
    rwa [hmap] at this
  · rw [List.pairwise_map]
    exact hs
theorem reads_grown {w w' : World} {ad : Option Addr} {n : Nat} {zs : List Int} {blk : Nat} (h : Reads w ad n zs) (hg : w.grownBy w' (some blk)) (hne : ∀ a, ad = some a → n ≠ 0 → a.block ≠ blk) : Reads w' ad n zs := by
 refine ⟨h.len, ?_, h.bd⟩
 rcases h.cells with h0 | ⟨b, off, rfl, hc⟩
 · exact .inl h0
 · by_cases hn : n = 0
   · exact .inl hn
   · refine .inr ⟨b, off, rfl, fun i hi => ?_⟩
     exact hg.cell (hc i hi) (fun e => hne _ rfl hn (by injection e))
theorem GoodQ.grown {w w' : World} {blk : Nat} {q : Qi} (h : GoodQ w blk q) (hg : w.grownBy w' (some blk)) : GoodQ w' blk q := ⟨reads_grown h.rd hg h.ne, h.ne, h.fl, h.ok⟩
theorem encQ_len (q : Qi) : (encQ q).length = 4 := rfl
theorem encQ_one (q : Qi) : ∀ v ∈ encQ q, v.oneCell' = true := by
 intro v hv
 simp only [encQ, List.mem_cons, List.not_mem_nil, or_false] at hv
 rcases hv with rfl | rfl | rfl | rfl <;> rfl
theorem cmp_nt {a b c : Im} (ha : okM a = true) (hb : okM b = true) (hc : okM c = true) (h : ¬ cmpM a b < 0) (k : ¬ cmpM b c < 0) : ¬ cmpM a c < 0 := by
 have h1 := cmpM_anti ha hb
 have h2 := cmpM_anti hb hc
 have h3 := cmpM_anti ha hc
 have := cmpM_le_trans hc hb ha (by omega) (by omega)
 omega
theorem sort_items {base : Nat} {a : Option Addr} {cap n : Nat} (l : List Qi) (hn : l.length = n) (w : World) (own : w.ownsRow base 72 4 (.slice a n cap) n (l.flatMap encQ)) (hg : ∀ blk, a = some ⟨blk, 0, none⟩ → ∀ q ∈ l, GoodQ w blk q) (hok : ∀ q ∈ l, okM q.e = true) (hsz : n ≤ 2097152) :
 Calls Tryz.prog 143 #[.slice a n cap, .func (.func 73) #[] #[]] w fun e w' => e = .returned (.tuple #[]) ∧ ∃ l' : List Qi, l'.Perm l ∧ l'.Pairwise (fun x y => cmpM x.e y.e ≤ 0) ∧ w'.ownsRow base 72 4 (.slice a n cap) n (l'.flatMap encQ) ∧ w.grownBy w' (Value.ownBlock (.slice a n cap)) := by
 have eg : ∀ args w, (callFunc 73 args).run Tryz.prog w = .ok (.enter 73 args) w := enters_of Tryz.func73 (by kernel_rfl) rfl
 have hcon := sortOwnP sortItems 4 (fun w => Tryz.isAgg72 w) (fun w => Tryz.sizeOf72 w) encQ encQ_len encQ_one (fun x y => cmpM x.e y.e) (fun q => okM q.e = true ∧ ∀ blk, a = some ⟨blk, 0, none⟩ → GoodQ w blk q)
  (fun x hx => by rw [cmpM_self hx.1]; omega) (fun x y z hx hy hz => cmpM_trans hx.1 hy.1 hz.1) (fun x y z hx hy hz => cmp_nt hx.1 hy.1 hz.1) 73 #[] l hn (fun x hx => ⟨hok x hx, fun blk e => hg blk e x hx⟩) w own eg
  (fun blk e W hW x y hx hy => by
   have gx := (hx.2 blk e).grown hW
   have gy := (hy.2 blk e).grown hW
   exact impl_ItemCompare_g x.e.K x.e.N y.e.K y.e.N x.e.F y.e.F x.c y.c gx.fl gy.fl gx.rd gy.rd (by have := okM_len hx.1; omega) (by have := okM_len hy.1; omega)) (by omega)
 refine hcon.mono ?_
 rintro e w' ⟨he, l', hp, hs, ho, hgr⟩
 refine ⟨he, l', hp, ?_, ho, hgr⟩
 refine List.Pairwise.imp_of_mem (fun {x y} hx hy h => ?_) hs
 have := cmpM_anti (hok x (hp.mem_iff.1 hx)) (hok y (hp.mem_iff.1 hy))
 omega
abbrev Qsp := Qi × Qi
def encS (s : Qsp) : List Value := encQ s.1 ++ encQ s.2
theorem encS_len (s : Qsp) : (encS s).length = 8 := rfl
theorem encS_one (s : Qsp) : ∀ v ∈ encS s, v.oneCell' = true := by
 intro v hv
 rcases List.mem_append.1 hv with h | h
 · exact encQ_one _ v h
 · exact encQ_one _ v h
set_option maxHeartbeats 1600000 in
theorem impl_byFrom (K1 N1 K2 N2 K3 N3 K4 N4 : Int) (F1 F2 F3 F4 : Nat) {p1 p3 : Option Addr} {m1 m3 : Nat} (d1 d3 : Nat) (y2 y4 : Value) {Z1 Z3 : List Int} {w : World} (q1 : Reads w p1 m1 Z1) (q3 : Reads w p3 m3 Z3) (hf1 : F1 < 18446744073709551616) (hf3 : F3 < 18446744073709551616) (hz1 : m1 ≤ 2097152) (hz3 : m3 ≤ 2097152) :
 Calls Tryz.prog 148 #[.agg #[.int .i64 K1, .int .i64 N1, .float .f64 F1, .slice p1 m1 d1, .int .i64 K2, .int .i64 N2, .float .f64 F2, y2], .agg #[.int .i64 K3, .int .i64 N3, .float .f64 F3, .slice p3 m3 d3, .int .i64 K4, .int .i64 N4, .float .f64 F4, y4]] w fun e w' => e = .returned (.int .i64 (cmpI K1 N1 F1 m1 Z1 K3 N3 F3 m3 Z3)) ∧ Gw w w' := by
 have hG := hid (((Gw.refl w).alloc (.cells #[.int .i64 K1, .int .i64 N1, .float .f64 F1, .slice p1 m1 d1, .int .i64 K2, .int .i64 N2, .float .f64 F2, y2] 74)).alloc (.cells #[.int .i64 K3, .int .i64 N3, .float .f64 F3, .slice p3 m3 d3, .int .i64 K4, .int .i64 N4, .float .f64 F4, y4] 74))
 have Q1 := hid (q1.below hG.out.b (Nat.le_refl _))
 have Q3 := hid (q3.below hG.out.b (Nat.le_refl _))
 clear q1 q3
 go_enter Tryz.func148, Tryz.ntmps148
 go_wp2_with fail
 refine (impl_ItemCompare_g K1 N1 K3 N3 F1 F3 d1 d3 hf1 hf3 Q1.out Q3.out hz1 hz3).mono ?_
 rintro e w1 ⟨rfl, v1⟩
 have HE := hid (hG.out.trans v1)
 clear v1
 go_wp2_with fail
 go_ret
 exact ⟨rfl, HE.out⟩
theorem sort_spans {base : Nat} {a : Option Addr} {cap n : Nat} (l : List Qsp) (hn : l.length = n) (w : World) (own : w.ownsRow base 74 8 (.slice a n cap) n (l.flatMap encS)) (hg : ∀ blk, a = some ⟨blk, 0, none⟩ → ∀ s ∈ l, GoodQ w blk s.1 ∧ GoodQ w blk s.2) (hok : ∀ s ∈ l, okM s.1.e = true) (hsz : n ≤ 2097152) :
 Calls Tryz.prog 147 #[.slice a n cap, .func (.func 148) #[] #[]] w fun e w' => e = .returned (.tuple #[]) ∧ ∃ l' : List Qsp, l'.Perm l ∧ l'.Pairwise (fun x y => cmpM x.1.e y.1.e ≤ 0) ∧ w'.ownsRow base 74 8 (.slice a n cap) n (l'.flatMap encS) ∧ w.grownBy w' (Value.ownBlock (.slice a n cap)) := by
 have eg : ∀ args w, (callFunc 148 args).run Tryz.prog w = .ok (.enter 148 args) w := enters_of Tryz.func148 (by kernel_rfl) rfl
 have hcon := sortOwnP sortSpans 8 (fun w => Tryz.isAgg74 w) (fun w => Tryz.sizeOf74 w) encS encS_len encS_one (fun x y => cmpM x.1.e y.1.e) (fun s => okM s.1.e = true ∧ ∀ blk, a = some ⟨blk, 0, none⟩ → GoodQ w blk s.1)
  (fun x hx => by rw [cmpM_self hx.1]; omega) (fun x y z hx hy hz => cmpM_trans hx.1 hy.1 hz.1) (fun x y z hx hy hz => cmp_nt hx.1 hy.1 hz.1) 148 #[] l hn (fun x hx => ⟨hok x hx, fun blk e => (hg blk e x hx).1⟩) w own eg
  (fun blk e W hW x y hx hy => by
   have gx := (hx.2 blk e).grown hW
   have gy := (hy.2 blk e).grown hW
   exact impl_byFrom x.1.e.K x.1.e.N x.2.e.K x.2.e.N y.1.e.K y.1.e.N y.2.e.K y.2.e.N x.1.e.F x.2.e.F y.1.e.F y.2.e.F x.1.c y.1.c (.slice x.2.a x.2.e.Z.length x.2.c) (.slice y.2.a y.2.e.Z.length y.2.c) gx.rd gy.rd gx.fl gy.fl (by have := okM_len hx.1; omega) (by have := okM_len hy.1; omega)) (by omega)
 refine hcon.mono ?_
 rintro e w' ⟨he, l', hp, hs, ho, hgr⟩
 refine ⟨he, l', hp, ?_, ho, hgr⟩
 refine List.Pairwise.imp_of_mem (fun {x y} hx hy h => ?_) hs
 have := cmpM_anti (hok x (hp.mem_iff.1 hx)) (hok y (hp.mem_iff.1 hy))
 omega
end Go.Proofs.YtjcjoabblafboaaGreat
/- slices.CompactFunc over a row of keys of the call's own. Conditions: at most 2^20 keys. -/



namespace Go.Proofs.YtjcjoabblafboaaGreat
open Go.RowKit
set_option maxRecDepth 100000
def fQ (l : List Qi) : List Value := l.flatMap encQ
theorem fQ_app (a b : List Qi) : fQ (a ++ b) = fQ a ++ fQ b := by simp [fQ]
theorem fQ_cons (q : Qi) (b : List Qi) : fQ (q :: b) = encQ q ++ fQ b := by simp [fQ]
theorem fQ_len (l : List Qi) : (fQ l).length = l.length * 4 := flat_len encQ 4 encQ_len l
theorem size_im14 : (Tryz.prog.info? 72).map (·.size) = some 4 := by kernel_rfl
theorem zeroIm14 (w : World) : (zeroValue 72).run Tryz.prog w = .ok (.agg #[.int .i64 0, .int .i64 0, .float .f64 0, .slice none 0 0]) w := by kernel_rfl
theorem Keeps.cells14 (g : Nat) : ∀ (vs : List Value) (o : Nat) (w : World), Keeps (fun b => b = g) w (w.setCells g o vs)
 | [], _, w => Keeps.refl _ w
 | v :: vs, o, w => (Keeps.set (X := fun b => b = g) w (p := ⟨g, o, none⟩) rfl v).trans (Keeps.cells14 g vs (o + 1) _)
theorem heapL14 (g : Nat) (t : TypeId) : ∀ (vs : List Value) (o : Nat) (w : World) (cs : List Value), o + vs.length ≤ cs.length → w.heap[g]? = some (.cells cs.toArray t) → (w.setCells g o vs).heap[g]? = some (.cells (cs.take o ++ vs ++ cs.drop (o + vs.length)).toArray t)
 | [], o, w, cs, _, h => by simpa [World.setCells] using h
 | v :: vs, o, w, cs, hl, h => by
  simp only [List.length_cons] at hl
  have h1 := heap_setCell_same w g o cs.toArray t v h
  rw [List.setIfInBounds_toArray] at h1
  have h2 := heapL14 g t vs (o + 1) _ (cs.set o v) (by rw [List.length_set]; omega) h1
  show (World.setCells _ g (o + 1) vs).heap[g]? = _
  rw [h2]
  congr 3
  rw [List.drop_set_of_lt (by omega), List.take_set, List.take_succ_eq_append_getElem (by omega), List.set_append_right _ _ (by rw [List.length_take]; omega)]
  rw [List.length_take, show o - min o cs.length = 0 by omega, List.set_cons_zero, List.append_assoc, List.append_assoc]
  simp only [List.cons_append, List.nil_append, List.append_assoc, List.length_cons]
  rw [show o + 1 + vs.length = o + (vs.length + 1) by omega]
theorem block14 {w : World} {g : Nat} {cs : List Value} {t : TypeId} (h : w.heap[g]? = some (.cells cs.toArray t)) (j : Nat) : w.cell? ⟨g, j, none⟩ = cs[j]? := by rw [cell_of_row _ _ _ _ _ _ h]; simp
theorem there14 {w : World} {g : Nat} {cs : List Value} {t : TypeId} (h : w.heap[g]? = some (.cells cs.toArray t)) {o n : Nat} (hn : o + n ≤ cs.length) : w.there g o n := fun j hj => ⟨by rw [block14 h, List.getElem?_eq_getElem (by omega)]; rfl, frozen_of_row _ _ _ _ _ h⟩
section
variable {P : Program}
theorem run_clear14 (w : World) (t e ty : TypeId) (z : Value) (ht : P.underlying t = some (.slice e)) (hv : ∀ w, (zeroValue e).run P w = .ok z w) (b o n c : Nat) (hn : 0 < n) (zs : List Value) (hz : (Builtin.zeroCells z.cells n).toList = zs) (h1 : ∀ v ∈ zs, v.oneCell' = true) (hth : w.there b o zs.length) :
 (Builtin.clear_ #[t] ty #[.slice (some ⟨b, o, none⟩) n c]).run P w = .ok (.tuple #[]) (w.setCells b o zs) := by
 have hst := run_storeCells_cells (P := P) b o zs 0 w (by simpa using fun j hj => (hth j hj).1) (by simpa using fun j hj => (hth j hj).2) h1
 simp only [Nat.add_zero] at hst
 obtain ⟨m, rfl⟩ : ∃ m, n = m + 1 := ⟨n - 1, by omega⟩
 simp [Builtin.clear_, run_underlying ht, hv, hz, hst]
end
theorem owns_blk {w : World} {lo g n c s : Nat} {t : TypeId} {xs : List Value} (o : w.ownsRow lo t s (.slice (some ⟨g, 0, none⟩) n c) n xs) : ∃ rest : List Value, w.heap[g]? = some (.cells (xs ++ rest).toArray t) ∧ (xs ++ rest).length = c * s ∧ n ≤ c ∧ c ≤ maxLen ∧ lo ≤ g := by
 rcases o.2 with ⟨e, _⟩ | ⟨g', c', cur, e, hb, hh, hc, hm, hs, ht⟩
 · cases e
 · obtain ⟨e1, -, rfl⟩ := Value.slice.inj e
   obtain rfl : g = g' := by simpa using e1
   refine ⟨cur.toList.drop (n * s), ?_, ?_, hc, hm, hb⟩
   · rw [← ht, List.take_append_drop]; simpa using hh
   · rw [← ht, List.take_append_drop]; simpa using hs
theorem blk_owns {w : World} {lo g n c s : Nat} {t : TypeId} {xs rest : List Value} (h : w.heap[g]? = some (.cells (xs ++ rest).toArray t)) (hx : xs.length = n * s) (hr : (xs ++ rest).length = c * s) (hn : n ≤ c) (hm : c ≤ maxLen) (hb : lo ≤ g) : w.ownsRow lo t s (.slice (some ⟨g, 0, none⟩) n c) n xs :=
 ⟨hx, .inr ⟨g, c, (xs ++ rest).toArray, rfl, hb, h, hn, hm, by simpa using hr, by rw [← hx]; simp⟩⟩
theorem mid4 {w : World} {g : Nat} {L R : List Value} {q : Qi} {ty : TypeId} (h : w.heap[g]? = some (.cells (L ++ (encQ q ++ R)).toArray ty)) {o : Nat} (hj : L.length = o) : Box4 w g o q.e.K q.e.N q.e.F (.slice q.a q.e.Z.length q.c) := by
 have c := fun i => block14 h (o + i)
 have e : ∀ i, (L ++ (encQ q ++ R))[o + i]? = (encQ q ++ R)[i]? := fun i => by rw [List.getElem?_append_right (by omega), hj]; congr 1; omega
 exact ⟨by have := c 0; rw [e] at this; exact this, by have := c 1; rw [e] at this; exact this, by have := c 2; rw [e] at this; exact this, by have := c 3; rw [e] at this; exact this⟩
theorem mid_lay4 {w : World} {g : Nat} {A X R V : List Value} {ty : TypeId} (h : w.heap[g]? = some (.cells (A ++ (X ++ R)).toArray ty)) {o : Nat} (hi : A.length = o) (hV : V.length = 4) (hX : 4 ≤ X.length) : (w.setCells g o V).heap[g]? = some (.cells (A ++ (V ++ (X.drop 4 ++ R))).toArray ty) := by
 have := heapL14 g ty V o w _ (by rw [List.length_append, List.length_append]; omega) h
 rw [this]
 congr 2
 rw [← hi, List.take_left, List.append_assoc, hV, List.drop_append, List.drop_of_length_le (by omega), List.nil_append, Nat.add_sub_cancel_left, List.drop_append_of_le_length hX]
def kpQ (d : List Qi) (i : Nat) : Bool := decide (i = 0) || decide (cmpM (d.getD i qi0).e (d.getD (i - 1) qi0).e ≠ 0)
def cpQ (d : List Qi) (m : Nat) : List Qi := ((List.range m).filter (kpQ d)).map (fun i => d.getD i qi0)
theorem cpQ_succ (d : List Qi) (m : Nat) : cpQ d (m + 1) = cpQ d m ++ (if kpQ d m = true then [d.getD m qi0] else []) := by
 unfold cpQ
 rw [List.range_succ, List.filter_append, List.map_append]
 congr 1
 by_cases h : kpQ d m = true
 · simp [h]
 · simp [h]
theorem cpQ_le (d : List Qi) (m : Nat) : (cpQ d m).length ≤ m := by
 unfold cpQ
 rw [List.length_map]
 exact Nat.le_trans (List.length_filter_le _ _) (by simp)
theorem getD_cons14 {d : List Qi} {j : Nat} (h : j < d.length) : d.drop j = d.getD j qi0 :: d.drop (j + 1) := by
 rw [List.drop_eq_getElem_cons h]; simp [List.getD, h]
theorem take_q {d : List Qi} {j : Nat} (h : j < d.length) : d.take (j + 1) = d.take j ++ [d.getD j qi0] := by
 rw [List.take_succ_eq_append_getElem h]; simp [List.getD, h]
theorem GoodQ.keep {w w' : World} {blk : Nat} {q : Qi} (h : GoodQ w blk q) (k : Keeps (fun b => b = blk) w w') : GoodQ w' blk q :=
 h.grown ⟨k.os, k.tape, k.output, k.size, fun i hi hne => k.block i hi (fun e => hne (by rw [e]))⟩
set_option maxHeartbeats 1600000 in
theorem impl_same (K N K' N' : Int) (F F' : Nat) {p p' : Option Addr} {m m' : Nat} (d d' : Nat) {Z Z' : List Int} {w : World} (hf : F < 18446744073709551616) (hf' : F' < 18446744073709551616) (q : Reads w p m Z) (q' : Reads w p' m' Z') (hz : m ≤ 2097152) (hz' : m' ≤ 2097152) :
 Calls Tryz.prog 145 #[.agg #[.int .i64 K, .int .i64 N, .float .f64 F, .slice p m d], .agg #[.int .i64 K', .int .i64 N', .float .f64 F', .slice p' m' d']] w fun e w' => e = .returned (.bool (decide (cmpI K N F m Z K' N' F' m' Z' = 0))) ∧ Below w.heap.size w w' := by
 obtain ⟨V, hV⟩ : ∃ V, decide (cmpI K N F m Z K' N' F' m' Z' = 0) = V := ⟨_, rfl⟩
 rw [hV]
 have HV := hid hV
 clear hV
 have hB := hid (two w (.cells #[.int .i64 K, .int .i64 N, .float .f64 F, .slice p m d] 72) (.cells #[.int .i64 K', .int .i64 N', .float .f64 F', .slice p' m' d'] 72))
 have Q1 := hid (q.below hB.out (Nat.le_refl _))
 have Q2 := hid (q'.below hB.out (Nat.le_refl _))
 clear q q'
 go_enter Tryz.func145, Tryz.ntmps145
 go_wp2_with fail
 refine (impl_ItemCompare K N K' N' F F' d d' hf hf' Q1.out Q2.out hz hz').mono ?_
 rintro e w1 ⟨rfl, b1⟩
 have HE := hid (hB.out.trans (b1.mono hB.out.size))
 clear b1
 generalize cmpI K N F m Z K' N' F' m' Z' = v at *
 by_cases hv : v = 0
 · have hq : (v == 0) = true := by simpa using hv
   have HF := hid (show V = true by rw [← HV.out, decide_eq_true hv])
   clear hv
   go_wp2_with fail
   go_ret
   exact ⟨by rw [HF.out]; rfl, HE.out⟩
 · have hq : (v == 0) = false := by simpa using hv
   have HF := hid (show V = false by rw [← HV.out, decide_eq_false hv])
   clear hv
   go_wp2_with fail
   go_ret
   exact ⟨by rw [HF.out]; rfl, HE.out⟩
end Go.Proofs.YtjcjoabblafboaaGreat
