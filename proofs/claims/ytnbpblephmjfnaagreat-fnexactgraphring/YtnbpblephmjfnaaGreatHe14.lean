/- The program's ItemOk and ItemCompare once more, with the word that they only draw and make memory; slices.SortFunc over a row of keys. Conditions: texts of at most 2^21 bytes. -/
import Derived.Test.YtnbpblephmjfnaaGreatMga
import Derived.Test.YtnbpblephmjfnaaGreatHg14
namespace Go.Proofs.YtnbpblephmjfnaaGreat
open Go.RowKit Go.Lib Go.Sort
set_option maxRecDepth 100000
structure Gw (w w' : World) : Prop where
 b : Below w.heap.size w w'
 d : w.drawn ≤ w'.drawn
theorem Gw.refl (w : World) : Gw w w := ⟨Below.refl _ _, Nat.le_refl _⟩
theorem Gw.trans {a b c : World} (h : Gw a b) (k : Gw b c) : Gw a c := ⟨h.b.trans (k.b.mono h.b.size), Nat.le_trans h.d k.d⟩
theorem Gw.alloc {a w : World} (h : Gw a w) (o : Obj) : Gw a (w.alloc o) := ⟨h.b.alloc h.b.size o, h.d⟩
theorem Gw.drew {a w : World} (h : Gw a w) : Gw a w.drew := ⟨h.b.drew, Nat.le_succ_of_le h.d⟩
theorem Gw.drewN {a w : World} (h : Gw a w) (k : Nat) : Gw a (w.drewN k) := ⟨h.b.trans (((Still.drewN w k).below _)), Nat.le_trans h.d (Nat.le_add_right _ _)⟩
theorem world_eq {u v : World} (h1 : u.heap = v.heap) (h2 : u.tape = v.tape) (h3 : u.drawn = v.drawn) (h4 : u.os = v.os) (h5 : u.output = v.output) : u = v := by
 cases u; cases v; simp_all
theorem Gw.grow {w w' : World} (h : Gw w w') : ∃ q os, w' = Go.Sort.grow (w.drewN q) os := by
 refine ⟨w'.drawn - w.drawn, w'.heap.extract w.heap.size w'.heap.size, world_eq ?_ h.b.tape ?_ h.b.os h.b.output⟩
 · show w'.heap = w.heap ++ w'.heap.extract w.heap.size w'.heap.size
   apply Array.ext_getElem?
   intro i
   by_cases hi : i < w.heap.size
   · rw [Array.getElem?_append_left hi, h.b.block i hi]
   · rw [Array.getElem?_append_right (by omega), Array.getElem?_extract]
     have := h.b.size
     by_cases h2 : i < w'.heap.size
     · rw [if_pos (by omega), show w.heap.size + (i - w.heap.size) = i by omega]
     · rw [if_neg (by omega), Array.getElem?_eq_none (by omega)]
 · have := h.d
   show w'.drawn = w.drawn + (w'.drawn - w.drawn)
   omega
set_option maxRecDepth 100000 in
set_option maxHeartbeats 1600000 in
theorem impl_ItemOk_g (K N : Int) (f : Nat) (ad : Option Addr) (n cap : Nat) (hf : f < 18446744073709551616) (hn : n ≤ 2097152) (w : World) :
 Calls Tryz.prog 123 #[.agg #[.int .i64 K, .int .i64 N, .float .f64 f, .slice ad n cap]] w fun e w' => e = .returned (.bool (okI K N f n)) ∧ Gw w w' := by
 have hA : Gw w (w.alloc (.cells #[.int .i64 K, .int .i64 N, .float .f64 f, .slice ad n cap] 72)) := (Gw.refl _).alloc _
 have HA := hid hA
 clear hA
 by_cases h1 : K < 0
 · rw [show okI K N f n = false from decide_eq_false (by omega)]
   go_enter Tryz.func123, Tryz.ntmps123
   go_wp2
   go_ret
   exact ⟨rfl, HA.out⟩
 by_cases h2 : 3 < K
 · rw [show okI K N f n = false from decide_eq_false (by omega)]
   go_enter Tryz.func123, Tryz.ntmps123
   go_wp2
   go_ret
   exact ⟨rfl, HA.out⟩
 by_cases h3 : 40 < n
 · rw [show okI K N f n = false from decide_eq_false (by omega)]
   have h3' : (40 : Int) < (n : Int) := by omega
   go_enter Tryz.func123, Tryz.ntmps123
   go_wp2
   go_ret
   exact ⟨rfl, HA.out⟩
 have h3' : ¬ (40 : Int) < (n : Int) := by omega
 by_cases h4 : K ≠ 1 ∧ N ≠ 0
 · rw [show okI K N f n = false from decide_eq_false (by omega)]
   have q1 : (K == 1) = false := by simp [h4.1]
   have q2 : (N == 0) = false := by simp [h4.2]
   go_enter Tryz.func123, Tryz.ntmps123
   go_wp2
   go_ret
   exact ⟨rfl, HA.out⟩
 by_cases h5 : K = 1
 · subst h5
   by_cases h6 : f = 0
   · subst h6
     have hz : fbits 0 = 0 := by decide
     by_cases h7 : n = 0
     · subst h7
       rw [show okI 1 N 0 0 = true from decide_eq_true (by omega)]
       go_enter Tryz.func123, Tryz.ntmps123
       go_wp2_with fail
       refine (impl_FloatBits 0 hf _).mono ?_
       rintro e w1 ⟨rfl, rfl⟩
       rw [hz]
       go_wp2_with fail
       go_ret
       exact ⟨rfl, HA.out⟩
     · rw [show okI 1 N 0 n = false from decide_eq_false (by omega)]
       have q7 : ((n : Int) == 0) = false := beq_eq_false_iff_ne.2 (by omega)
       go_enter Tryz.func123, Tryz.ntmps123
       go_wp2_with fail
       refine (impl_FloatBits 0 hf _).mono ?_
       rintro e w1 ⟨rfl, rfl⟩
       rw [hz]
       go_wp2_with fail
       go_ret
       exact ⟨rfl, HA.out⟩
   · rw [show okI 1 N f n = false from decide_eq_false (by omega)]
     have q6 : ((fbits f : Int) == 0) = false := by have := fbits_ne f h6; simpa using this
     go_enter Tryz.func123, Tryz.ntmps123
     go_wp2_with fail
     refine (impl_FloatBits f hf _).mono ?_
     rintro e w1 ⟨rfl, rfl⟩
     go_wp2_with fail
     go_ret
     exact ⟨rfl, HA.out⟩
 have h8 : N = 0 := by omega
 subst h8
 have q1 : (K == 1) = false := by simp [h5]
 by_cases h9 : K = 2
 · subst h9
   by_cases h7 : n = 0
   · subst h7
     rw [show okI 2 0 f 0 = true from decide_eq_true (by omega)]
     go_enter Tryz.func123, Tryz.ntmps123
     go_wp2
     go_ret
     exact ⟨rfl, HA.out⟩
   · rw [show okI 2 0 f n = false from decide_eq_false (by omega)]
     have q7 : ((n : Int) == 0) = false := beq_eq_false_iff_ne.2 (by omega)
     go_enter Tryz.func123, Tryz.ntmps123
     go_wp2
     go_ret
     exact ⟨rfl, HA.out⟩
 have q9 : (K == 2) = false := by simp [h9]
 by_cases h6 : f = 0
 · subst h6
   have hz : fbits 0 = 0 := by decide
   by_cases h7 : K = 3
   · subst h7
     rw [show okI 3 0 0 n = true from decide_eq_true (by omega)]
     go_enter Tryz.func123, Tryz.ntmps123
     go_wp2_with fail
     refine (impl_FloatBits 0 hf _).mono ?_
     rintro e w1 ⟨rfl, rfl⟩
     rw [hz]
     go_wp2_with fail
     go_ret
     exact ⟨rfl, HA.out⟩
   · have h10 : K = 0 := by omega
     subst h10
     by_cases h7 : n = 0
     · subst h7
       rw [show okI 0 0 0 0 = true from decide_eq_true (by omega)]
       go_enter Tryz.func123, Tryz.ntmps123
       go_wp2_with fail
       refine (impl_FloatBits 0 hf _).mono ?_
       rintro e w1 ⟨rfl, rfl⟩
       rw [hz]
       go_wp2_with fail
       go_ret
       exact ⟨rfl, HA.out⟩
     · rw [show okI 0 0 0 n = false from decide_eq_false (by omega)]
       have q7 : ((n : Int) == 0) = false := beq_eq_false_iff_ne.2 (by omega)
       go_enter Tryz.func123, Tryz.ntmps123
       go_wp2_with fail
       refine (impl_FloatBits 0 hf _).mono ?_
       rintro e w1 ⟨rfl, rfl⟩
       rw [hz]
       go_wp2_with fail
       go_ret
       exact ⟨rfl, HA.out⟩
 · rw [show okI K 0 f n = false from decide_eq_false (by omega)]
   have q6 : ((fbits f : Int) == 0) = false := by have := fbits_ne f h6; simpa using this
   go_enter Tryz.func123, Tryz.ntmps123
   go_wp2_with fail
   refine (impl_FloatBits f hf _).mono ?_
   rintro e w1 ⟨rfl, rfl⟩
   go_wp2_with fail
   go_ret
   exact ⟨rfl, HA.out⟩
set_option maxRecDepth 100000 in
set_option maxHeartbeats 3200000 in
theorem impl_ItemCompare_g (K N K' N' : Int) (f f' : Nat) {ad ad' : Option Addr} {n n' : Nat} (cap cap' : Nat) {zs zs' : List Int} {w : World} (hf : f < 18446744073709551616) (hf' : f' < 18446744073709551616)
 (h : Reads w ad n zs) (h' : Reads w ad' n' zs') (hn : n ≤ 2097152) (hn' : n' ≤ 2097152) :
 Calls Tryz.prog 73 #[.agg #[.int .i64 K, .int .i64 N, .float .f64 f, .slice ad n cap], .agg #[.int .i64 K', .int .i64 N', .float .f64 f', .slice ad' n' cap']] w fun e w' => e = .returned (.int .i64 (cmpI K N f n zs K' N' f' n' zs')) ∧ Gw w w' := by
 have hG := hid ((((Gw.refl w).alloc (.cells #[.int .i64 K, .int .i64 N, .float .f64 f, .slice ad n cap] 72)).alloc (.cells #[.int .i64 K', .int .i64 N', .float .f64 f', .slice ad' n' cap'] 72)))
 have hB := two w (.cells #[.int .i64 K, .int .i64 N, .float .f64 f, .slice ad n cap] 72) (.cells #[.int .i64 K', .int .i64 N', .float .f64 f', .slice ad' n' cap'] 72)
 have z1 := alloc_size w (.cells #[.int .i64 K, .int .i64 N, .float .f64 f, .slice ad n cap] 72)
 have z2 := alloc_size (w.alloc (.cells #[.int .i64 K, .int .i64 N, .float .f64 f, .slice ad n cap] 72)) (.cells #[.int .i64 K', .int .i64 N', .float .f64 f', .slice ad' n' cap'] 72)
 have x1 := (Box.new w K N f ad n cap 72).below ((Below.refl (w.heap.size + 1) _).alloc (by omega) (.cells #[.int .i64 K', .int .i64 N', .float .f64 f', .slice ad' n' cap'] 72)) (by omega)
 have x2 := Box.new (w.alloc (.cells #[.int .i64 K, .int .i64 N, .float .f64 f, .slice ad n cap] 72)) K' N' f' ad' n' cap' 72
 rw [z1] at x2 z2
 have H1 := h.below hB (Nat.le_refl _)
 have H2 := h'.below hB (Nat.le_refl _)
 have e1 := impl_ItemOk_g K N f ad n cap hf hn
 have e2 := impl_ItemOk_g K' N' f' ad' n' cap' hf' hn'
 by_cases o1 : okI K N f n = false
 · rw [show cmpI K N f n zs K' N' f' n' zs' = -2 by rw [cmpI, if_pos (.inl o1)]]
   rw [o1] at e1
   go_enter Tryz.func73, Tryz.ntmps73
   go_wp2_with fail
   refine (e1 _).mono ?_
   rintro e w1 ⟨rfl, v1⟩
   have BB := hid (hG.out.trans v1)
   clear hB v1 H1 H2 x1 x2 z1 z2
   go_wp2_with fail
   go_ret
   exact ⟨rfl, BB.out⟩
 have o1' : okI K N f n = true := by simpa using o1
 rw [o1'] at e1
 by_cases o2 : okI K' N' f' n' = false
 · rw [show cmpI K N f n zs K' N' f' n' zs' = -2 by rw [cmpI, if_pos (.inr o2)]]
   rw [o2] at e2
   go_enter Tryz.func73, Tryz.ntmps73
   go_wp2_with fail
   refine (e1 _).mono ?_
   rintro e w1 ⟨rfl, v1⟩
   have b1 := v1.b
   have B1 := hid (hG.out.trans v1)
   clear v1
   have y2 := x2.below b1 (by omega)
   obtain ⟨d0, d1, d2, d3⟩ := y2
   clear hB b1 H1 H2 x1 x2 z1 z2
   go_wp2_with fail
   clear d0 d1 d2 d3
   refine (e2 _).mono ?_
   rintro e w2 ⟨rfl, v2⟩
   have BB := hid (B1.out.trans v2)
   clear v2 B1
   go_wp2_with fail
   go_ret
   exact ⟨rfl, BB.out⟩
 have o2' : okI K' N' f' n' = true := by simpa using o2
 rw [o2'] at e2
 rw [← or_cmp K N K' N' f f' n n' zs zs' o1' o2']
 clear o1 o2 o1' o2'
 go_enter Tryz.func73, Tryz.ntmps73
 go_wp2_with fail
 refine (e1 _).mono ?_
 rintro e w1 ⟨rfl, v1⟩
 have b1 := v1.b
 have B1 := hid (hG.out.trans v1)
 clear v1
 have y1 := x1.below b1 (by omega)
 have y2 := x2.below b1 (by omega)
 have zz := b1.size
 have h1 := H1.below b1 (Nat.le_refl _)
 have h2 := H2.below b1 (Nat.le_refl _)
 obtain ⟨d0, d1, d2, d3⟩ := y2
 have Y1 := hid y1
 have Y2 := hid (x2.below b1 (by omega))
 have ZZ := hid (show w.heap.size + 1 < w1.heap.size by omega)
 clear hB b1 H1 H2 x1 x2 z1 z2 y1 zz
 go_wp2_with fail
 clear d0 d1 d2 d3
 refine (e2 _).mono ?_
 rintro e w2 ⟨rfl, v2⟩
 have b2 := v2.b
 have BB := B1.out.trans v2
 clear v2
 have h3 := h1.below b2 (Nat.le_refl _)
 have h4 := h2.below b2 (Nat.le_refl _)
 have z := ZZ.out
 obtain ⟨c0, c1, c2, c3⟩ := Y1.out.below b2 (by omega)
 obtain ⟨d0, d1, d2, d3⟩ := Y2.out.below b2 (by omega)
 have ZB := b2.size
 have ZZ2 := hid (show w.heap.size + 1 < w2.heap.size by omega)
 have s1 : ∀ W, Below w2.heap.size w2 W → (convert 22 9 (.slice ad n cap)).run Tryz.prog W = .ok (.string (str zs)) W := fun W b => (h3.below b (Nat.le_refl _)).str cap 22 Tryz.underlying22 Tryz.underlying5 Tryz.underlying9
 have s2 : ∀ W, Below w2.heap.size w2 W → (convert 22 9 (.slice ad' n' cap')).run Tryz.prog W = .ok (.string (str zs')) W := fun W b => (h4.below b (Nat.le_refl _)).str cap' 22 Tryz.underlying22 Tryz.underlying5 Tryz.underlying9
 have S1 := hid s1
 have S2 := hid s2
 clear s1 s2
 have D1 : Below w2.heap.size w2 w2.drew := (Still.drewN w2 1).below w2.heap.size
 have HD := hid D1
 clear D1
 have i1 : inB zs := h.bd
 have i2 : inB zs' := h'.bd
 have HB := hid BB
 clear b2 B1 h1 h2 z ZB BB Y1 Y2 ZZ h3 h4 h h'
 go_wp2_with fail
 go_region_held3 (fun W => (W.cell? ⟨w.heap.size, 0, none⟩ = some (.int .i64 K) ∧ W.cell? ⟨w.heap.size, 1, none⟩ = some (.int .i64 N) ∧ W.cell? ⟨w.heap.size, 2, none⟩ = some (.float .f64 f) ∧ W.cell? ⟨w.heap.size, 3, none⟩ = some (.slice ad n cap)) ∧ W.cell? ⟨w.heap.size + 1, 0, none⟩ = some (.int .i64 K') ∧ W.cell? ⟨w.heap.size + 1, 1, none⟩ = some (.int .i64 N') ∧ W.cell? ⟨w.heap.size + 1, 2, none⟩ = some (.float .f64 f') ∧ W.cell? ⟨w.heap.size + 1, 3, none⟩ = some (.slice ad' n' cap') ∧ (convert 22 9 (.slice ad n cap)).run Tryz.prog W = .ok (.string (str zs)) W ∧ (convert 22 9 (.slice ad' n' cap')).run Tryz.prog W = .ok (.string (str zs')) W)
  (first
   | exact ⟨⟨by simpa using c0, by simpa using c1, by simpa using c2, by simpa using c3⟩, by simpa using d0, by simpa using d1, by simpa using d2, by simpa using d3, S1.out _ (by first | exact Below.refl _ _ | exact HD.out | exact (Still.drewN w2 _).below _), S2.out _ (by first | exact Below.refl _ _ | exact HD.out | exact (Still.drewN w2 _).below _)⟩
   | exact ⟨⟨cell_oldx _ (by simpa using c0), cell_oldx _ (by simpa using c1), cell_oldx _ (by simpa using c2), cell_oldx _ (by simpa using c3)⟩, cell_oldx _ (by simpa using d0), cell_oldx _ (by simpa using d1), cell_oldx _ (by simpa using d2), cell_oldx _ (by simpa using d3), S1.out _ (by first | exact HD.out.alloc (Nat.le_refl _) _ | exact (Below.refl _ _).alloc (Nat.le_refl _) _), S2.out _ (by first | exact HD.out.alloc (Nat.le_refl _) _ | exact (Below.refl _ _).alloc (Nat.le_refl _) _)⟩)
  (first
  | (go_at_call 91; refine (impl_ordInt _ _ _).mono ?_; rintro e w3 ⟨rfl, rfl⟩)
  | (go_at_call 124; refine (impl_FloatCompare _ _ hf hf' _).mono ?_; rintro e w3 ⟨rfl, rfl⟩)
  | (go_at_call 125; refine (impl_ordStr _ _ i1 i2 _).mono ?_; rintro e w3 ⟨rfl, rfl⟩)
  | (go_at_call 90; refine (cmp_or (ci K K') (ci N N') (cmp3 (frank f) (frank f')) (txt zs zs') w2.heap.size _ (new4 w2.drew _ _ _ _ 3).1 (new4 w2.drew _ _ _ _ 3).2.1 (new4 w2.drew _ _ _ _ 3).2.2.1 (new4 w2.drew _ _ _ _ 3).2.2.2).mono ?_; rintro e w3 ⟨rfl, rfl⟩))
 go_wp2_with fail
 go_ret
 have := ZZ2.out
 first | exact ⟨rfl, (HB.out.drew).alloc _⟩ | exact ⟨rfl, (HB.out.alloc _).drew⟩
structure Qi where
 e : Im
 a : Option Addr
 c : Nat
def qi0 : Qi := ⟨im0, none, 0⟩
instance : Inhabited Qi := ⟨qi0⟩
def encQ (q : Qi) : List Value := [.int .i64 q.e.K, .int .i64 q.e.N, .float .f64 q.e.F, .slice q.a q.e.Z.length q.c]
structure GoodQ (w : World) (blk : Nat) (q : Qi) : Prop where
 rd : Reads w q.a q.e.Z.length q.e.Z
 ne : ∀ a, q.a = some a → q.e.Z.length ≠ 0 → a.block ≠ blk
 fl : q.e.F < 18446744073709551616
 ok : okM q.e = true
theorem okM_len {e : Im} (h : okM e = true) : e.Z.length ≤ 40 := by
 have := okM_I h
 unfold okI at this
 rw [decide_eq_true_iff] at this
 exact this.2.2.1
end Go.Proofs.YtnbpblephmjfnaaGreat
