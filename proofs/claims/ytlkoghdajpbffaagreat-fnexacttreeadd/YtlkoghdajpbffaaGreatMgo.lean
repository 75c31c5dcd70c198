/- Texts of this proof in one: Me11 Mf11 Mi11 Mj11 Mk11 Ml11 Nc11 Nd11. -/
import Derived.Test.YtlkoghdajpbffaaGreatMgn
import Derived.Test.YtlkoghdajpbffaaGreatMgd
import Derived.Test.YtlkoghdajpbffaaGreatMgf
import Derived.Maps.AppendAt
import Derived.Lib.AppendZeros
/- A copy of an item that a law makes, in memory of its own; few entries of a span. No statement of its own; no conditions. -/



namespace Go.Proofs.YtlkoghdajpbffaaGreat
open Go.RowKit
set_option maxRecDepth 100000
theorem Within.grown11 {w w' : World} {row : Option Nat} {lo hi : Nat} (hg : w.grownBy w' row) (hr : ∀ k, row = some k → lo ≤ k ∧ k < hi) : Within lo hi w w' :=
 ⟨hg.os, hg.tape, hg.output, hg.size, fun k hk ho => hg.block k hk (fun e => by have := hr k e.symm; omega)⟩
structure BoxIt (w : World) (lo g : Nat) (K N : Int) (f : Nat) (x : Nat) (n : Nat) (Z : List Int) : Prop where
 box : Box w g K N f (some ⟨x, 0, none⟩) n n
 o : w.ownsRow lo 5 1 (.slice (some ⟨x, 0, none⟩) n n) n (bys Z)
 t : x < g
 lt : g < w.heap.size
 bd : ∀ i, 0 ≤ Z.getD i 0 ∧ Z.getD i 0 ≤ 255
section
variable {w w' : World} {lo g : Nat} {K N : Int} {f x n : Nat} {Z : List Int}
theorem BoxIt.floor (h : BoxIt w lo g K N f x n Z) : lo ≤ x := (h.o.lt x rfl).1
theorem BoxIt.below (h : BoxIt w lo g K N f x n Z) {B : Nat} (hb : Below B w w') (hB : w.heap.size ≤ B) : BoxIt w' lo g K N f x n Z :=
 ⟨h.box.below hb (Nat.lt_of_lt_of_le h.lt hB), owns_below hb hB h.o, h.t, Nat.lt_of_lt_of_le h.lt hb.size, h.bd⟩
theorem BoxIt.agree (h : BoxIt w lo g K N f x n Z) (ha : Agree lo (g + 1) w w') : BoxIt w' lo g K N f x n Z := by
 have h1 := h.floor
 have h2 := h.t
 have hc := fun i => World.cell?_of_block (w := w) (w' := w') (a := ⟨g, i, none⟩) (ha g (by omega) (by omega))
 refine ⟨⟨(hc 0).trans h.box.c0, (hc 1).trans h.box.c1, (hc 2).trans h.box.c2, (hc 3).trans h.box.c3⟩, owns_agree h.o ha (fun b hb => by obtain rfl := Option.some.inj hb; exact ⟨h1, by simp; omega⟩), h2, ?_, h.bd⟩
 exact World.block_lt_of_cell? w' ⟨g, 0, none⟩ ((hc 0).trans h.box.c0)
theorem BoxIt.rd (h : BoxIt w lo g K N f x n Z) : Reads w (some ⟨x, 0, none⟩) n Z := by
 obtain ⟨_, _, e, r, _⟩ := Reads.own h.o h.bd
 obtain ⟨rfl, _, _⟩ := Value.slice.inj e
 exact r
theorem BoxIt.new (h : w.ownsRow lo 5 1 (.slice (some ⟨x, 0, none⟩) n n) n (bys Z)) (hz : ∀ i, 0 ≤ Z.getD i 0 ∧ Z.getD i 0 ≤ 255) (K N : Int) (f : Nat) (t : TypeId) : BoxIt (w.alloc (.cells #[.int .i64 K, .int .i64 N, .float .f64 f, .slice (some ⟨x, 0, none⟩) n n] t)) lo w.heap.size K N f x n Z :=
 ⟨Box.new w K N f _ n n t, h.alloc _, (h.lt x rfl).2, by rw [alloc_size]; omega, hz⟩
theorem BoxIt.within (h : BoxIt w lo g K N f x n Z) (hg : w.grownBy w' (Value.slice (some ⟨x, 0, none⟩) n n).ownBlock) : Within lo g w w' := Within.grown11 hg (fun k hk => by obtain rfl := Option.some.inj hk; exact ⟨h.floor, h.t⟩)
end
end Go.Proofs.YtlkoghdajpbffaaGreat
/- The Ids of the entries with a key: plain, and the program's TreeFind. Conditions: texts of at most 2^21 bytes. -/


namespace Go.Proofs.YtlkoghdajpbffaaGreat
open Go.RowKit
set_option maxRecDepth 100000
theorem txt_anti11 : ∀ (zs ys : List Int), txt ys zs = - txt zs ys
 | [], [] => rfl
 | [], _ :: _ => rfl
 | _ :: _, [] => rfl
 | x :: xs, y :: ys => by
  have ih := txt_anti11 xs ys
  rw [txt, txt]
  by_cases h1 : x < y
  · rw [if_neg (by omega), if_pos h1, if_pos h1]; rfl
  · by_cases h2 : y < x
    · rw [if_pos h2, if_neg h1, if_pos h2]
    · rw [if_neg h2, if_neg h1, if_neg h1, if_neg h2, ih]
theorem cmpI_of11 (K N K' N' : Int) (f f' n n' : Nat) (zs zs' : List Int) (h : okI K N f n = true) (h' : okI K' N' f' n' = true) : cmpI K N f n zs K' N' f' n' zs' = (if K ≠ K' then (if K < K' then -1 else 1) else if N ≠ N' then (if N < N' then -1 else 1) else if cmp3 (frank f) (frank f') ≠ 0 then cmp3 (frank f) (frank f') else txt zs zs') := by
 unfold cmpI
 rw [if_neg (by rw [h, h']; simp)]
end Go.Proofs.YtlkoghdajpbffaaGreat
/- Entries in order, plain: a total order of entries. No program, no conditions. -/

namespace Go.Proofs.YtlkoghdajpbffaaGreat
open Go.RowKit
set_option maxRecDepth 100000
theorem txt_lt_trans11 : ∀ (a b c : List Int), txt a b < 0 → txt b c < 0 → txt a c < 0
 | [], [], c, h, _ => by simp [txt] at h
 | [], _ :: _, [], _, h => by simp [txt] at h
 | [], _ :: _, _ :: _, _, _ => by simp [txt]
 | _ :: _, [], _, h, _ => by simp [txt] at h
 | _ :: _, _ :: _, [], _, h => by simp [txt] at h
 | x :: xs, y :: ys, z :: zs, h, h' => by
  have ih := txt_lt_trans11 xs ys zs
  rw [txt] at h h' ⊢
  by_cases h1 : x < z
  · rw [if_pos h1]; omega
  · rw [if_neg h1]
    by_cases h2 : z < x
    · exfalso
      by_cases h3 : x < y
      · rw [if_neg (by omega), if_pos (by omega)] at h'; omega
      · by_cases h4 : y < x
        · rw [if_neg h3, if_pos h4] at h; omega
        · rw [if_neg (by omega), if_pos (by omega)] at h'; omega
    · rw [if_neg h2]
      by_cases h3 : x < y
      · rw [if_neg (by omega), if_pos (by omega)] at h'; omega
      · by_cases h4 : y < x
        · rw [if_neg h3, if_pos h4] at h; omega
        · rw [if_neg h3, if_neg h4] at h
          rw [if_neg (by omega), if_neg (by omega)] at h'
          exact ih h h'
def ltP (a b : En) : Prop := a.K < b.K ∨ (a.K = b.K ∧ (a.N < b.N ∨ (a.N = b.N ∧ (frank a.F < frank b.F ∨ (frank a.F = frank b.F ∧ (txt a.Z b.Z < 0 ∨ (txt a.Z b.Z = 0 ∧ a.id < b.id)))))))
theorem entOk_I {e : En} (h : entOk e = true) : okI e.K e.N e.F e.Z.length = true := by
 unfold entOk entB okK at h
 simp only [Bool.and_eq_true] at h
 exact h.1.1
theorem ltE_iff {a b : En} (ha : entOk a = true) (hb : entOk b = true) : ltE a b = true ↔ ltP a b := by
 unfold ltE ltB cmpE ltP
 rw [decide_eq_true_iff, cmpI_of11 a.K a.N b.K b.N a.F b.F a.Z.length b.Z.length a.Z b.Z (entOk_I ha) (entOk_I hb)]
 unfold cmp3
 generalize txt a.Z b.Z = t
 generalize frank a.F = r
 generalize frank b.F = s
 repeat' split
 all_goals omega
theorem txt_tri (a b c : List Int) : (txt a b < 0 → txt b c < 0 → txt a c < 0) ∧ (txt a b = 0 → txt a c = txt b c) ∧ (txt b c = 0 → txt a c = txt a b) :=
 ⟨txt_lt_trans11 a b c, fun h => by rw [(txt_zero a b).1 h], fun h => by rw [(txt_zero b c).1 h]⟩
theorem ltP_trans {a b c : En} (h : ltP a b) (k : ltP b c) : ltP a c := by
 obtain ⟨t1, t2, t3⟩ := txt_tri a.Z b.Z c.Z
 unfold ltP at *
 omega
theorem ltP_asym {a b : En} (h : ltP a b) : ¬ ltP b a := by
 have := txt_anti11 a.Z b.Z
 unfold ltP at *
 omega
theorem ltP_le {a b c : En} (h : ¬ ltP b a) (k : ltP b c) : ltP a c := by
 obtain ⟨t1, t2, t3⟩ := txt_tri a.Z b.Z c.Z
 have := txt_anti11 a.Z b.Z
 unfold ltP at *
 omega
theorem ltP_lt {a b c : En} (h : ltP a b) (k : ¬ ltP c b) : ltP a c := by
 obtain ⟨t1, t2, t3⟩ := txt_tri a.Z b.Z c.Z
 have := txt_anti11 b.Z c.Z
 unfold ltP at *
 omega
theorem leP_trans {a b c : En} (h : ¬ ltP b a) (k : ¬ ltP c b) : ¬ ltP c a := fun q => k (ltP_lt q (fun x => h x))
section
variable {a b c : En} (ha : entOk a = true) (hb : entOk b = true) (hc : entOk c = true)
include ha hb hc
theorem ltE_trans (h : ltE a b = true) (k : ltE b c = true) : ltE a c = true := (ltE_iff ha hc).2 (ltP_trans ((ltE_iff ha hb).1 h) ((ltE_iff hb hc).1 k))
theorem ltE_le (h : ltE b a = false) (k : ltE b c = true) : ltE a c = true := (ltE_iff ha hc).2 (ltP_le (fun q => by rw [(ltE_iff hb ha).2 q] at h; cases h) ((ltE_iff hb hc).1 k))
theorem ltE_lt (h : ltE a b = true) (k : ltE c b = false) : ltE a c = true := (ltE_iff ha hc).2 (ltP_lt ((ltE_iff ha hb).1 h) (fun q => by rw [(ltE_iff hc hb).2 q] at k; cases k))
theorem leE_trans (h : ltE b a = false) (k : ltE c b = false) : ltE c a = false := by
 cases q : ltE c a with
 | false => rfl
 | true => exact absurd ((ltE_iff hc ha).1 q) (leP_trans (fun x => by rw [(ltE_iff hb ha).2 x] at h; cases h) (fun x => by rw [(ltE_iff hc hb).2 x] at k; cases k))
end
def upsB (es : List En) (e : En) : Nat := es.countP (fun x => !ltE e x)
end Go.Proofs.YtlkoghdajpbffaaGreat
/- Trees, plain: the way down to an entry; an entry stands in no leaf but the one at the end of its way. No program, no conditions. -/

namespace Go.Proofs.YtlkoghdajpbffaaGreat
open Go.RowKit
set_option maxRecDepth 100000
theorem getD_mem11 {l : List Int} {i : Nat} (h : i < l.length) : l.getD i 0 ∈ l := by
 rw [List.getD_eq_getElem?_getD, List.getElem?_eq_getElem h]
 exact List.getElem_mem h
def leafW (ns : List Nd) : Nat → Int → En → Int
 | 0, x, _ => x
 | f + 1, x, e => if (ns.getD x.toNat nd0).leaf then x else leafW ns f ((ns.getD x.toNat nd0).ks.getD (upsB (ns.getD x.toNat nd0).es e) 0) e
def posL (ns : List Nd) : Nat → Int → List Int
 | 0, _ => []
 | f + 1, x => x :: ((ns.getD x.toNat nd0).ks.map (fun k => posL ns f k)).flatten
def good (ns : List Nd) : Nat → Int → Prop
 | 0, _ => False
 | f + 1, x => formOk (ns.getD x.toNat nd0) = true ∧ 0 ≤ x ∧ x < ns.length ∧ ∀ k ∈ (ns.getD x.toNat nd0).ks, good ns f k
theorem foldM_some {g : List Bool → Int → Option (List Bool)} : ∀ (l : List Int) (s s' : List Bool), l.foldlM (fun s k => g s k) s = some s' → ∀ k ∈ l, ∃ s1 s2, g s1 k = some s2
 | [], _, _, _, k, hk => by cases hk
 | x :: l, s, s', h, k, hk => by
  rw [List.foldlM_cons] at h
  cases hx : g s x with
  | none => rw [hx] at h; cases h
  | some s1 =>
   rw [hx] at h
   rcases List.mem_cons.1 hk with rfl | hk
   · exact ⟨s, s1, hx⟩
   · exact foldM_some l s1 s' h k hk
theorem lnk_good (ns : List Nd) : ∀ (f : Nat) (sd : List Bool) (x : Int) (sd' : List Bool), lnk ns f sd x = some sd' → good ns f x
 | 0, _, _, _, h => by cases h
 | f + 1, sd, x, sd', h => by
  unfold lnk at h
  split at h
  · cases h
  · rename_i hc
    rw [Bool.not_eq_true, Bool.or_eq_false_iff] at hc
    have ho := outB_no hc.1
    refine ⟨by simpa using hc.2, ho.1, ho.2.1, fun k hk => ?_⟩
    obtain ⟨s1, s2, hs⟩ := foldM_some (g := fun s k => lnk ns f s k) _ _ _ h k hk
    exact lnk_good ns f s1 k s2 hs
theorem foldM_pos (ns : List Nd) (f : Nat) (ih : ∀ (sd : List Bool) (x : Int) (sd' : List Bool), lnk ns f sd x = some sd' → ∀ i : Nat, sd'.getD i false = true → sd.getD i false = true ∨ (i : Int) ∈ posL ns f x) : ∀ (l : List Int) (s s' : List Bool), l.foldlM (fun s k => lnk ns f s k) s = some s' → ∀ i : Nat, s'.getD i false = true → s.getD i false = true ∨ (i : Int) ∈ (l.map (fun k => posL ns f k)).flatten
 | [], s, s', h, i, hi => by
  have : s = s' := by simpa using h
  rw [this]; exact .inl hi
 | x :: l, s, s', h, i, hi => by
  rw [List.foldlM_cons] at h
  cases hx : lnk ns f s x with
  | none => rw [hx] at h; cases h
  | some s1 =>
   rw [hx] at h
   rw [List.map_cons, List.flatten_cons, List.mem_append]
   rcases foldM_pos ns f ih l s1 s' h i hi with q | q
   · rcases ih s x s1 hx i q with q' | q'
     · exact .inl q'
     · exact .inr (.inl q')
   · exact .inr (.inr q)
theorem lnk_pos (ns : List Nd) : ∀ (f : Nat) (sd : List Bool) (x : Int) (sd' : List Bool), lnk ns f sd x = some sd' → ∀ i : Nat, sd'.getD i false = true → sd.getD i false = true ∨ (i : Int) ∈ posL ns f x
 | 0, _, _, _, h, _, _ => by cases h
 | f + 1, sd, x, sd', h, i, hi => by
  unfold lnk at h
  split at h
  · cases h
  · rename_i hc
    rw [Bool.not_eq_true, Bool.or_eq_false_iff] at hc
    have ho := outB_no hc.1
    rcases foldM_pos ns f (lnk_pos ns f) _ _ _ h i hi with q | q
    · by_cases e : i = x.toNat
      · right
        unfold posL
        rw [show (i : Int) = x by omega]
        exact List.mem_cons_self
      · left
        rw [List.getD_eq_getElem?_getD, List.getElem?_set_ne (fun q => e q.symm), ← List.getD_eq_getElem?_getD] at q
        exact q
    · right
      unfold posL
      exact List.mem_cons_of_mem _ q
theorem ento_at {lo hi : Option En} {es : List En} (h : nodeOk lo hi es = true) {i : Nat} (hi' : i < es.length) : entOk (es.getD i en0) = true ∧ loB lo (es.getD i en0) = true ∧ hiB hi (es.getD i en0) = true := by
 unfold nodeOk at h
 have := List.all_eq_true.1 h i (List.mem_range.2 hi')
 unfold okAt at this
 rw [Bool.and_eq_true, hasB_of, Bool.and_eq_true, Bool.and_eq_true] at this
 exact ⟨this.1.1, this.1.2.1, this.1.2.2⟩
theorem asc_at {lo hi : Option En} {es : List En} (h : nodeOk lo hi es = true) : ∀ {j i : Nat}, i < j → j < es.length → ltE (es.getD i en0) (es.getD j en0) = true
 | 0, i, hij, _ => by omega
 | j + 1, i, hij, hj => by
  have h1 : ltE (es.getD j en0) (es.getD (j + 1) en0) = true := by
   unfold nodeOk at h
   have := List.all_eq_true.1 h (j + 1) (List.mem_range.2 hj)
   unfold okAt at this
   rw [Bool.and_eq_true, decide_eq_false (by omega), Bool.false_or] at this
   exact this.2
  by_cases e : i = j
  · rw [e]; exact h1
  · exact ltE_trans (ento_at h (by omega)).1 (ento_at h (by omega)).1 (ento_at h hj).1 (asc_at h (by omega) (by omega)) h1
def okO (o : Option En) : Prop := ∀ a, o = some a → entOk a = true
theorem lowAt_ok {lo hi : Option En} {es : List En} (h : nodeOk lo hi es = true) (hlo : okO lo) {i : Nat} (hi' : i ≤ es.length) : okO (lowAt es lo i) := by
 intro a ha
 unfold lowAt at ha
 split at ha
 · exact hlo a ha
 · cases ha; exact (ento_at h (by omega)).1
theorem highAt_ok {lo hi : Option En} {es : List En} (h : nodeOk lo hi es = true) (hhi : okO hi) (i : Nat) : okO (highAt es hi i) := by
 intro a ha
 unfold highAt at ha
 split at ha
 · cases ha; exact (ento_at h (by assumption)).1
 · exact hhi a ha
theorem good_len {ns : List Nd} {f : Nat} {x : Int} (h : good ns (f + 1) x) {i : Nat} (hi : i < (ns.getD x.toNat nd0).ks.length) : i ≤ (ns.getD x.toNat nd0).es.length := by
 cases hl : (ns.getD x.toNat nd0).leaf with
 | true => have := form_leaf h.1 hl; omega
 | false => have := form_kids h.1 hl; omega
theorem ino_node {ns : List Nd} {f : Nat} {x : Int} {lo hi : Option En} (h : ino ns (f + 1) x lo hi = true) : nodeOk lo hi (ns.getD x.toNat nd0).es = true ∧ ∀ i, i < (ns.getD x.toNat nd0).ks.length → ino ns f ((ns.getD x.toNat nd0).ks.getD i 0) (lowAt (ns.getD x.toNat nd0).es lo i) (highAt (ns.getD x.toNat nd0).es hi i) = true := by
 rw [ino] at h
 rw [Bool.and_eq_true, List.all_eq_true] at h
 exact ⟨h.1, fun i hi' => h.2 i (List.mem_range.2 hi')⟩
theorem pos_kid {ns : List Nd} {f : Nat} {x y : Int} (h : y ∈ posL ns (f + 1) x) : y = x ∨ ∃ i, i < (ns.getD x.toNat nd0).ks.length ∧ y ∈ posL ns f ((ns.getD x.toNat nd0).ks.getD i 0) := by
 unfold posL at h
 rcases List.mem_cons.1 h with q | q
 · exact .inl q
 · obtain ⟨L, hL, hy⟩ := List.mem_flatten.1 q
   obtain ⟨k, hk, rfl⟩ := List.mem_map.1 hL
   obtain ⟨i, hi, rfl⟩ := List.mem_iff_getElem.1 hk
   exact .inr ⟨i, hi, by rw [List.getD_eq_getElem?_getD, List.getElem?_eq_getElem hi]; exact hy⟩
theorem pos_in (ns : List Nd) : ∀ (f : Nat) (x y : Int) (lo hi : Option En), good ns f x → ino ns f x lo hi = true → okO lo → okO hi → y ∈ posL ns f x → ∀ z ∈ (ns.getD y.toNat nd0).es, entOk z = true ∧ loB lo z = true ∧ hiB hi z = true
 | 0, _, _, _, _, hg, _, _, _, _, _, _ => hg.elim
 | f + 1, x, y, lo, hi, hg, ho, hlo, hhi, hy, z, hz => by
  obtain ⟨hn, hk⟩ := ino_node ho
  rcases pos_kid hy with rfl | ⟨i, hi', hy'⟩
  · obtain ⟨j, hj, rfl⟩ := List.mem_iff_getElem.1 hz
    have := ento_at hn hj
    rw [List.getD_eq_getElem?_getD, List.getElem?_eq_getElem hj] at this
    exact this
  · have hle := good_len hg hi'
    have hkm : (ns.getD x.toNat nd0).ks.getD i 0 ∈ (ns.getD x.toNat nd0).ks := getD_mem11 hi'
    obtain ⟨z1, z2, z3⟩ := pos_in ns f _ y _ _ (hg.2.2.2 _ hkm) (hk i hi') (lowAt_ok hn hlo hle) (highAt_ok hn hhi i) hy' z hz
    refine ⟨z1, ?_, ?_⟩
    · unfold lowAt at z2
      split at z2
      · exact z2
      · cases lo with
        | none => rfl
        | some a =>
         have ea := ento_at hn (i := i - 1) (by omega)
         have h1 : ltE ((ns.getD x.toNat nd0).es.getD (i - 1) en0) a = false := by simpa [loB] using ea.2.1
         have h2 : ltE z ((ns.getD x.toNat nd0).es.getD (i - 1) en0) = false := by simpa [loB] using z2
         simp only [loB]
         rw [leE_trans (hlo a rfl) ea.1 z1 h1 h2]; rfl
    · unfold highAt at z3
      split at z3
      · rename_i hl
        cases hi with
        | none => rfl
        | some b =>
         have ea := ento_at hn hl
         exact ltE_trans z1 ea.1 (hhi b rfl) z3 ea.2.2
      · exact z3
theorem upsB_at {es : List En} {e : En} {j : Nat} (hj : j ≤ es.length) (h1 : ∀ i, i < j → ltE e (es.getD i en0) = false) (h2 : ∀ i, j ≤ i → i < es.length → ltE e (es.getD i en0) = true) : upsB es e = j := by
 unfold upsB
 have e1 : es = es.take j ++ es.drop j := (List.take_append_drop j es).symm
 rw [e1, List.countP_append]
 have a1 : (es.take j).countP (fun x => !ltE e x) = (es.take j).length := by
  rw [List.countP_eq_length]
  intro z hz
  obtain ⟨i, hi, rfl⟩ := List.mem_iff_getElem.1 hz
  rw [List.length_take] at hi
  have := h1 i (by omega)
  rw [List.getD_eq_getElem?_getD, List.getElem?_eq_getElem (by omega)] at this
  rw [List.getElem_take, Bool.not_eq_true']
  exact this
 have a2 : (es.drop j).countP (fun x => !ltE e x) = 0 := by
  rw [List.countP_eq_zero]
  intro z hz
  obtain ⟨i, hi, rfl⟩ := List.mem_iff_getElem.1 hz
  rw [List.length_drop] at hi
  have := h2 (j + i) (by omega) (by omega)
  rw [List.getD_eq_getElem?_getD, List.getElem?_eq_getElem (by omega)] at this
  rw [List.getElem_drop]
  rw [show ltE e es[j + i] = true from this]
  simp
 rw [a1, a2, List.length_take]
 omega
theorem leaf_uniq (ns : List Nd) {e : En} (he : entOk e = true) : ∀ (f : Nat) (x y : Int) (lo hi : Option En), good ns f x → ino ns f x lo hi = true → okO lo → okO hi → y ∈ posL ns f x → (ns.getD y.toNat nd0).leaf = true → ∀ z ∈ (ns.getD y.toNat nd0).es, ltE z e = false → ltE e z = false → y = leafW ns f x e
 | 0, _, _, _, _, hg, _, _, _, _, _, _, _, _, _ => hg.elim
 | f + 1, x, y, lo, hi, hg, ho, hlo, hhi, hy, hlf, z, hz, q1, q2 => by
  obtain ⟨hn, hk⟩ := ino_node ho
  unfold leafW
  rcases pos_kid hy with rfl | ⟨i, hi', hy'⟩
  · rw [if_pos hlf]
  · have hle := good_len hg hi'
    have hkm : (ns.getD x.toNat nd0).ks.getD i 0 ∈ (ns.getD x.toNat nd0).ks := getD_mem11 hi'
    have hx : (ns.getD x.toNat nd0).leaf = false := by
     cases hl : (ns.getD x.toNat nd0).leaf with
     | false => rfl
     | true => have := (form_leaf hg.1 hl).2; omega
    obtain ⟨z1, z2, z3⟩ := pos_in ns f _ y _ _ (hg.2.2.2 _ hkm) (hk i hi') (lowAt_ok hn hlo hle) (highAt_ok hn hhi i) hy' z hz
    have hu : upsB (ns.getD x.toNat nd0).es e = i := by
     refine upsB_at hle (fun t ht => ?_) (fun t ht ht2 => ?_)
     · have ea := ento_at hn (i := i - 1) (by omega)
       have h2 : ltE z ((ns.getD x.toNat nd0).es.getD (i - 1) en0) = false := by
        unfold lowAt at z2
        rw [if_neg (by omega)] at z2
        simpa [loB] using z2
       have h3 : ltE e ((ns.getD x.toNat nd0).es.getD (i - 1) en0) = false := leE_trans ea.1 z1 he h2 q2
       by_cases h4 : t = i - 1
       · rw [h4]; exact h3
       · have et := ento_at hn (i := t) (by omega)
         have h5 := asc_at hn (i := t) (j := i - 1) (by omega) (by omega)
         have h6 : ltE ((ns.getD x.toNat nd0).es.getD (i - 1) en0) ((ns.getD x.toNat nd0).es.getD t en0) = false := by
          cases q : ltE ((ns.getD x.toNat nd0).es.getD (i - 1) en0) ((ns.getD x.toNat nd0).es.getD t en0) with
          | false => rfl
          | true => exact absurd ((ltE_iff ea.1 et.1).1 q) (ltP_asym ((ltE_iff et.1 ea.1).1 h5))
         exact leE_trans et.1 ea.1 he h6 h3
     · have hil : i < (ns.getD x.toNat nd0).es.length := by omega
       have ei := ento_at hn hil
       have h2 : ltE z ((ns.getD x.toNat nd0).es.getD i en0) = true := by
        unfold highAt at z3
        rw [if_pos hil] at z3
        exact z3
       have h3 : ltE e ((ns.getD x.toNat nd0).es.getD i en0) = true := ltE_le he z1 ei.1 q1 h2
       by_cases h4 : t = i
       · rw [h4]; exact h3
       · exact ltE_trans he ei.1 (ento_at hn ht2).1 h3 (asc_at hn (by omega) ht2)
    rw [if_neg (by rw [hx]; simp), hu]
    exact leaf_uniq ns he f _ y _ _ (hg.2.2.2 _ hkm) (hk i hi') (lowAt_ok hn hlo hle) (highAt_ok hn hhi i) hy' hlf z hz q1 q2
end Go.Proofs.YtlkoghdajpbffaaGreat
/- Trees, plain: taking an entry out: what the specification leaves in all leaves is what the program leaves in one. No program, no conditions. -/

namespace Go.Proofs.YtlkoghdajpbffaaGreat
open Go.RowKit
set_option maxRecDepth 100000
def offE (e x : En) : Bool := ltE x e || ltE e x
theorem off_no (e x : En) : offE e x = false ↔ (ltE x e = false ∧ ltE e x = false) := by unfold offE; rw [Bool.or_eq_false_iff]
theorem leaf_at {lo hi : Option En} {es : List En} {e : En} (h : nodeOk lo hi es = true) (he : entOk e = true) {k : Nat} (hk : k < es.length) (hq : offE e (es.getD k en0) = false) : upsB es e = k + 1 ∧ ∀ i, i < es.length → (offE e (es.getD i en0) = false ↔ i = k) := by
 obtain ⟨q1, q2⟩ := (off_no _ _).1 hq
 have ek := (ento_at h hk).1
 have lowr : ∀ i, i < k → ltE (es.getD i en0) e = true := fun i hi => ltE_lt (ento_at h (by omega)).1 ek he (asc_at h hi hk) q2
 have high : ∀ i, k < i → i < es.length → ltE e (es.getD i en0) = true := fun i hi hl => ltE_le he ek (ento_at h hl).1 q1 (asc_at h hi hl)
 refine ⟨upsB_at (by omega) (fun i hi => ?_) (fun i hi hl => high i (by omega) hl), fun i hl => ⟨fun hf => ?_, fun e' => e' ▸ hq⟩⟩
 · by_cases e' : i = k
   · rw [e']; exact q2
   · have h1 := lowr i (by omega)
     cases q : ltE e (es.getD i en0) with
     | false => rfl
     | true => exact absurd ((ltE_iff he (ento_at h (by omega)).1).1 q) (ltP_asym ((ltE_iff (ento_at h (by omega)).1 he).1 h1))
 · obtain ⟨p1, p2⟩ := (off_no _ _).1 hf
   rcases Nat.lt_trichotomy i k with c | c | c
   · rw [lowr i c] at p1; cases p1
   · exact c
   · rw [high i c hl] at p2; cases p2
theorem treeIs_parts {ns : List Nd} {root : Int} (h : treeIs ns root = true) : good ns (ns.length + 1) root ∧ ino ns (ns.length + 1) root none none = true ∧ ∀ i, i < ns.length → (i : Int) ∈ posL ns (ns.length + 1) root := by
 unfold treeIs at h
 rw [Bool.and_eq_true] at h
 cases hl : lnk ns (ns.length + 1) (List.replicate ns.length false) root with
 | none => rw [hl] at h; cases h.2
 | some sd =>
  rw [hl] at h
  simp only [Bool.and_eq_true] at h
  refine ⟨lnk_good ns _ _ _ _ hl, h.2.2.2, fun i hi => ?_⟩
  have hln : sd.length = ns.length := by
   have hg : ∀ (f : Nat) (s : List Bool) (x : Int) (s' : List Bool), lnk ns f s x = some s' → s'.length = s.length := fun f => by
    induction f with
    | zero => intro s x s' q; cases q
    | succ f ih =>
     intro s x s' q
     unfold lnk at q
     split at q
     · cases q
     · have hf : ∀ (l : List Int) (t t' : List Bool), l.foldlM (fun s k => lnk ns f s k) t = some t' → t'.length = t.length := fun l => by
        induction l with
        | nil => intro t t' e; have : t = t' := by simpa using e
                 rw [this]
        | cons y l ihl =>
         intro t t' e
         rw [List.foldlM_cons] at e
         cases hy : lnk ns f t y with
         | none => rw [hy] at e; cases e
         | some t1 => rw [hy] at e; exact (ihl t1 t' e).trans (ih t y t1 hy)
       rw [hf _ _ _ q, List.length_set]
   rw [hg _ _ _ _ hl, List.length_replicate]
  have hs : sd.getD i false = true := by
   have := List.all_eq_true.1 h.2.1 (sd[i]'(by omega)) (List.getElem_mem _)
   rw [List.getD_eq_getElem?_getD, List.getElem?_eq_getElem (by omega)]
   exact this
  rcases lnk_pos ns _ _ _ _ hl i hs with q | q
  · rw [List.getD_eq_getElem?_getD] at q
    by_cases hr : i < (List.replicate ns.length false).length
    · rw [List.getElem?_eq_getElem hr, List.getElem_replicate] at q; cases q
    · rw [List.getElem?_eq_none (by omega)] at q; cases q
  · exact q
theorem okO_none : okO none := fun a h => by cases h
def isAt (ns : List Nd) (root : Int) (e : En) : Bool :=
 let es := (ns.getD (leafW ns (ns.length + 1) root e).toNat nd0).es
 decide (0 < upsB es e) && !offE e (es.getD (upsB es e - 1) en0)
theorem pos_node (ns : List Nd) : ∀ (f : Nat) (x y : Int) (lo hi : Option En), good ns f x → ino ns f x lo hi = true → y ∈ posL ns f x → ∃ lo' hi', nodeOk lo' hi' (ns.getD y.toNat nd0).es = true
 | 0, _, _, _, _, hg, _, _ => hg.elim
 | f + 1, x, y, lo, hi, hg, ho, hy => by
  obtain ⟨hn, hk⟩ := ino_node ho
  rcases pos_kid hy with rfl | ⟨i, hi', hy'⟩
  · exact ⟨lo, hi, hn⟩
  · exact pos_node ns f _ y _ _ (hg.2.2.2 _ (getD_mem11 hi')) (hk i hi') hy'
theorem node_ok {ns : List Nd} {root : Int} (h : treeIs ns root = true) {i : Nat} (hi : i < ns.length) : ∃ lo hi, nodeOk lo hi (ns.getD i nd0).es = true := by
 obtain ⟨hg, ho, hp⟩ := treeIs_parts h
 have := pos_node ns _ _ _ _ _ hg ho (hp i hi)
 rw [Int.toNat_natCast] at this
 exact this
end Go.Proofs.YtlkoghdajpbffaaGreat
/- Trees, plain: an entry is there just if it is at the end of its way; without it the nodes are as both sides tell. No program, no conditions. -/

namespace Go.Proofs.YtlkoghdajpbffaaGreat
open Go.RowKit
set_option maxRecDepth 100000
theorem upsB_le (es : List En) (e : En) : upsB es e ≤ es.length := List.countP_le_length
theorem leafW_pos (ns : List Nd) (e : En) : ∀ (f : Nat) (x : Int), good ns f x → leafW ns f x e ∈ posL ns f x ∧ (ns.getD (leafW ns f x e).toNat nd0).leaf = true ∧ 0 ≤ leafW ns f x e ∧ leafW ns f x e < ns.length
 | 0, _, h => h.elim
 | f + 1, x, h => by
  unfold leafW posL
  cases hl : (ns.getD x.toNat nd0).leaf with
  | true =>
   rw [if_pos rfl]
   exact ⟨List.mem_cons_self, hl, h.2.1, h.2.2.1⟩
  | false =>
   rw [if_neg (by simp)]
   have hf := form_kids h.1 hl
   have hu := upsB_le (ns.getD x.toNat nd0).es e
   have hk : upsB (ns.getD x.toNat nd0).es e < (ns.getD x.toNat nd0).ks.length := by omega
   obtain ⟨h1, h2, h3⟩ := leafW_pos ns e f _ (h.2.2.2 _ (getD_mem11 hk))
   refine ⟨List.mem_cons_of_mem _ (List.mem_flatten.2 ⟨_, List.mem_map.2 ⟨_, getD_mem11 hk, rfl⟩, h1⟩), h2, h3⟩
theorem lfs_mem (ns : List Nd) (z : En) : ∀ (f : Nat) (x : Int), good ns f x → (z ∈ lfs ns f x ↔ ∃ y ∈ posL ns f x, (ns.getD y.toNat nd0).leaf = true ∧ z ∈ (ns.getD y.toNat nd0).es)
 | 0, _, h => h.elim
 | f + 1, x, h => by
  rw [lfs]
  cases hl : (ns.getD x.toNat nd0).leaf with
  | true =>
   rw [if_pos rfl]
   have hk := (form_leaf h.1 hl).2
   constructor
   · intro hz
     exact ⟨x, by unfold posL; exact List.mem_cons_self, hl, hz⟩
   · rintro ⟨y, hy, _, hz⟩
     rcases pos_kid hy with rfl | ⟨i, hi, _⟩
     · exact hz
     · omega
  | false =>
   rw [if_neg (by simp)]
   constructor
   · intro hz
     obtain ⟨L, hL, hz'⟩ := List.mem_flatten.1 hz
     obtain ⟨k, hk, rfl⟩ := List.mem_map.1 hL
     obtain ⟨y, hy, h1, h2⟩ := (lfs_mem ns z f k (h.2.2.2 k hk)).1 hz'
     exact ⟨y, by unfold posL; exact List.mem_cons_of_mem _ (List.mem_flatten.2 ⟨_, List.mem_map.2 ⟨k, hk, rfl⟩, hy⟩), h1, h2⟩
   · rintro ⟨y, hy, h1, h2⟩
     rcases pos_kid hy with rfl | ⟨i, hi, hy'⟩
     · rw [hl] at h1; cases h1
     · exact List.mem_flatten.2 ⟨_, List.mem_map.2 ⟨_, getD_mem11 hi, rfl⟩, (lfs_mem ns z f _ (h.2.2.2 _ (getD_mem11 hi))).2 ⟨y, hy', h1, h2⟩⟩
theorem isAt_of {ns : List Nd} {root : Int} (h : treeIs ns root = true) {e : En} (he : entOk e = true) {k : Nat} (hk : k < (ns.getD (leafW ns (ns.length + 1) root e).toNat nd0).es.length) (hq : offE e ((ns.getD (leafW ns (ns.length + 1) root e).toNat nd0).es.getD k en0) = false) : isAt ns root e = true := by
 obtain ⟨hg, ho, hp⟩ := treeIs_parts h
 obtain ⟨l1, _, _, _⟩ := leafW_pos ns e _ _ hg
 obtain ⟨lo, hi, hn⟩ := pos_node ns _ _ _ _ _ hg ho l1
 obtain ⟨hu, _⟩ := leaf_at hn he hk hq
 unfold isAt
 simp only
 rw [hu, decide_eq_true (by omega), show k + 1 - 1 = k by omega, hq]
 rfl
theorem there_iff {ns : List Nd} {root : Int} (h : treeIs ns root = true) {e : En} (he : entOk e = true) : (allS ns root).any (fun z => !offE e z) = isAt ns root e := by
 obtain ⟨hg, ho, hp⟩ := treeIs_parts h
 obtain ⟨l1, l2, _, _⟩ := leafW_pos ns e _ _ hg
 rw [Bool.eq_iff_iff, List.any_eq_true, allS_lfs h]
 constructor
 · rintro ⟨z, hz, hq⟩
   have hq' : offE e z = false := by simpa using hq
   obtain ⟨y, hy, h1, h2⟩ := (lfs_mem ns z _ _ hg).1 hz
   obtain ⟨q1, q2⟩ := (off_no _ _).1 hq'
   have ey := leaf_uniq ns he _ _ _ _ _ hg ho okO_none okO_none hy h1 z h2 q1 q2
   rw [ey] at h2
   obtain ⟨k, hk, rfl⟩ := List.mem_iff_getElem.1 h2
   exact isAt_of h he hk (by rw [List.getD_eq_getElem?_getD, List.getElem?_eq_getElem hk]; exact hq')
 · intro hi
   unfold isAt at hi
   simp only [Bool.and_eq_true, decide_eq_true_eq, Bool.not_eq_true'] at hi
   have hu := upsB_le (ns.getD (leafW ns (ns.length + 1) root e).toNat nd0).es e
   have hk : upsB (ns.getD (leafW ns (ns.length + 1) root e).toNat nd0).es e - 1 < (ns.getD (leafW ns (ns.length + 1) root e).toNat nd0).es.length := by omega
   refine ⟨_, (lfs_mem ns _ _ _ hg).2 ⟨_, l1, l2, ?_⟩, by rw [hi.2]; rfl⟩
   rw [List.getD_eq_getElem?_getD (l := (ns.getD (leafW ns (ns.length + 1) root e).toNat nd0).es), List.getElem?_eq_getElem hk]
   exact List.getElem_mem hk
end Go.Proofs.YtlkoghdajpbffaaGreat
/- The program's way down: how many entries lie ahead, the steps to a leaf. Conditions: texts of at most 2^21 bytes. -/



namespace Go.Proofs.YtlkoghdajpbffaaGreat
open Go.RowKit
set_option maxRecDepth 100000
set_option maxHeartbeats 3200000 in
theorem impl_ups {w0 : World} (KQ NQ : Int) (FQ : Nat) {aq : Option Addr} {zq : Nat} (cq : Nat) (iq : Int) {ZQ : List Int} (hl : Reads w0 aq zq ZQ) (hh : ZQ.length = zq ∧ FQ < 18446744073709551616 ∧ zq ≤ 2097152) {es : List En} {a : Option Addr} {n : Nat} (c : Nat) {w : World} (hr : ReadsE w0 a es) (hn : es.length = n) (hn4 : n ≤ 4) (hm : ∀ j, (es.getD j en0).Z.length ≤ 2097152) (hw : Below w0.heap.size w0 w) :
 Calls Tryz.prog 77 #[.slice a n c, .func (.func 83) #[.agg #[.int .i64 KQ, .int .i64 NQ, .float .f64 FQ, .slice aq zq cq, .int .i64 iq]] #[]] w fun e w' => e = .returned (.int .i64 (upsB es ⟨KQ, NQ, FQ, ZQ, iq⟩ : Nat)) ∧ Below w.heap.size w w' := by
 have HL := hid hl
 have HH := hid hh
 have HW := hid hw
 have HN := hid hn
 have HRE := hid hr
 have HM := hid hm
 clear hl hh hw hn hr hm
 go_enter Tryz.func77, Tryz.ntmps77
 go_wp2_with fail
 go_loopw [5, 10] (fun t i wr => ∃ k m : Nat, k ≤ n ∧ i = .int .i64 k ∧ t = .int .i64 m ∧ m ≤ k ∧ Hid (m = (es.take k).countP (fun y => !ltE ⟨KQ, NQ, FQ, ZQ, iq⟩ y)) ∧ Hid (Below w.heap.size w wr)) (fun _ i _ => n - (intOf i).toNat)
 case atStart => exact ⟨0, 0, Nat.zero_le _, rfl, rfl, Nat.le_refl _, hid (by simp), hid (Below.refl _ _)⟩
 case round =>
  obtain ⟨k, m, hk, rfl, rfl, hmk, HC, HB⟩ := hrel
  by_cases hlt : k < n
  · have hlt' : (k : Int) < (n : Int) := by omega
    have hk0 : (0 : Int) ≤ (k : Int) := by omega
    have HT := hid (countP_take (fun y => !ltE ⟨KQ, NQ, FQ, ZQ, iq⟩ y) es (k := k) (by rw [HN.out]; exact hlt))
    obtain ⟨b, off, a', c', rfl, bx0, r0, _, _, hf⟩ := HRE.out.at (k := k) (by rw [HN.out]; exact hlt)
    have hmz := HM.out k
    have BW := HW.out.trans (HB.out.mono HW.out.size)
    have bx := bx0.below BW qN
    have HR0 := hid r0
    generalize es.getD k en0 = e at *
    obtain ⟨K, N, F, Z, id⟩ := e
    simp only at bx hmz hf
    have HR1 := hid (show Reads w0 a' Z.length Z from HR0.out)
    obtain ⟨z, hz⟩ : ∃ z, Z.length = z := ⟨_, rfl⟩
    rw [hz] at bx hmz HR1
    have HZ := hid hz
    have hst := fun w a m => run_store Tryz.prog w a (.float .f64 F) m rfl
    have HBX := hid (Below.alloc1 wr (.cells #[.int .i64 K, .int .i64 N, .float .f64 F, .slice a' z c', .int .i64 id] 48))
    have HBW := hid BW
    obtain ⟨c0, c1, c2, c3, c4⟩ := bx
    clear r0 hz bx0 HR0 BW
    go_wp2_with fail
    clear c0 c1 c2 c3 c4
    refine (impl_notBelow KQ NQ FQ cq iq K N F c' id HH.out.2.1 hf (HL.out.below (HBW.out.trans (HBX.out.mono HBW.out.size)) qN) (HR1.out.below (HBW.out.trans (HBX.out.mono HBW.out.size)) qN) HH.out.2.2 hmz).mono ?_
    rintro e w1 ⟨rfl, b1⟩
    have HEq := hid (show (!ltB (cmpI KQ NQ FQ zq ZQ K N F z Z) iq id) = (!ltE ⟨KQ, NQ, FQ, ZQ, iq⟩ ⟨K, N, F, Z, id⟩) by unfold ltE cmpE; simp only [HH.out.1, HZ.out])
    rw [HEq.out]
    replace HB := hid ((HB.out.trans (HBX.out.mono HB.out.size)).trans (b1.mono (HB.out.trans (HBX.out.mono HB.out.size)).size))
    clear b1 HBX HBW
    clear HEq
    generalize (!ltE ⟨KQ, NQ, FQ, ZQ, iq⟩ ⟨K, N, F, Z, id⟩) = X at *
    cases X with
    | false =>
     go_wp2_with fail
     go_roundw
     case rel => exact ⟨k + 1, m, by omega, by go_num, rfl, by omega, hid (by have := HC.out; rw [HT.out]; simp; omega), HB⟩
     case measure => simp [intOf]; omega
    | true =>
     go_wp2_with fail
     go_roundw
     case rel => exact ⟨k + 1, m + 1, by omega, by go_num, by go_num, by omega, hid (by have := HC.out; rw [HT.out]; simp; omega), HB⟩
     case measure => simp [intOf]; omega
  · obtain rfl : k = n := by omega
    go_wp2_with fail
    go_ret
    refine ⟨?_, HB.out⟩
    have e0 : es.take k = es := List.take_of_length_le (by rw [HN.out]; exact Nat.le_refl _)
    have := HC.out
    rw [e0] at this
    rw [this]
    rfl
set_option maxHeartbeats 1600000 in
theorem impl_placeIn {w0 : World} (KQ NQ : Int) (FQ : Nat) {aq : Option Addr} {zq : Nat} (cq : Nat) (iq : Int) {ZQ : List Int} (hq : Reads w0 aq zq ZQ) (hqq : ZQ.length = zq ∧ FQ < 18446744073709551616 ∧ zq ≤ 2097152) {es : List En} {a : Option Addr} {n : Nat} {c : Nat} {kv : Value} {x : Int} {lf : Bool} {g : Nat} {w : World} (hr : ReadsE w0 a es) (hn : es.length = n) (hn4 : n ≤ 4) (hm : ∀ j, (es.getD j en0).Z.length ≤ 2097152) (hw : Below w0.heap.size w0 w) (hg : w.heap[g]? = some (.cells #[.int .i64 x, .bool lf, .slice a n c, kv] 112)) :
 Calls Tryz.prog 55 #[.agg #[.int .i64 KQ, .int .i64 NQ, .float .f64 FQ, .slice aq zq cq, .int .i64 iq], .pointer (some ⟨g, 0, none⟩)] w fun e w' => e = .returned (.int .i64 (upsB es ⟨KQ, NQ, FQ, ZQ, iq⟩ : Nat)) ∧ Below w.heap.size w w' := by
 have hst := fun w a m => run_store Tryz.prog w a (.float .f64 FQ) m rfl
 have HB := hid (Below.alloc1 w (.cells #[.int .i64 KQ, .int .i64 NQ, .float .f64 FQ, .slice aq zq cq, .int .i64 iq] 48))
 have HR0 := hid (heap_alloc_new w (.cells #[.int .i64 KQ, .int .i64 NQ, .float .f64 FQ, .slice aq zq cq, .int .i64 iq] 48))
 have HW := hid hw
 have HG := hid hg
 have hgl : g < w.heap.size := (qL hg)
 have HGl := hid (show g < w.heap.size ∧ w.heap.size < (w.alloc (.cells #[.int .i64 KQ, .int .i64 NQ, .float .f64 FQ, .slice aq zq cq, .int .i64 iq] 48)).heap.size by rw [alloc_size]; omega)
 clear hw hg hgl
 go_enter Tryz.func55, Tryz.ntmps55
 go_wp2_with fail
 generalize w.alloc (.cells #[.int .i64 KQ, .int .i64 NQ, .float .f64 FQ, .slice aq zq cq, .int .i64 iq] 48) = V at *
 obtain ⟨p0, hp0⟩ : ∃ p0, w.heap.size = p0 := ⟨_, rfl⟩
 have HP0 := hid hp0
 rw [hp0] at HR0
 try simp only [hp0]
 clear hp0
 have HKp := hid (show ∀ W, Below V.heap.size V W → (fun W => W.cell? ⟨p0, 0, none⟩ = some (.int .i64 KQ) ∧ W.cell? ⟨p0, 1, none⟩ = some (.int .i64 NQ) ∧ W.cell? ⟨p0, 2, none⟩ = some (.float .f64 FQ) ∧ W.cell? ⟨p0, 3, none⟩ = some (.slice aq zq cq) ∧ W.cell? ⟨p0, 4, none⟩ = some (.int .i64 iq) ∧ W.cell? ⟨g, 2, none⟩ = some (.slice a n c)) W from fun W b => by
  have z1 := HGl.out
  have z2 := HP0.out
  have r1 : W.heap[p0]? = _ := (b.block p0 (by omega)).trans HR0.out
  have r2 : W.heap[g]? = _ := ((HB.out.trans (b.mono HB.out.size)).block g (by omega)).trans HG.out
  exact ⟨qC r1, qC r1, qC r1, qC r1, qC r1, qC r2⟩)
 have BC := hid ((Still.drew V).below V.heap.size)
 refine region_K 99 (fun W => W.cell? ⟨p0, 0, none⟩ = some (.int .i64 KQ) ∧ W.cell? ⟨p0, 1, none⟩ = some (.int .i64 NQ) ∧ W.cell? ⟨p0, 2, none⟩ = some (.float .f64 FQ) ∧ W.cell? ⟨p0, 3, none⟩ = some (.slice aq zq cq) ∧ W.cell? ⟨p0, 4, none⟩ = some (.int .i64 iq) ∧ W.cell? ⟨g, 2, none⟩ = some (.slice a n c)) (by kernel_rfl) ?_ (fun hHeld => ?_)
 · exact HKp.out _ BC.out
 generalize V.drew = vd at *
 refine qT 0 rfl hHeld 5 rfl ?_
 refine qT 1 rfl hHeld 6 rfl ?_
 refine qT 2 rfl hHeld 7 rfl ?_
 refine qT 3 rfl hHeld 8 rfl ?_
 refine qT 4 rfl hHeld 9 rfl ?_
 refine qT 5 rfl hHeld 10 rfl ?_
 refine qS 6 rfl fun KP hK => ?_
 go_simp
 refine (impl_ups KQ NQ FQ cq iq hq hqq c hr hn hn4 hm (HW.out.trans ((HB.out.trans (BC.out.mono HB.out.size)).mono HW.out.size))).mono ?_
 rintro e v1 ⟨rfl, b⟩
 replace BC := hid (BC.out.trans (b.mono BC.out.size))
 clear b
 clear hHeld
 refine hK.out _ _ (HKp.out _ BC.out) (fun hHeld => ?_)
 clear hK KP
 try simp only [qP]
 refine qT 7 rfl hHeld 4 rfl ?_
 refine anyK_done (by kernel_rfl) ?_ _
 clear hHeld
 go_wp2_with fail
 go_ret
 exact ⟨rfl, HB.out.trans (BC.out.mono HB.out.size)⟩
theorem Tryz.infoStep : (Tryz.prog.info? 72).map (fun i => (i.zero, i.size, i.bytes)) = some (some (.agg #[.pointer none, .int .i64 0]), 2, 16) := by kernel_rfl
end Go.Proofs.YtlkoghdajpbffaaGreat
/- The library's Grow and Concat over entries. Conditions: at most four entries each. -/


namespace Go.Proofs.YtlkoghdajpbffaaGreat
open Go.RowKit
set_option maxRecDepth 100000
theorem owns_zerosE (w : World) (n : Nat) (hn : n ≤ 2097152) : ((w.alloc (.cells (Builtin.zeroCells (Value.agg #[.int .i64 0, .int .i64 0, .float .f64 0, .slice none 0 0, .int .i64 0]).cells n ++ Builtin.zeroCells (Value.agg #[.int .i64 0, .int .i64 0, .float .f64 0, .slice none 0 0, .int .i64 0]).cells (grownCap w n 0 48 - n)) 48)).drew).ownsRow w.heap.size 48 5 (.slice (some ⟨w.heap.size, 0, none⟩) 0 (grownCap w n 0 48)) 0 [] := by
 have hge := grownCap_ge w n 0 48
 have hcm : grownCap w n 0 48 ≤ maxLen := grownCap_le_maxLen w n 0 48 (by unfold maxLen; omega)
 refine ⟨rfl, .inr ⟨w.heap.size, _, _, rfl, Nat.le_refl _, heap_alloc_new w _, Nat.zero_le _, hcm, ?_, ?_⟩⟩
 · rw [Array.size_append, size_zeroCells, size_zeroCells]
   rw [show (Value.agg #[.int .i64 0, .int .i64 0, .float .f64 0, .slice none 0 0, .int .i64 0]).cells.size = 5 from rfl]
   omega
 · simp
set_option maxHeartbeats 1600000 in
theorem grow_ents_pos (n : Nat) (h0 : 0 < n) (hn : n ≤ 2097152) (w : World) :
 Calls Tryz.prog 109 #[.slice none 0 0, .int .i64 n] w fun e w' => ∃ v, e = .returned v ∧ w'.ownsRow w.heap.size 48 5 v 0 [] ∧ Below w.heap.size w w' := by
 obtain ⟨i0, hi, hz0, hz1, hz2⟩ := info_parts Tryz.infoEn
 have hr := Go.Lib.run_append_nil_zeros (P := Tryz.prog) w 110 3 110 48 i0 (.agg #[.int .i64 0, .int .i64 0, .float .f64 0, .slice none 0 0, .int .i64 0]) .i64 .i64 Tryz.underlying110 Tryz.underlying3 hi hz0 n h0 (by omega) (by omega) (by rw [hz2]; omega)
 have a1 : (0 : Int) < (n : Int) := by omega
 have a2 : ¬ (n : Int) < 0 := by omega
 have a3 : (n : Int) ≤ 2097152 := by omega
 have HO := hid (owns_zerosE w n hn)
 go_enter Tryz.func109, Tryz.ntmps109
 go_wp2_with (at_builtin; refine Go.Lib.wpList_append_run _ rfl _ _ _ _ rfl _ _ rfl rfl _ _ hr ?_)
 go_ret
 exact ⟨_, rfl, HO.out, (Below.alloc1 w _).trans ((Still.drew _).below _)⟩
theorem grow_ents (n : Nat) (hn : n ≤ 2097152) (w : World) :
 Calls Tryz.prog 109 #[.slice none 0 0, .int .i64 n] w fun e w' => ∃ v, e = .returned v ∧ w'.ownsRow w.heap.size 48 5 v 0 [] ∧ Below w.heap.size w w' := by
 by_cases h0 : 0 < n
 · exact grow_ents_pos n h0 hn w
 · obtain rfl : n = 0 := by omega
   go_enter Tryz.func109, Tryz.ntmps109
   go_wp2_with fail
   go_ret
   exact ⟨_, rfl, World.ownsRow_nil _ _ _ _, Below.refl _ _⟩
end Go.Proofs.YtlkoghdajpbffaaGreat
