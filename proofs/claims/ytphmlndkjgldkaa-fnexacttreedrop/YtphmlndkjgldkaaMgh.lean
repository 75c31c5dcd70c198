/- Texts of this proof in one: Mj11 Mk11 Ml11 Nc11 Nd11. -/
import Derived.Test.YtphmlndkjgldkaaMgg
import Derived.Lib.AppendZeros
/- Trees, plain: the way down to an entry; an entry stands in no leaf but the one at the end of its way. No program, no conditions. -/

namespace Go.Proofs.Ytphmlndkjgldkaa
open Go.RowKit
set_option maxRecDepth 100000
theorem getD_mem11 {l : List Int} {i : Nat} (h : i < l.length) : l.getD i 0 ∈ l := by
 rw [List.getD_eq_getElem?_getD, List.getElem?_eq_getElem h]
 exact List.getElem_mem h
def leafW (ns : List Nd) : Nat → Int → En → Int
 | 0, x, _ => x
 | f + 1, x, e => if (ns.getD x.toNat nd0).leaf then x else leafW ns f ((ns.getD x.toNat nd0).ks.getD (upsB (ns.getD x.toNat nd0).es e) 0) e
def posL (ns : List Nd) : Nat → Int → List Int
 | 0, _ => []
 | f + 1, x => x :: ((ns.getD x.toNat nd0).ks.map (fun k => posL ns f k)).flatten
def good (ns : List Nd) : Nat → Int → Prop
 | 0, _ => False
 | f + 1, x => formOk (ns.getD x.toNat nd0) = true ∧ 0 ≤ x ∧ x < ns.length ∧ ∀ k ∈ (ns.getD x.toNat nd0).ks, good ns f k
theorem foldM_some {g : List Bool → Int → Option (List Bool)} : ∀ (l : List Int) (s s' : List Bool), l.foldlM (fun s k => g s k) s = some s' → ∀ k ∈ l, ∃ s1 s2, g s1 k = some s2
 | [], _, _, _, k, hk => by cases hk
 | x :: l, s, s', h, k, hk => by
  rw [List.foldlM_cons] at h
  cases hx : g s x with
  | none => rw [hx] at h; cases h
  | some s1 =>
   rw [hx] at h
   rcases List.mem_cons.1 hk with rfl | hk
   · exact ⟨s, s1, hx⟩
   · exact foldM_some l s1 s' h k hk
theorem lnk_good (ns : List Nd) : ∀ (f : Nat) (sd : List Bool) (x : Int) (sd' : List Bool), lnk ns f sd x = some sd' → good ns f x
 | 0, _, _, _, h => by cases h
 | f + 1, sd, x, sd', h => by
  unfold lnk at h
  split at h
  · cases h
  · rename_i hc
    rw [Bool.not_eq_true, Bool.or_eq_false_iff] at hc
    have ho := outB_no hc.1
    refine ⟨by simpa using hc.2, ho.1, ho.2.1, fun k hk => ?_⟩
    obtain ⟨s1, s2, hs⟩ := foldM_some (g := fun s k => lnk ns f s k) _ _ _ h k hk
    exact lnk_good ns f s1 k s2 hs
theorem foldM_pos (ns : List Nd) (f : Nat) (ih : ∀ (sd : List Bool) (x : Int) (sd' : List Bool), lnk ns f sd x = some sd' → ∀ i : Nat, sd'.getD i false = true → sd.getD i false = true ∨ (i : Int) ∈ posL ns f x) : ∀ (l : List Int) (s s' : List Bool), l.foldlM (fun s k => lnk ns f s k) s = some s' → ∀ i : Nat, s'.getD i false = true → s.getD i false = true ∨ (i : Int) ∈ (l.map (fun k => posL ns f k)).flatten
 | [], s, s', h, i, hi => by
  have : s = s' := by simpa using h
  rw [this]; exact .inl hi
 | x :: l, s, s', h, i, hi => by
  rw [List.foldlM_cons] at h
  cases hx : lnk ns f s x with
  | none => rw [hx] at h; cases h
  | some s1 =>
   rw [hx] at h
   rw [List.map_cons, List.flatten_cons, List.mem_append]
   rcases foldM_pos ns f ih l s1 s' h i hi with q | q
   · rcases ih s x s1 hx i q with q' | q'
     · exact .inl q'
     · exact .inr (.inl q')
   · exact .inr (.inr q)
theorem lnk_pos (ns : List Nd) : ∀ (f : Nat) (sd : List Bool) (x : Int) (sd' : List Bool), lnk ns f sd x = some sd' → ∀ i : Nat, sd'.getD i false = true → sd.getD i false = true ∨ (i : Int) ∈ posL ns f x
 | 0, _, _, _, h, _, _ => by cases h
 | f + 1, sd, x, sd', h, i, hi => by
  unfold lnk at h
  split at h
  · cases h
  · rename_i hc
    rw [Bool.not_eq_true, Bool.or_eq_false_iff] at hc
    have ho := outB_no hc.1
    rcases foldM_pos ns f (lnk_pos ns f) _ _ _ h i hi with q | q
    · by_cases e : i = x.toNat
      · right
        unfold posL
        rw [show (i : Int) = x by omega]
        exact List.mem_cons_self
      · left
        rw [List.getD_eq_getElem?_getD, List.getElem?_set_ne (fun q => e q.symm), ← List.getD_eq_getElem?_getD] at q
        exact q
    · right
      unfold posL
      exact List.mem_cons_of_mem _ q
theorem ento_at {lo hi : Option En} {es : List En} (h : nodeOk lo hi es = true) {i : Nat} (hi' : i < es.length) : entOk (es.getD i en0) = true ∧ loB lo (es.getD i en0) = true ∧ hiB hi (es.getD i en0) = true := by
 unfold nodeOk at h
 have := List.all_eq_true.1 h i (List.mem_range.2 hi')
 unfold okAt at this
 rw [Bool.and_eq_true, hasB_of, Bool.and_eq_true, Bool.and_eq_true] at this
 exact ⟨this.1.1, this.1.2.1, this.1.2.2⟩
theorem asc_at {lo hi : Option En} {es : List En} (h : nodeOk lo hi es = true) : ∀ {j i : Nat}, i < j → j < es.length → ltE (es.getD i en0) (es.getD j en0) = true
 | 0, i, hij, _ => by omega
 | j + 1, i, hij, hj => by
  have h1 : ltE (es.getD j en0) (es.getD (j + 1) en0) = true := by
   unfold nodeOk at h
   have := List.all_eq_true.1 h (j + 1) (List.mem_range.2 hj)
   unfold okAt at this
   rw [Bool.and_eq_true, decide_eq_false (by omega), Bool.false_or] at this
   exact this.2
  by_cases e : i = j
  · rw [e]; exact h1
  · exact ltE_trans (ento_at h (by omega)).1 (ento_at h (by omega)).1 (ento_at h hj).1 (asc_at h (by omega) (by omega)) h1
def okO (o : Option En) : Prop := ∀ a, o = some a → entOk a = true
theorem lowAt_ok {lo hi : Option En} {es : List En} (h : nodeOk lo hi es = true) (hlo : okO lo) {i : Nat} (hi' : i ≤ es.length) : okO (lowAt es lo i) := by
 intro a ha
 unfold lowAt at ha
 split at ha
 · exact hlo a ha
 · cases ha; exact (ento_at h (by omega)).1
theorem highAt_ok {lo hi : Option En} {es : List En} (h : nodeOk lo hi es = true) (hhi : okO hi) (i : Nat) : okO (highAt es hi i) := by
 intro a ha
 unfold highAt at ha
 split at ha
 · cases ha; exact (ento_at h (by assumption)).1
 · exact hhi a ha
theorem good_len {ns : List Nd} {f : Nat} {x : Int} (h : good ns (f + 1) x) {i : Nat} (hi : i < (ns.getD x.toNat nd0).ks.length) : i ≤ (ns.getD x.toNat nd0).es.length := by
 cases hl : (ns.getD x.toNat nd0).leaf with
 | true => have := form_leaf h.1 hl; omega
 | false => have := form_kids h.1 hl; omega
theorem ino_node {ns : List Nd} {f : Nat} {x : Int} {lo hi : Option En} (h : ino ns (f + 1) x lo hi = true) : nodeOk lo hi (ns.getD x.toNat nd0).es = true ∧ ∀ i, i < (ns.getD x.toNat nd0).ks.length → ino ns f ((ns.getD x.toNat nd0).ks.getD i 0) (lowAt (ns.getD x.toNat nd0).es lo i) (highAt (ns.getD x.toNat nd0).es hi i) = true := by
 rw [ino] at h
 rw [Bool.and_eq_true, List.all_eq_true] at h
 exact ⟨h.1, fun i hi' => h.2 i (List.mem_range.2 hi')⟩
theorem pos_kid {ns : List Nd} {f : Nat} {x y : Int} (h : y ∈ posL ns (f + 1) x) : y = x ∨ ∃ i, i < (ns.getD x.toNat nd0).ks.length ∧ y ∈ posL ns f ((ns.getD x.toNat nd0).ks.getD i 0) := by
 unfold posL at h
 rcases List.mem_cons.1 h with q | q
 · exact .inl q
 · obtain ⟨L, hL, hy⟩ := List.mem_flatten.1 q
   obtain ⟨k, hk, rfl⟩ := List.mem_map.1 hL
   obtain ⟨i, hi, rfl⟩ := List.mem_iff_getElem.1 hk
   exact .inr ⟨i, hi, by rw [List.getD_eq_getElem?_getD, List.getElem?_eq_getElem hi]; exact hy⟩
theorem pos_in (ns : List Nd) : ∀ (f : Nat) (x y : Int) (lo hi : Option En), good ns f x → ino ns f x lo hi = true → okO lo → okO hi → y ∈ posL ns f x → ∀ z ∈ (ns.getD y.toNat nd0).es, entOk z = true ∧ loB lo z = true ∧ hiB hi z = true
 | 0, _, _, _, _, hg, _, _, _, _, _, _ => hg.elim
 | f + 1, x, y, lo, hi, hg, ho, hlo, hhi, hy, z, hz => by
  obtain ⟨hn, hk⟩ := ino_node ho
  rcases pos_kid hy with rfl | ⟨i, hi', hy'⟩
  · obtain ⟨j, hj, rfl⟩ := List.mem_iff_getElem.1 hz
    have := ento_at hn hj
    rw [List.getD_eq_getElem?_getD, List.getElem?_eq_getElem hj] at this
    exact this
  · have hle := good_len hg hi'
    have hkm : (ns.getD x.toNat nd0).ks.getD i 0 ∈ (ns.getD x.toNat nd0).ks := getD_mem11 hi'
    obtain ⟨z1, z2, z3⟩ := pos_in ns f _ y _ _ (hg.2.2.2 _ hkm) (hk i hi') (lowAt_ok hn hlo hle) (highAt_ok hn hhi i) hy' z hz
    refine ⟨z1, ?_, ?_⟩
    · unfold lowAt at z2
      split at z2
      · exact z2
      · cases lo with
        | none => rfl
        | some a =>
         have ea := ento_at hn (i := i - 1) (by omega)
         have h1 : ltE ((ns.getD x.toNat nd0).es.getD (i - 1) en0) a = false := by simpa [loB] using ea.2.1
         have h2 : ltE z ((ns.getD x.toNat nd0).es.getD (i - 1) en0) = false := by simpa [loB] using z2
         simp only [loB]
         rw [leE_trans (hlo a rfl) ea.1 z1 h1 h2]; rfl
    · unfold highAt at z3
      split at z3
      · rename_i hl
        cases hi with
        | none => rfl
        | some b =>
         have ea := ento_at hn hl
         exact ltE_trans z1 ea.1 (hhi b rfl) z3 ea.2.2
      · exact z3
theorem upsB_at {es : List En} {e : En} {j : Nat} (hj : j ≤ es.length) (h1 : ∀ i, i < j → ltE e (es.getD i en0) = false) (h2 : ∀ i, j ≤ i → i < es.length → ltE e (es.getD i en0) = true) : upsB es e = j := by
 unfold upsB
 have e1 : es = es.take j ++ es.drop j := (List.take_append_drop j es).symm
 rw [e1, List.countP_append]
 have a1 : (es.take j).countP (fun x => !ltE e x) = (es.take j).length := by
  rw [List.countP_eq_length]
  intro z hz
  obtain ⟨i, hi, rfl⟩ := List.mem_iff_getElem.1 hz
  rw [List.length_take] at hi
  have := h1 i (by omega)
  rw [List.getD_eq_getElem?_getD, List.getElem?_eq_getElem (by omega)] at this
  rw [List.getElem_take, Bool.not_eq_true']
  exact this
 have a2 : (es.drop j).countP (fun x => !ltE e x) = 0 := by
  rw [List.countP_eq_zero]
  intro z hz
  obtain ⟨i, hi, rfl⟩ := List.mem_iff_getElem.1 hz
  rw [List.length_drop] at hi
  have := h2 (j + i) (by omega) (by omega)
  rw [List.getD_eq_getElem?_getD, List.getElem?_eq_getElem (by omega)] at this
  rw [List.getElem_drop]
  rw [show ltE e es[j + i] = true from this]
  simp
 rw [a1, a2, List.length_take]
 omega
theorem leaf_uniq (ns : List Nd) {e : En} (he : entOk e = true) : ∀ (f : Nat) (x y : Int) (lo hi : Option En), good ns f x → ino ns f x lo hi = true → okO lo → okO hi → y ∈ posL ns f x → (ns.getD y.toNat nd0).leaf = true → ∀ z ∈ (ns.getD y.toNat nd0).es, ltE z e = false → ltE e z = false → y = leafW ns f x e
 | 0, _, _, _, _, hg, _, _, _, _, _, _, _, _, _ => hg.elim
 | f + 1, x, y, lo, hi, hg, ho, hlo, hhi, hy, hlf, z, hz, q1, q2 => by
  obtain ⟨hn, hk⟩ := ino_node ho
  unfold leafW
  rcases pos_kid hy with rfl | ⟨i, hi', hy'⟩
  · rw [if_pos hlf]
  · have hle := good_len hg hi'
    have hkm : (ns.getD x.toNat nd0).ks.getD i 0 ∈ (ns.getD x.toNat nd0).ks := getD_mem11 hi'
    have hx : (ns.getD x.toNat nd0).leaf = false := by
     cases hl : (ns.getD x.toNat nd0).leaf with
     | false => rfl
     | true => have := (form_leaf hg.1 hl).2; omega
    obtain ⟨z1, z2, z3⟩ := pos_in ns f _ y _ _ (hg.2.2.2 _ hkm) (hk i hi') (lowAt_ok hn hlo hle) (highAt_ok hn hhi i) hy' z hz
    have hu : upsB (ns.getD x.toNat nd0).es e = i := by
     refine upsB_at hle (fun t ht => ?_) (fun t ht ht2 => ?_)
     · have ea := ento_at hn (i := i - 1) (by omega)
       have h2 : ltE z ((ns.getD x.toNat nd0).es.getD (i - 1) en0) = false := by
        unfold lowAt at z2
        rw [if_neg (by omega)] at z2
        simpa [loB] using z2
       have h3 : ltE e ((ns.getD x.toNat nd0).es.getD (i - 1) en0) = false := leE_trans ea.1 z1 he h2 q2
       by_cases h4 : t = i - 1
       · rw [h4]; exact h3
       · have et := ento_at hn (i := t) (by omega)
         have h5 := asc_at hn (i := t) (j := i - 1) (by omega) (by omega)
         have h6 : ltE ((ns.getD x.toNat nd0).es.getD (i - 1) en0) ((ns.getD x.toNat nd0).es.getD t en0) = false := by
          cases q : ltE ((ns.getD x.toNat nd0).es.getD (i - 1) en0) ((ns.getD x.toNat nd0).es.getD t en0) with
          | false => rfl
          | true => exact absurd ((ltE_iff ea.1 et.1).1 q) (ltP_asym ((ltE_iff et.1 ea.1).1 h5))
         exact leE_trans et.1 ea.1 he h6 h3
     · have hil : i < (ns.getD x.toNat nd0).es.length := by omega
       have ei := ento_at hn hil
       have h2 : ltE z ((ns.getD x.toNat nd0).es.getD i en0) = true := by
        unfold highAt at z3
        rw [if_pos hil] at z3
        exact z3
       have h3 : ltE e ((ns.getD x.toNat nd0).es.getD i en0) = true := ltE_le he z1 ei.1 q1 h2
       by_cases h4 : t = i
       · rw [h4]; exact h3
       · exact ltE_trans he ei.1 (ento_at hn ht2).1 h3 (asc_at hn (by omega) ht2)
    rw [if_neg (by rw [hx]; simp), hu]
    exact leaf_uniq ns he f _ y _ _ (hg.2.2.2 _ hkm) (hk i hi') (lowAt_ok hn hlo hle) (highAt_ok hn hhi i) hy' hlf z hz q1 q2
end Go.Proofs.Ytphmlndkjgldkaa
/- Trees, plain: taking an entry out: what the specification leaves in all leaves is what the program leaves in one. No program, no conditions. -/

namespace Go.Proofs.Ytphmlndkjgldkaa
open Go.RowKit
set_option maxRecDepth 100000
def offE (e x : En) : Bool := ltE x e || ltE e x
def outD (e : En) (d : Nd) : Nd := if d.leaf then ⟨d.leaf, d.es.filter (offE e), d.ks⟩ else d
def dropN (ns : List Nd) (e : En) : List Nd := ns.map (outD e)
theorem filter_erase (p : En → Bool) : ∀ (es : List En) (k : Nat), k < es.length → (∀ i, i < es.length → (p (es.getD i en0) = false ↔ i = k)) → es.filter p = es.eraseIdx k
 | [], k, h, _ => by cases h
 | x :: es, 0, _, hp => by
  have h0 : p x = false := (hp 0 (by simp)).2 rfl
  rw [List.filter_cons_of_neg (by rw [h0]; simp), List.eraseIdx_zero, List.tail_cons, List.filter_eq_self]
  intro z hz
  obtain ⟨i, hi, rfl⟩ := List.mem_iff_getElem.1 hz
  cases q : p es[i] with
  | true => rfl
  | false =>
   have := (hp (i + 1) (by simpa using hi)).1 (by rw [List.getD_cons_succ, List.getD_eq_getElem?_getD, List.getElem?_eq_getElem hi]; exact q)
   omega
 | x :: es, k + 1, hk, hp => by
  have h0 : p x = true := by
   cases q : p x with
   | true => rfl
   | false => have := (hp 0 (by simp)).1 q; omega
  have ih := filter_erase p es k (by simpa using hk) (fun i hi => by
   have := hp (i + 1) (by simpa using hi)
   rw [List.getD_cons_succ] at this
   rw [this]; omega)
  rw [List.filter_cons_of_pos h0, List.eraseIdx_cons_succ, ih]
theorem off_no (e x : En) : offE e x = false ↔ (ltE x e = false ∧ ltE e x = false) := by unfold offE; rw [Bool.or_eq_false_iff]
theorem leaf_at {lo hi : Option En} {es : List En} {e : En} (h : nodeOk lo hi es = true) (he : entOk e = true) {k : Nat} (hk : k < es.length) (hq : offE e (es.getD k en0) = false) : upsB es e = k + 1 ∧ ∀ i, i < es.length → (offE e (es.getD i en0) = false ↔ i = k) := by
 obtain ⟨q1, q2⟩ := (off_no _ _).1 hq
 have ek := (ento_at h hk).1
 have lowr : ∀ i, i < k → ltE (es.getD i en0) e = true := fun i hi => ltE_lt (ento_at h (by omega)).1 ek he (asc_at h hi hk) q2
 have high : ∀ i, k < i → i < es.length → ltE e (es.getD i en0) = true := fun i hi hl => ltE_le he ek (ento_at h hl).1 q1 (asc_at h hi hl)
 refine ⟨upsB_at (by omega) (fun i hi => ?_) (fun i hi hl => high i (by omega) hl), fun i hl => ⟨fun hf => ?_, fun e' => e' ▸ hq⟩⟩
 · by_cases e' : i = k
   · rw [e']; exact q2
   · have h1 := lowr i (by omega)
     cases q : ltE e (es.getD i en0) with
     | false => rfl
     | true => exact absurd ((ltE_iff he (ento_at h (by omega)).1).1 q) (ltP_asym ((ltE_iff (ento_at h (by omega)).1 he).1 h1))
 · obtain ⟨p1, p2⟩ := (off_no _ _).1 hf
   rcases Nat.lt_trichotomy i k with c | c | c
   · rw [lowr i c] at p1; cases p1
   · exact c
   · rw [high i c hl] at p2; cases p2
theorem treeIs_parts {ns : List Nd} {root : Int} (h : treeIs ns root = true) : good ns (ns.length + 1) root ∧ ino ns (ns.length + 1) root none none = true ∧ ∀ i, i < ns.length → (i : Int) ∈ posL ns (ns.length + 1) root := by
 unfold treeIs at h
 rw [Bool.and_eq_true] at h
 cases hl : lnk ns (ns.length + 1) (List.replicate ns.length false) root with
 | none => rw [hl] at h; cases h.2
 | some sd =>
  rw [hl] at h
  simp only [Bool.and_eq_true] at h
  refine ⟨lnk_good ns _ _ _ _ hl, h.2.2.2, fun i hi => ?_⟩
  have hln : sd.length = ns.length := by
   have hg : ∀ (f : Nat) (s : List Bool) (x : Int) (s' : List Bool), lnk ns f s x = some s' → s'.length = s.length := fun f => by
    induction f with
    | zero => intro s x s' q; cases q
    | succ f ih =>
     intro s x s' q
     unfold lnk at q
     split at q
     · cases q
     · have hf : ∀ (l : List Int) (t t' : List Bool), l.foldlM (fun s k => lnk ns f s k) t = some t' → t'.length = t.length := fun l => by
        induction l with
        | nil => intro t t' e; have : t = t' := by simpa using e
                 rw [this]
        | cons y l ihl =>
         intro t t' e
         rw [List.foldlM_cons] at e
         cases hy : lnk ns f t y with
         | none => rw [hy] at e; cases e
         | some t1 => rw [hy] at e; exact (ihl t1 t' e).trans (ih t y t1 hy)
       rw [hf _ _ _ q, List.length_set]
   rw [hg _ _ _ _ hl, List.length_replicate]
  have hs : sd.getD i false = true := by
   have := List.all_eq_true.1 h.2.1 (sd[i]'(by omega)) (List.getElem_mem _)
   rw [List.getD_eq_getElem?_getD, List.getElem?_eq_getElem (by omega)]
   exact this
  rcases lnk_pos ns _ _ _ _ hl i hs with q | q
  · rw [List.getD_eq_getElem?_getD] at q
    by_cases hr : i < (List.replicate ns.length false).length
    · rw [List.getElem?_eq_getElem hr, List.getElem_replicate] at q; cases q
    · rw [List.getElem?_eq_none (by omega)] at q; cases q
  · exact q
theorem okO_none : okO none := fun a h => by cases h
def isAt (ns : List Nd) (root : Int) (e : En) : Bool :=
 let es := (ns.getD (leafW ns (ns.length + 1) root e).toNat nd0).es
 decide (0 < upsB es e) && !offE e (es.getD (upsB es e - 1) en0)
theorem pos_node (ns : List Nd) : ∀ (f : Nat) (x y : Int) (lo hi : Option En), good ns f x → ino ns f x lo hi = true → y ∈ posL ns f x → ∃ lo' hi', nodeOk lo' hi' (ns.getD y.toNat nd0).es = true
 | 0, _, _, _, _, hg, _, _ => hg.elim
 | f + 1, x, y, lo, hi, hg, ho, hy => by
  obtain ⟨hn, hk⟩ := ino_node ho
  rcases pos_kid hy with rfl | ⟨i, hi', hy'⟩
  · exact ⟨lo, hi, hn⟩
  · exact pos_node ns f _ y _ _ (hg.2.2.2 _ (getD_mem11 hi')) (hk i hi') hy'
theorem node_ok {ns : List Nd} {root : Int} (h : treeIs ns root = true) {i : Nat} (hi : i < ns.length) : ∃ lo hi, nodeOk lo hi (ns.getD i nd0).es = true := by
 obtain ⟨hg, ho, hp⟩ := treeIs_parts h
 have := pos_node ns _ _ _ _ _ hg ho (hp i hi)
 rw [Int.toNat_natCast] at this
 exact this
theorem off_leaf {ns : List Nd} {root : Int} (h : treeIs ns root = true) {e : En} (he : entOk e = true) {i : Nat} (hi : i < ns.length) (hl : (ns.getD i nd0).leaf = true) (hne : (i : Int) ≠ leafW ns (ns.length + 1) root e) : ∀ z ∈ (ns.getD i nd0).es, offE e z = true := by
 obtain ⟨hg, ho, hp⟩ := treeIs_parts h
 intro z hz
 cases q : offE e z with
 | true => rfl
 | false =>
  obtain ⟨q1, q2⟩ := (off_no _ _).1 q
  exact absurd (leaf_uniq ns he _ _ _ _ _ hg ho okO_none okO_none (hp i hi) (by rw [Int.toNat_natCast]; exact hl) z (by rw [Int.toNat_natCast]; exact hz) q1 q2) hne
end Go.Proofs.Ytphmlndkjgldkaa
/- Trees, plain: an entry is there just if it is at the end of its way; without it the nodes are as both sides tell. No program, no conditions. -/

namespace Go.Proofs.Ytphmlndkjgldkaa
open Go.RowKit
set_option maxRecDepth 100000
theorem upsB_le (es : List En) (e : En) : upsB es e ≤ es.length := List.countP_le_length
theorem leafW_pos (ns : List Nd) (e : En) : ∀ (f : Nat) (x : Int), good ns f x → leafW ns f x e ∈ posL ns f x ∧ (ns.getD (leafW ns f x e).toNat nd0).leaf = true ∧ 0 ≤ leafW ns f x e ∧ leafW ns f x e < ns.length
 | 0, _, h => h.elim
 | f + 1, x, h => by
  unfold leafW posL
  cases hl : (ns.getD x.toNat nd0).leaf with
  | true =>
   rw [if_pos rfl]
   exact ⟨List.mem_cons_self, hl, h.2.1, h.2.2.1⟩
  | false =>
   rw [if_neg (by simp)]
   have hf := form_kids h.1 hl
   have hu := upsB_le (ns.getD x.toNat nd0).es e
   have hk : upsB (ns.getD x.toNat nd0).es e < (ns.getD x.toNat nd0).ks.length := by omega
   obtain ⟨h1, h2, h3⟩ := leafW_pos ns e f _ (h.2.2.2 _ (getD_mem11 hk))
   refine ⟨List.mem_cons_of_mem _ (List.mem_flatten.2 ⟨_, List.mem_map.2 ⟨_, getD_mem11 hk, rfl⟩, h1⟩), h2, h3⟩
theorem lfs_mem (ns : List Nd) (z : En) : ∀ (f : Nat) (x : Int), good ns f x → (z ∈ lfs ns f x ↔ ∃ y ∈ posL ns f x, (ns.getD y.toNat nd0).leaf = true ∧ z ∈ (ns.getD y.toNat nd0).es)
 | 0, _, h => h.elim
 | f + 1, x, h => by
  rw [lfs]
  cases hl : (ns.getD x.toNat nd0).leaf with
  | true =>
   rw [if_pos rfl]
   have hk := (form_leaf h.1 hl).2
   constructor
   · intro hz
     exact ⟨x, by unfold posL; exact List.mem_cons_self, hl, hz⟩
   · rintro ⟨y, hy, _, hz⟩
     rcases pos_kid hy with rfl | ⟨i, hi, _⟩
     · exact hz
     · omega
  | false =>
   rw [if_neg (by simp)]
   constructor
   · intro hz
     obtain ⟨L, hL, hz'⟩ := List.mem_flatten.1 hz
     obtain ⟨k, hk, rfl⟩ := List.mem_map.1 hL
     obtain ⟨y, hy, h1, h2⟩ := (lfs_mem ns z f k (h.2.2.2 k hk)).1 hz'
     exact ⟨y, by unfold posL; exact List.mem_cons_of_mem _ (List.mem_flatten.2 ⟨_, List.mem_map.2 ⟨k, hk, rfl⟩, hy⟩), h1, h2⟩
   · rintro ⟨y, hy, h1, h2⟩
     rcases pos_kid hy with rfl | ⟨i, hi, hy'⟩
     · rw [hl] at h1; cases h1
     · exact List.mem_flatten.2 ⟨_, List.mem_map.2 ⟨_, getD_mem11 hi, rfl⟩, (lfs_mem ns z f _ (h.2.2.2 _ (getD_mem11 hi))).2 ⟨y, hy', h1, h2⟩⟩
theorem isAt_of {ns : List Nd} {root : Int} (h : treeIs ns root = true) {e : En} (he : entOk e = true) {k : Nat} (hk : k < (ns.getD (leafW ns (ns.length + 1) root e).toNat nd0).es.length) (hq : offE e ((ns.getD (leafW ns (ns.length + 1) root e).toNat nd0).es.getD k en0) = false) : isAt ns root e = true := by
 obtain ⟨hg, ho, hp⟩ := treeIs_parts h
 obtain ⟨l1, _, _, _⟩ := leafW_pos ns e _ _ hg
 obtain ⟨lo, hi, hn⟩ := pos_node ns _ _ _ _ _ hg ho l1
 obtain ⟨hu, _⟩ := leaf_at hn he hk hq
 unfold isAt
 simp only
 rw [hu, decide_eq_true (by omega), show k + 1 - 1 = k by omega, hq]
 rfl
theorem there_iff {ns : List Nd} {root : Int} (h : treeIs ns root = true) {e : En} (he : entOk e = true) : (allS ns root).any (fun z => !offE e z) = isAt ns root e := by
 obtain ⟨hg, ho, hp⟩ := treeIs_parts h
 obtain ⟨l1, l2, _, _⟩ := leafW_pos ns e _ _ hg
 rw [Bool.eq_iff_iff, List.any_eq_true, allS_lfs h]
 constructor
 · rintro ⟨z, hz, hq⟩
   have hq' : offE e z = false := by simpa using hq
   obtain ⟨y, hy, h1, h2⟩ := (lfs_mem ns z _ _ hg).1 hz
   obtain ⟨q1, q2⟩ := (off_no _ _).1 hq'
   have ey := leaf_uniq ns he _ _ _ _ _ hg ho okO_none okO_none hy h1 z h2 q1 q2
   rw [ey] at h2
   obtain ⟨k, hk, rfl⟩ := List.mem_iff_getElem.1 h2
   exact isAt_of h he hk (by rw [List.getD_eq_getElem?_getD, List.getElem?_eq_getElem hk]; exact hq')
 · intro hi
   unfold isAt at hi
   simp only [Bool.and_eq_true, decide_eq_true_eq, Bool.not_eq_true'] at hi
   have hu := upsB_le (ns.getD (leafW ns (ns.length + 1) root e).toNat nd0).es e
   have hk : upsB (ns.getD (leafW ns (ns.length + 1) root e).toNat nd0).es e - 1 < (ns.getD (leafW ns (ns.length + 1) root e).toNat nd0).es.length := by omega
   refine ⟨_, (lfs_mem ns _ _ _ hg).2 ⟨_, l1, l2, ?_⟩, by rw [hi.2]; rfl⟩
   rw [List.getD_eq_getElem?_getD (l := (ns.getD (leafW ns (ns.length + 1) root e).toNat nd0).es), List.getElem?_eq_getElem hk]
   exact List.getElem_mem hk
theorem drop_same {ns : List Nd} {root : Int} (h : treeIs ns root = true) {e : En} (he : entOk e = true) (hi : isAt ns root e = true) : dropN ns e = ns.set (leafW ns (ns.length + 1) root e).toNat ⟨true, (ns.getD (leafW ns (ns.length + 1) root e).toNat nd0).es.eraseIdx (upsB (ns.getD (leafW ns (ns.length + 1) root e).toNat nd0).es e - 1), (ns.getD (leafW ns (ns.length + 1) root e).toNat nd0).ks⟩ := by
 obtain ⟨hg, ho, hp⟩ := treeIs_parts h
 obtain ⟨l1, l2, l3, l4⟩ := leafW_pos ns e _ _ hg
 obtain ⟨lo, hi', hn⟩ := pos_node ns _ _ _ _ _ hg ho l1
 have hoff := fun (i : Nat) (h1 : i < ns.length) (hl : (ns.getD i nd0).leaf = true) (hne : (i : Int) ≠ leafW ns (ns.length + 1) root e) => off_leaf h he h1 hl hne
 unfold isAt at hi
 simp only [Bool.and_eq_true, decide_eq_true_eq, Bool.not_eq_true'] at hi
 clear hp hg ho l1
 generalize leafW ns (ns.length + 1) root e = Y at *
 have hu := upsB_le (ns.getD Y.toNat nd0).es e
 have hk : upsB (ns.getD Y.toNat nd0).es e - 1 < (ns.getD Y.toNat nd0).es.length := by omega
 obtain ⟨_, hall⟩ := leaf_at hn he hk hi.2
 unfold dropN
 refine List.ext_getElem (by simp) (fun i h1 h2 => ?_)
 rw [List.length_map] at h1
 rw [List.getElem_map]
 by_cases ei : i = Y.toNat
 · subst ei
   rw [List.getElem_set_self]
   have e0 : ns[Y.toNat] = ns.getD Y.toNat nd0 := by rw [List.getD_eq_getElem?_getD, List.getElem?_eq_getElem h1]; rfl
   rw [e0]
   unfold outD
   rw [if_pos l2, filter_erase (offE e) _ _ hk hall, l2]
 · rw [List.getElem_set_ne (fun q => ei q.symm)]
   have e0 : ns[i] = ns.getD i nd0 := by rw [List.getD_eq_getElem?_getD, List.getElem?_eq_getElem h1]; rfl
   rw [e0]
   unfold outD
   split
   · rename_i hl
     have := hoff i h1 hl (fun q => ei (by omega))
     rw [List.filter_eq_self.2 this]
   · rfl
end Go.Proofs.Ytphmlndkjgldkaa
/- The program's way down: how many entries lie ahead, the steps to a leaf. Conditions: texts of at most 2^21 bytes. -/



namespace Go.Proofs.Ytphmlndkjgldkaa
open Go.RowKit
set_option maxRecDepth 100000
set_option maxHeartbeats 3200000 in
theorem impl_ups {w0 : World} (KQ NQ : Int) (FQ : Nat) {aq : Option Addr} {zq : Nat} (cq : Nat) (iq : Int) {ZQ : List Int} (hl : Reads w0 aq zq ZQ) (hh : ZQ.length = zq ∧ FQ < 18446744073709551616 ∧ zq ≤ 2097152) {es : List En} {a : Option Addr} {n : Nat} (c : Nat) {w : World} (hr : ReadsE w0 a es) (hn : es.length = n) (hn4 : n ≤ 4) (hm : ∀ j, (es.getD j en0).Z.length ≤ 2097152) (hw : Below w0.heap.size w0 w) :
 Calls Try.prog 108 #[.slice a n c, .func (.func 114) #[.agg #[.int .i64 KQ, .int .i64 NQ, .float .f64 FQ, .slice aq zq cq, .int .i64 iq]] #[]] w fun e w' => e = .returned (.int .i64 (upsB es ⟨KQ, NQ, FQ, ZQ, iq⟩ : Nat)) ∧ Below w.heap.size w w' := by
 have HL := hid hl
 have HH := hid hh
 have HW := hid hw
 have HN := hid hn
 have HRE := hid hr
 have HM := hid hm
 clear hl hh hw hn hr hm
 go_enter Try.func108, Try.ntmps108
 go_wp2_with fail
 go_loopw [5, 10] (fun t i wr => ∃ k m : Nat, k ≤ n ∧ i = .int .i64 k ∧ t = .int .i64 m ∧ m ≤ k ∧ Hid (m = (es.take k).countP (fun y => !ltE ⟨KQ, NQ, FQ, ZQ, iq⟩ y)) ∧ Hid (Below w.heap.size w wr)) (fun _ i _ => n - (intOf i).toNat)
 case atStart => exact ⟨0, 0, Nat.zero_le _, rfl, rfl, Nat.le_refl _, hid (by simp), hid (Below.refl _ _)⟩
 case round =>
  obtain ⟨k, m, hk, rfl, rfl, hmk, HC, HB⟩ := hrel
  by_cases hlt : k < n
  · have hlt' : (k : Int) < (n : Int) := by omega
    have hk0 : (0 : Int) ≤ (k : Int) := by omega
    have HT := hid (countP_take (fun y => !ltE ⟨KQ, NQ, FQ, ZQ, iq⟩ y) es (k := k) (by rw [HN.out]; exact hlt))
    obtain ⟨b, off, a', c', rfl, bx0, r0, _, _, hf⟩ := HRE.out.at (k := k) (by rw [HN.out]; exact hlt)
    have hmz := HM.out k
    have BW := HW.out.trans (HB.out.mono HW.out.size)
    have bx := bx0.below BW (Nat.le_refl _)
    have HR0 := hid r0
    generalize es.getD k en0 = e at *
    obtain ⟨K, N, F, Z, id⟩ := e
    simp only at bx hmz hf
    have HR1 := hid (show Reads w0 a' Z.length Z from HR0.out)
    obtain ⟨z, hz⟩ : ∃ z, Z.length = z := ⟨_, rfl⟩
    rw [hz] at bx hmz HR1
    have HZ := hid hz
    have hst := fun w a m => run_store Try.prog w a (.float .f64 F) m rfl
    have HBX := hid (Below.alloc1 wr (.cells #[.int .i64 K, .int .i64 N, .float .f64 F, .slice a' z c', .int .i64 id] 35))
    have HBW := hid BW
    obtain ⟨c0, c1, c2, c3, c4⟩ := bx
    clear r0 hz bx0 HR0 BW
    go_wp2_with fail
    clear c0 c1 c2 c3 c4
    refine (impl_notBelow KQ NQ FQ cq iq K N F c' id HH.out.2.1 hf (HL.out.below (HBW.out.trans (HBX.out.mono HBW.out.size)) (Nat.le_refl _)) (HR1.out.below (HBW.out.trans (HBX.out.mono HBW.out.size)) (Nat.le_refl _)) HH.out.2.2 hmz).mono ?_
    rintro e w1 ⟨rfl, b1⟩
    have HEq := hid (show (!ltB (cmpI KQ NQ FQ zq ZQ K N F z Z) iq id) = (!ltE ⟨KQ, NQ, FQ, ZQ, iq⟩ ⟨K, N, F, Z, id⟩) by unfold ltE cmpE; simp only [HH.out.1, HZ.out])
    rw [HEq.out]
    replace HB := hid ((HB.out.trans (HBX.out.mono HB.out.size)).trans (b1.mono (HB.out.trans (HBX.out.mono HB.out.size)).size))
    clear b1 HBX HBW
    clear HEq
    generalize (!ltE ⟨KQ, NQ, FQ, ZQ, iq⟩ ⟨K, N, F, Z, id⟩) = X at *
    cases X with
    | false =>
     go_wp2_with fail
     go_roundw
     case rel => exact ⟨k + 1, m, by omega, by go_num, rfl, by omega, hid (by have := HC.out; rw [HT.out]; simp; omega), HB⟩
     case measure => simp [intOf]; omega
    | true =>
     go_wp2_with fail
     go_roundw
     case rel => exact ⟨k + 1, m + 1, by omega, by go_num, by go_num, by omega, hid (by have := HC.out; rw [HT.out]; simp; omega), HB⟩
     case measure => simp [intOf]; omega
  · obtain rfl : k = n := by omega
    go_wp2_with fail
    go_ret
    refine ⟨?_, HB.out⟩
    have e0 : es.take k = es := List.take_of_length_le (by rw [HN.out]; exact Nat.le_refl _)
    have := HC.out
    rw [e0] at this
    rw [this]
    rfl
set_option maxHeartbeats 1600000 in
theorem impl_placeIn {w0 : World} (KQ NQ : Int) (FQ : Nat) {aq : Option Addr} {zq : Nat} (cq : Nat) (iq : Int) {ZQ : List Int} (hq : Reads w0 aq zq ZQ) (hqq : ZQ.length = zq ∧ FQ < 18446744073709551616 ∧ zq ≤ 2097152) {es : List En} {a : Option Addr} {n : Nat} {c : Nat} {kv : Value} {x : Int} {lf : Bool} {g : Nat} {w : World} (hr : ReadsE w0 a es) (hn : es.length = n) (hn4 : n ≤ 4) (hm : ∀ j, (es.getD j en0).Z.length ≤ 2097152) (hw : Below w0.heap.size w0 w) (hg : w.heap[g]? = some (.cells #[.int .i64 x, .bool lf, .slice a n c, kv] 86)) :
 Calls Try.prog 91 #[.agg #[.int .i64 KQ, .int .i64 NQ, .float .f64 FQ, .slice aq zq cq, .int .i64 iq], .pointer (some ⟨g, 0, none⟩)] w fun e w' => e = .returned (.int .i64 (upsB es ⟨KQ, NQ, FQ, ZQ, iq⟩ : Nat)) ∧ Below w.heap.size w w' := by
 have hst := fun w a m => run_store Try.prog w a (.float .f64 FQ) m rfl
 have HB := hid (Below.alloc1 w (.cells #[.int .i64 KQ, .int .i64 NQ, .float .f64 FQ, .slice aq zq cq, .int .i64 iq] 35))
 have HR0 := hid (heap_alloc_new w (.cells #[.int .i64 KQ, .int .i64 NQ, .float .f64 FQ, .slice aq zq cq, .int .i64 iq] 35))
 have HW := hid hw
 have HG := hid hg
 have hgl : g < w.heap.size := (Array.getElem?_eq_some_iff.1 hg).1
 have HGl := hid (show g < w.heap.size ∧ w.heap.size < (w.alloc (.cells #[.int .i64 KQ, .int .i64 NQ, .float .f64 FQ, .slice aq zq cq, .int .i64 iq] 35)).heap.size by rw [alloc_size]; omega)
 clear hw hg hgl
 go_enter Try.func91, Try.ntmps91
 go_wp2_with fail
 generalize w.alloc (.cells #[.int .i64 KQ, .int .i64 NQ, .float .f64 FQ, .slice aq zq cq, .int .i64 iq] 35) = V at *
 obtain ⟨p0, hp0⟩ : ∃ p0, w.heap.size = p0 := ⟨_, rfl⟩
 have HP0 := hid hp0
 rw [hp0] at HR0
 try simp only [hp0]
 clear hp0
 have HKp := hid (show ∀ W, Below V.heap.size V W → (fun W => W.cell? ⟨p0, 0, none⟩ = some (.int .i64 KQ) ∧ W.cell? ⟨p0, 1, none⟩ = some (.int .i64 NQ) ∧ W.cell? ⟨p0, 2, none⟩ = some (.float .f64 FQ) ∧ W.cell? ⟨p0, 3, none⟩ = some (.slice aq zq cq) ∧ W.cell? ⟨p0, 4, none⟩ = some (.int .i64 iq) ∧ W.cell? ⟨g, 2, none⟩ = some (.slice a n c)) W from fun W b => by
  have z1 := HGl.out
  have z2 := HP0.out
  have r1 : W.heap[p0]? = _ := (b.block p0 (by omega)).trans HR0.out
  have r2 : W.heap[g]? = _ := ((HB.out.trans (b.mono HB.out.size)).block g (by omega)).trans HG.out
  exact ⟨by rw [cell_of_row _ _ _ _ _ _ r1]; rfl, by rw [cell_of_row _ _ _ _ _ _ r1]; rfl, by rw [cell_of_row _ _ _ _ _ _ r1]; rfl, by rw [cell_of_row _ _ _ _ _ _ r1]; rfl, by rw [cell_of_row _ _ _ _ _ _ r1]; rfl, by rw [cell_of_row _ _ _ _ _ _ r2]; rfl⟩)
 have BC := hid ((Still.drew V).below V.heap.size)
 refine region_K 99 (fun W => W.cell? ⟨p0, 0, none⟩ = some (.int .i64 KQ) ∧ W.cell? ⟨p0, 1, none⟩ = some (.int .i64 NQ) ∧ W.cell? ⟨p0, 2, none⟩ = some (.float .f64 FQ) ∧ W.cell? ⟨p0, 3, none⟩ = some (.slice aq zq cq) ∧ W.cell? ⟨p0, 4, none⟩ = some (.int .i64 iq) ∧ W.cell? ⟨g, 2, none⟩ = some (.slice a n c)) (by kernel_rfl) ?_ (fun hHeld => ?_)
 · exact HKp.out _ BC.out
 generalize V.drew = vd at *
 refine anyK_take2 (i := 0) (v := ?v0_1) rfl (by kernel_rfl) (by kernel_rfl) (by kernel_rfl) (by rfl) (fun _ _ _ h => h) (by rfl) hHeld ?hy0_1 (some 5) (by rfl) ?rest0_1
 case hy0_1 => (intro W hSw; obtain ⟨x0, x1, x2, x3, x4, x5⟩ := hSw; go_simp; (try with_reducible rfl))
 try simp only [Act.put, List.setIfInBounds_toArray, List.set_cons_succ, List.set_cons_zero]
 refine anyK_take2 (i := 1) (v := ?v1_2) rfl (by kernel_rfl) (by kernel_rfl) (by kernel_rfl) (by rfl) (fun _ _ _ h => h) (by rfl) hHeld ?hy1_2 (some 6) (by rfl) ?rest1_2
 case hy1_2 => (intro W hSw; obtain ⟨x0, x1, x2, x3, x4, x5⟩ := hSw; go_simp; (try with_reducible rfl))
 try simp only [Act.put, List.setIfInBounds_toArray, List.set_cons_succ, List.set_cons_zero]
 refine anyK_take2 (i := 2) (v := ?v2_3) rfl (by kernel_rfl) (by kernel_rfl) (by kernel_rfl) (by rfl) (fun _ _ _ h => h) (by rfl) hHeld ?hy2_3 (some 7) (by rfl) ?rest2_3
 case hy2_3 => (intro W hSw; obtain ⟨x0, x1, x2, x3, x4, x5⟩ := hSw; go_simp; (try with_reducible rfl))
 try simp only [Act.put, List.setIfInBounds_toArray, List.set_cons_succ, List.set_cons_zero]
 refine anyK_take2 (i := 3) (v := ?v3_4) rfl (by kernel_rfl) (by kernel_rfl) (by kernel_rfl) (by rfl) (fun _ _ _ h => h) (by rfl) hHeld ?hy3_4 (some 8) (by rfl) ?rest3_4
 case hy3_4 => (intro W hSw; obtain ⟨x0, x1, x2, x3, x4, x5⟩ := hSw; go_simp; (try with_reducible rfl))
 try simp only [Act.put, List.setIfInBounds_toArray, List.set_cons_succ, List.set_cons_zero]
 refine anyK_take2 (i := 4) (v := ?v4_5) rfl (by kernel_rfl) (by kernel_rfl) (by kernel_rfl) (by rfl) (fun _ _ _ h => h) (by rfl) hHeld ?hy4_5 (some 9) (by rfl) ?rest4_5
 case hy4_5 => (intro W hSw; obtain ⟨x0, x1, x2, x3, x4, x5⟩ := hSw; go_simp; (try with_reducible rfl))
 try simp only [Act.put, List.setIfInBounds_toArray, List.set_cons_succ, List.set_cons_zero]
 refine anyK_take2 (i := 5) (v := ?v5_6) rfl (by kernel_rfl) (by kernel_rfl) (by kernel_rfl) (by rfl) (fun _ _ _ h => h) (by rfl) hHeld ?hy5_6 (some 10) (by rfl) ?rest5_6
 case hy5_6 => (intro W hSw; obtain ⟨x0, x1, x2, x3, x4, x5⟩ := hSw; go_simp; (try with_reducible rfl))
 try simp only [Act.put, List.setIfInBounds_toArray, List.set_cons_succ, List.set_cons_zero]
 refine anyK_step (i := 6) (by kernel_rfl) rfl (fun KP hK => ?_)
 go_simp
 refine (impl_ups KQ NQ FQ cq iq hq hqq c hr hn hn4 hm (HW.out.trans ((HB.out.trans (BC.out.mono HB.out.size)).mono HW.out.size))).mono ?_
 rintro e v1 ⟨rfl, b⟩
 replace BC := hid (BC.out.trans (b.mono BC.out.size))
 clear b
 clear hHeld
 refine hK.out _ _ (HKp.out _ BC.out) (fun hHeld => ?_)
 clear hK KP
 try simp only [Act.put, List.setIfInBounds_toArray, List.set_cons_succ, List.set_cons_zero]
 refine anyK_take2 (i := 7) (v := ?v7_7) rfl (by kernel_rfl) (by kernel_rfl) (by kernel_rfl) (by rfl) (fun _ _ _ h => h) (by rfl) hHeld ?hy7_7 (some 4) (by rfl) ?rest7_7
 case hy7_7 => (intro W hSw; obtain ⟨x0, x1, x2, x3, x4, x5⟩ := hSw; go_simp; (try with_reducible rfl))
 try simp only [Act.put, List.setIfInBounds_toArray, List.set_cons_succ, List.set_cons_zero]
 refine anyK_done (by kernel_rfl) ?_ _
 clear hHeld
 go_wp2_with fail
 go_ret
 exact ⟨rfl, HB.out.trans (BC.out.mono HB.out.size)⟩
theorem Try.infoStep : (Try.prog.info? 80).map (fun i => (i.zero, i.size, i.bytes)) = some (some (.agg #[.pointer none, .int .i64 0]), 2, 16) := by kernel_rfl
structure WayP (tb : List (Option Addr)) (w0 w w' : World) (ns : List Nd) (lo hi : Nat) (y : Int) (q : En) (e : Ending) : Prop where
 ex : ∃ gg m c g f pre, e = .returned (.slice (some ⟨gg, 0, none⟩) (m + 1) c) ∧ w'.ownsRow w.heap.size 80 2 (.slice (some ⟨gg, 0, none⟩) (m + 1) c) (m + 1) (pre ++ [.pointer (some ⟨g, 0, none⟩), .int .i64 (upsB (ns.getD y.toNat nd0).es q : Nat)]) ∧ LkT tb w0 w' ns lo hi (f + 1) y g ∧ (ns.getD y.toNat nd0).leaf = true ∧ m ≤ 1000
set_option maxHeartbeats 3200000 in
theorem impl_wayDown {w0 : World} (KQ NQ : Int) (FQ : Nat) {aq : Option Addr} {zq : Nat} (cq : Nat) (iq : Int) {ZQ : List Int} (hq : Reads w0 aq zq ZQ) (hqq : ZQ.length = zq ∧ FQ < 18446744073709551616 ∧ zq ≤ 2097152) {tb : List (Option Addr)} {ns : List Nd} {lo hi : Nat} (hm : ∀ i j, ((ns.getD i nd0).es.getD j en0).Z.length ≤ 2097152) {f : Nat} {x : Int} {g : Nat} {w : World} (hf : f ≤ 1000) (hh : hi ≤ w.heap.size) (hw : Below w0.heap.size w0 w) (hk : LkT tb w0 w ns lo hi f x g) :
 Calls Try.prog 90 #[.pointer (some ⟨g, 0, none⟩), .func (.func 91) #[.agg #[.int .i64 KQ, .int .i64 NQ, .float .f64 FQ, .slice aq zq cq, .int .i64 iq]] #[]] w fun e w' => WayP tb w0 w w' ns lo hi (leafW ns f x ⟨KQ, NQ, FQ, ZQ, iq⟩) ⟨KQ, NQ, FQ, ZQ, iq⟩ e ∧ Below w.heap.size w w' := by
 obtain ⟨i0, hi0, hz0, hz1, hz2⟩ := info_parts Try.infoStep
 have HH := hid hh
 have HW := hid hw
 have HK := hid hk
 have HM := hid hm
 obtain ⟨y, hy⟩ : ∃ y, leafW ns f x ⟨KQ, NQ, FQ, ZQ, iq⟩ = y := ⟨_, rfl⟩
 rw [hy]
 have HY := hid hy
 clear hh hw hk hm hy
 go_enter Try.func90, Try.ntmps90
 go_wp2_with fail
 go_loopg [0, 5] f (fun r s0 s5 wr => ∃ (rr : Nat) (x : Int) (g : Nat) (va : Option Addr) (m vc : Nat) (pre : List Value), r = rr ∧ s0 = .pointer (some ⟨g, 0, none⟩) ∧ s5 = .slice va m vc ∧ m + rr ≤ 1000 ∧ Hid (leafW ns rr x ⟨KQ, NQ, FQ, ZQ, iq⟩ = y) ∧ Hid (LkT tb w0 wr ns lo hi rr x g) ∧ Hid (wr.ownsRow w.heap.size 80 2 (.slice va m vc) m pre) ∧ Hid (Below w.heap.size w wr))
 case atStart => exact ⟨f, x, g, none, 0, 0, [], rfl, rfl, rfl, by omega, HY, HK, hid (World.ownsRow_nil _ _ _ _), hid (Below.refl _ _)⟩
 case round =>
  clear HK HY
  obtain ⟨rr, x, g, va, m, vc, pre, hrr, rfl, rfl, hmr, HY, HK, HO, HB⟩ := hrel
  cases rr with
  | zero => exact absurd HK.out (by simp [LkT])
  | succ r =>
  subst hrr
  have hk := HK.out
  obtain ⟨k0, k1, k2, k3, a, c, kv, gs, -, k4, k5, k6, k7, k8⟩ := hk
  have hv : leafW ns (r + 1) x ⟨KQ, NQ, FQ, ZQ, iq⟩ = if (ns.getD x.toNat nd0).leaf then x else leafW ns r ((ns.getD x.toNat nd0).ks.getD (upsB (ns.getD x.toNat nd0).es ⟨KQ, NQ, FQ, ZQ, iq⟩) 0) ⟨KQ, NQ, FQ, ZQ, iq⟩ := by rw [leafW]
  rw [HY.out] at hv
  have HMx := hid (HM.out x.toNat)
  have hle := upsB_le (ns.getD x.toNat nd0).es ⟨KQ, NQ, FQ, ZQ, iq⟩
  obtain ⟨d, hd⟩ : ∃ d, ns.getD x.toNat nd0 = d := ⟨_, rfl⟩
  rw [hd] at k3 k4 k5 k6 k8 hv HMx hle
  have HD := hid hd
  obtain ⟨n, hn⟩ : ∃ n, d.es.length = n := ⟨_, rfl⟩
  rw [hn] at k4 hle
  have hn4 : n ≤ 4 := by
   cases hl : d.leaf with
   | true => have := form_leaf k3 hl; omega
   | false => have := form_kids k3 hl; omega
  obtain ⟨up, hup⟩ : ∃ up, upsB d.es ⟨KQ, NQ, FQ, ZQ, iq⟩ = up := ⟨_, rfl⟩
  rw [hup] at hle hv
  have HN := hid hn
  have HUp := hid hup
  have HG := hid k4
  have HE := hid k5
  have HKs := hid k6
  have HR := hid k7
  have H8 := hid k8
  have HF3 := hid k3
  have HV := hid hv
  have hgl : g < w.heap.size := by have := HH.out; omega
  have HGl := hid hgl
  clear k0 k1 k2 k3 k4 k5 k6 k7 k8 hd hn hup hv hgl
  go_wp2_with fail
  refine (impl_placeIn KQ NQ FQ cq iq hq hqq HE.out HN.out hn4 HMx.out (HW.out.trans (HB.out.mono HW.out.size)) HG.out).mono ?_
  rintro e w1 ⟨rfl, b1⟩
  rw [HUp.out]
  have hsz := HB.out.size
  have HO1 := hid (owns_below b1 (Nat.le_refl _) HO.out)
  replace H8 := hid (fun i hi => LkT.agree (Agree.below b1 (by have := HH.out; omega)) _ _ _ (H8.out i hi))
  replace HK := hid (LkT.agree (Agree.below b1 (by have := HH.out; omega)) _ _ _ HK.out)
  replace HR := hid (HR.out.agree (Agree.below b1 (by have := HH.out; omega)))
  replace HG := hid ((b1.block g (by have := HGl.out; omega)).trans HG.out)
  replace HB := hid (HB.out.trans (b1.mono HB.out.size))
  clear b1 HO hsz
  have HNw := hid (heap_alloc_new w1 (.cells #[.pointer (some ⟨g, 0, none⟩), .int .i64 (up : Int)] 80))
  have HA1 := hid (Below.alloc1 w1 (.cells #[.pointer (some ⟨g, 0, none⟩), .int .i64 (up : Int)] 80))
  have HO2 := hid (owns_below HA1.out (Nat.le_refl _) HO1.out)
  have hsz := HB.out.size
  have hsz2 := HA1.out.size
  go_wp2_with (at_builtin; refine wpList_append_lies _ rfl _ _ 76 rfl w.heap.size 80 i0 (.agg #[.pointer none, .int .i64 0]) 2 16 Try.underlying76 hi0 hz0 hz1 hz2 rfl (by omega) (.slice va m vc) m pre rfl HO2.out ⟨w1.heap.size, 0, none⟩ 1 1 [.pointer (some ⟨g, 0, none⟩), .int .i64 (up : Int)] rfl rfl (World.news_of_block HNw.out) (by simp [Value.oneCell']) (by omega) (by unfold maxLen; omega) (by omega) (by omega) _ rfl ?_)
  intro gg cc w9 o9 g9 _ _
  have HO9 := hid o9
  have HB9 := hid ((HB.out.trans (HA1.out.mono HB.out.size)).grown g9 (Nat.le_trans hsz hsz2) (fun b hb => (HO2.out.lt b hb).1))
  have hag : Agree lo hi w1 w9 := fun k _ k2 => (g9.block k (by have := HH.out; omega) (fun e => by have := (HO2.out.lt k e.symm).1; have := HH.out; omega)).trans (HA1.out.block k (by have := HH.out; omega))
  replace HK := hid (LkT.agree hag _ _ _ HK.out)
  replace HR := hid (HR.out.agree hag)
  replace H8 := hid (fun i hi => LkT.agree hag _ _ _ (H8.out i hi))
  have HG9 := hid (show w9.heap[g]? = some (.cells #[.int .i64 x, .bool d.leaf, .slice a n c, kv] 86) from (g9.block g (by have := HGl.out; omega) (fun e => by have := (HO2.out.lt g e.symm).1; have := HGl.out; omega)).trans ((HA1.out.block g (by have := HGl.out; omega)).trans HG.out))
  have c1 : w9.cell? ⟨g, 1, none⟩ = some (.bool d.leaf) := by rw [cell_of_row _ _ _ _ _ _ HG9.out]; rfl
  have c3 : w9.cell? ⟨g, 3, none⟩ = some kv := by rw [cell_of_row _ _ _ _ _ _ HG9.out]; rfl
  clear o9 g9 HO1 HO2 HNw HA1 HB hag hsz hsz2 HG
  cases hl : d.leaf with
  | true =>
   rw [hl] at c1
   have HV2 := hid (show y = x by rw [HV.out, hl, if_pos rfl])
   have HLf := hid hl
   clear hl c3
   go_wp2_with fail
   go_ret
   refine ⟨⟨gg, m, cc, g, r, pre, rfl, ?_, by rw [HV2.out]; exact HK.out, by rw [HV2.out, HD.out]; exact HLf.out, by omega⟩, HB9.out⟩
   rw [HV2.out, HD.out, HUp.out]
   exact HO9.out
  | false =>
   rw [hl] at c1
   have hkf := form_kids HF3.out hl
   have HV2 := hid (show leafW ns r (d.ks.getD up 0) ⟨KQ, NQ, FQ, ZQ, iq⟩ = y by rw [HV.out, hl, if_neg (by simp)])
   have hug : up < gs.length := by have := HKs.out; have := HN.out; omega
   obtain ⟨kb, kc, rfl, _, _, hc⟩ := HR.out.at (by omega)
   have c5 := hc up hug
   have hug0 := hug
   obtain ⟨gl, hgl⟩ : ∃ gl, gs.length = gl := ⟨_, rfl⟩
   rw [hgl] at hug c3
   have hug' : (up : Int) < (gl : Int) := by omega
   have hu0 : (0 : Int) ≤ (up : Int) := by omega
   have HKk := hid (H8.out up hug0)
   clear hl hc hgl hug0
   go_wp2_with fail
   go_roundg r
   case measure => omega
   case rel => exact ⟨r, _, _, _, m + 1, _, _, rfl, rfl, rfl, by omega, HV2, HKk, HO9, HB9⟩
set_option maxHeartbeats 1600000 in
theorem impl_wayTo {w0 : World} (KQ NQ : Int) (FQ : Nat) {aq : Option Addr} {zq : Nat} (cq : Nat) (iq : Int) {ZQ : List Int} (hq : Reads w0 aq zq ZQ) (hqq : ZQ.length = zq ∧ FQ < 18446744073709551616 ∧ zq ≤ 2097152) {tb : List (Option Addr)} {ns : List Nd} {lo hi : Nat} (hm : ∀ i j, ((ns.getD i nd0).es.getD j en0).Z.length ≤ 2097152) {f : Nat} {x : Int} {g q : Nat} {v : Value} {w : World} (hf : f ≤ 1000) (hh : hi ≤ w.heap.size) (hw : Below w0.heap.size w0 w) (hk : LkT tb w0 w ns lo hi f x g) (hg : w.heap[q]? = some (.cells #[v, .pointer (some ⟨g, 0, none⟩)] 90)) :
 Calls Try.prog 54 #[.pointer (some ⟨q, 0, none⟩), .agg #[.int .i64 KQ, .int .i64 NQ, .float .f64 FQ, .slice aq zq cq, .int .i64 iq]] w fun e w' => WayP tb w0 w w' ns lo hi (leafW ns f x ⟨KQ, NQ, FQ, ZQ, iq⟩) ⟨KQ, NQ, FQ, ZQ, iq⟩ e ∧ Below w.heap.size w w' := by
 have HH := hid hh
 have HK := hid hk
 have HM := hid hm
 clear hh hk hm
 have hst := fun w a m => run_store Try.prog w a (.float .f64 FQ) m rfl
 have HB := hid (Below.alloc1 w (.cells #[.int .i64 KQ, .int .i64 NQ, .float .f64 FQ, .slice aq zq cq, .int .i64 iq] 35))
 have HR0 := hid (heap_alloc_new w (.cells #[.int .i64 KQ, .int .i64 NQ, .float .f64 FQ, .slice aq zq cq, .int .i64 iq] 35))
 have HW := hid hw
 have HG := hid hg
 have hgl : q < w.heap.size := (Array.getElem?_eq_some_iff.1 hg).1
 have HGl := hid (show q < w.heap.size ∧ w.heap.size < (w.alloc (.cells #[.int .i64 KQ, .int .i64 NQ, .float .f64 FQ, .slice aq zq cq, .int .i64 iq] 35)).heap.size by rw [alloc_size]; omega)
 clear hw hg hgl
 go_enter Try.func54, Try.ntmps54
 go_wp2_with fail
 generalize w.alloc (.cells #[.int .i64 KQ, .int .i64 NQ, .float .f64 FQ, .slice aq zq cq, .int .i64 iq] 35) = V at *
 obtain ⟨p0, hp0⟩ : ∃ p0, w.heap.size = p0 := ⟨_, rfl⟩
 have HP0 := hid hp0
 rw [hp0] at HR0
 try simp only [hp0]
 clear hp0
 have HKp := hid (show ∀ W, Below V.heap.size V W → (fun W => W.cell? ⟨p0, 0, none⟩ = some (.int .i64 KQ) ∧ W.cell? ⟨p0, 1, none⟩ = some (.int .i64 NQ) ∧ W.cell? ⟨p0, 2, none⟩ = some (.float .f64 FQ) ∧ W.cell? ⟨p0, 3, none⟩ = some (.slice aq zq cq) ∧ W.cell? ⟨p0, 4, none⟩ = some (.int .i64 iq) ∧ W.cell? ⟨q, 1, none⟩ = some (.pointer (some ⟨g, 0, none⟩))) W from fun W b => by
  have z1 := HGl.out
  have z2 := HP0.out
  have r1 : W.heap[p0]? = _ := (b.block p0 (by omega)).trans HR0.out
  have r2 : W.heap[q]? = _ := ((HB.out.trans (b.mono HB.out.size)).block q (by omega)).trans HG.out
  exact ⟨by rw [cell_of_row _ _ _ _ _ _ r1]; rfl, by rw [cell_of_row _ _ _ _ _ _ r1]; rfl, by rw [cell_of_row _ _ _ _ _ _ r1]; rfl, by rw [cell_of_row _ _ _ _ _ _ r1]; rfl, by rw [cell_of_row _ _ _ _ _ _ r1]; rfl, by rw [cell_of_row _ _ _ _ _ _ r2]; rfl⟩)
 have BC := hid ((Still.drew V).below V.heap.size)
 refine region_K 99 (fun W => W.cell? ⟨p0, 0, none⟩ = some (.int .i64 KQ) ∧ W.cell? ⟨p0, 1, none⟩ = some (.int .i64 NQ) ∧ W.cell? ⟨p0, 2, none⟩ = some (.float .f64 FQ) ∧ W.cell? ⟨p0, 3, none⟩ = some (.slice aq zq cq) ∧ W.cell? ⟨p0, 4, none⟩ = some (.int .i64 iq) ∧ W.cell? ⟨q, 1, none⟩ = some (.pointer (some ⟨g, 0, none⟩))) (by kernel_rfl) ?_ (fun hHeld => ?_)
 · exact HKp.out _ BC.out
 generalize V.drew = vd at *
 refine anyK_take2 (i := 0) (v := ?v0_8) rfl (by kernel_rfl) (by kernel_rfl) (by kernel_rfl) (by rfl) (fun _ _ _ h => h) (by rfl) hHeld ?hy0_8 (some 5) (by rfl) ?rest0_8
 case hy0_8 => (intro W hSw; obtain ⟨x0, x1, x2, x3, x4, x5⟩ := hSw; go_simp; (try with_reducible rfl))
 try simp only [Act.put, List.setIfInBounds_toArray, List.set_cons_succ, List.set_cons_zero]
 refine anyK_take2 (i := 1) (v := ?v1_9) rfl (by kernel_rfl) (by kernel_rfl) (by kernel_rfl) (by rfl) (fun _ _ _ h => h) (by rfl) hHeld ?hy1_9 (some 6) (by rfl) ?rest1_9
 case hy1_9 => (intro W hSw; obtain ⟨x0, x1, x2, x3, x4, x5⟩ := hSw; go_simp; (try with_reducible rfl))
 try simp only [Act.put, List.setIfInBounds_toArray, List.set_cons_succ, List.set_cons_zero]
 refine anyK_take2 (i := 2) (v := ?v2_10) rfl (by kernel_rfl) (by kernel_rfl) (by kernel_rfl) (by rfl) (fun _ _ _ h => h) (by rfl) hHeld ?hy2_10 (some 7) (by rfl) ?rest2_10
 case hy2_10 => (intro W hSw; obtain ⟨x0, x1, x2, x3, x4, x5⟩ := hSw; go_simp; (try with_reducible rfl))
 try simp only [Act.put, List.setIfInBounds_toArray, List.set_cons_succ, List.set_cons_zero]
 refine anyK_take2 (i := 3) (v := ?v3_11) rfl (by kernel_rfl) (by kernel_rfl) (by kernel_rfl) (by rfl) (fun _ _ _ h => h) (by rfl) hHeld ?hy3_11 (some 8) (by rfl) ?rest3_11
 case hy3_11 => (intro W hSw; obtain ⟨x0, x1, x2, x3, x4, x5⟩ := hSw; go_simp; (try with_reducible rfl))
 try simp only [Act.put, List.setIfInBounds_toArray, List.set_cons_succ, List.set_cons_zero]
 refine anyK_take2 (i := 4) (v := ?v4_12) rfl (by kernel_rfl) (by kernel_rfl) (by kernel_rfl) (by rfl) (fun _ _ _ h => h) (by rfl) hHeld ?hy4_12 (some 9) (by rfl) ?rest4_12
 case hy4_12 => (intro W hSw; obtain ⟨x0, x1, x2, x3, x4, x5⟩ := hSw; go_simp; (try with_reducible rfl))
 try simp only [Act.put, List.setIfInBounds_toArray, List.set_cons_succ, List.set_cons_zero]
 refine anyK_take2 (i := 5) (v := ?v5_13) rfl (by kernel_rfl) (by kernel_rfl) (by kernel_rfl) (by rfl) (fun _ _ _ h => h) (by rfl) hHeld ?hy5_13 (some 10) (by rfl) ?rest5_13
 case hy5_13 => (intro W hSw; obtain ⟨x0, x1, x2, x3, x4, x5⟩ := hSw; go_simp; (try with_reducible rfl))
 try simp only [Act.put, List.setIfInBounds_toArray, List.set_cons_succ, List.set_cons_zero]
 refine anyK_step (i := 6) (by kernel_rfl) rfl (fun KP hK => ?_)
 go_simp
 refine (impl_wayDown KQ NQ FQ cq iq hq hqq HM.out hf (by have := HH.out; have := HB.out.size; have := BC.out.size; omega) (HW.out.trans ((HB.out.trans (BC.out.mono HB.out.size)).mono HW.out.size)) (LkT.agree (Agree.below (HB.out.trans (BC.out.mono HB.out.size)) HH.out) _ _ _ HK.out)).mono ?_
 rintro e v1 ⟨⟨gg, m, cc, g9, f9, pre, rfl, ho, hl, hlf, hm9⟩, b⟩
 have HF := hid (show WayP tb w0 w v1 ns lo hi (leafW ns f x ⟨KQ, NQ, FQ, ZQ, iq⟩) ⟨KQ, NQ, FQ, ZQ, iq⟩ (.returned (.slice (some ⟨gg, 0, none⟩) (m + 1) cc)) from ⟨gg, m, cc, g9, f9, pre, rfl, owns_lower ho (by have := HB.out.size; have := BC.out.size; omega), hl, hlf, hm9⟩)
 replace BC := hid (BC.out.trans (b.mono BC.out.size))
 clear b ho hl hlf
 clear hHeld
 refine hK.out _ _ (HKp.out _ BC.out) (fun hHeld => ?_)
 clear hK KP
 try simp only [Act.put, List.setIfInBounds_toArray, List.set_cons_succ, List.set_cons_zero]
 refine anyK_take2 (i := 7) (v := ?v7_14) rfl (by kernel_rfl) (by kernel_rfl) (by kernel_rfl) (by rfl) (fun _ _ _ h => h) (by rfl) hHeld ?hy7_14 (some 4) (by rfl) ?rest7_14
 case hy7_14 => (intro W hSw; obtain ⟨x0, x1, x2, x3, x4, x5⟩ := hSw; go_simp; (try with_reducible rfl))
 try simp only [Act.put, List.setIfInBounds_toArray, List.set_cons_succ, List.set_cons_zero]
 refine anyK_done (by kernel_rfl) ?_ _
 clear hHeld
 go_wp2_with fail
 go_ret
 exact ⟨HF.out, HB.out.trans (BC.out.mono HB.out.size)⟩
end Go.Proofs.Ytphmlndkjgldkaa
/- The library's Grow and Concat over entries. Conditions: at most four entries each. -/


namespace Go.Proofs.Ytphmlndkjgldkaa
open Go.RowKit
set_option maxRecDepth 100000
theorem owns_zerosE (w : World) (n : Nat) (hn : n ≤ 2097152) : ((w.alloc (.cells (Builtin.zeroCells (Value.agg #[.int .i64 0, .int .i64 0, .float .f64 0, .slice none 0 0, .int .i64 0]).cells n ++ Builtin.zeroCells (Value.agg #[.int .i64 0, .int .i64 0, .float .f64 0, .slice none 0 0, .int .i64 0]).cells (grownCap w n 0 35 - n)) 35)).drew).ownsRow w.heap.size 35 5 (.slice (some ⟨w.heap.size, 0, none⟩) 0 (grownCap w n 0 35)) 0 [] := by
 have hge := grownCap_ge w n 0 35
 have hcm : grownCap w n 0 35 ≤ maxLen := grownCap_le_maxLen w n 0 35 (by unfold maxLen; omega)
 refine ⟨rfl, .inr ⟨w.heap.size, _, _, rfl, Nat.le_refl _, heap_alloc_new w _, Nat.zero_le _, hcm, ?_, ?_⟩⟩
 · rw [Array.size_append, size_zeroCells, size_zeroCells]
   rw [show (Value.agg #[.int .i64 0, .int .i64 0, .float .f64 0, .slice none 0 0, .int .i64 0]).cells.size = 5 from rfl]
   omega
 · simp
set_option maxHeartbeats 1600000 in
theorem grow_ents_pos (n : Nat) (h0 : 0 < n) (hn : n ≤ 2097152) (w : World) :
 Calls Try.prog 117 #[.slice none 0 0, .int .i64 n] w fun e w' => ∃ v, e = .returned v ∧ w'.ownsRow w.heap.size 35 5 v 0 [] ∧ Below w.heap.size w w' := by
 obtain ⟨i0, hi, hz0, hz1, hz2⟩ := info_parts Try.infoEn
 have hr := Go.Lib.run_append_nil_zeros (P := Try.prog) w 82 3 82 35 i0 (.agg #[.int .i64 0, .int .i64 0, .float .f64 0, .slice none 0 0, .int .i64 0]) .i64 .i64 Try.underlying82 Try.underlying3 hi hz0 n h0 (by omega) (by omega) (by rw [hz2]; omega)
 have a1 : (0 : Int) < (n : Int) := by omega
 have a2 : ¬ (n : Int) < 0 := by omega
 have a3 : (n : Int) ≤ 2097152 := by omega
 have HO := hid (owns_zerosE w n hn)
 go_enter Try.func117, Try.ntmps117
 go_wp2_with (at_builtin; refine Go.Lib.wpList_append_run _ rfl _ _ _ _ rfl _ _ rfl rfl _ _ hr ?_)
 go_ret
 exact ⟨_, rfl, HO.out, (Below.alloc1 w _).trans ((Still.drew _).below _)⟩
theorem grow_ents (n : Nat) (hn : n ≤ 2097152) (w : World) :
 Calls Try.prog 117 #[.slice none 0 0, .int .i64 n] w fun e w' => ∃ v, e = .returned v ∧ w'.ownsRow w.heap.size 35 5 v 0 [] ∧ Below w.heap.size w w' := by
 by_cases h0 : 0 < n
 · exact grow_ents_pos n h0 hn w
 · obtain rfl : n = 0 := by omega
   go_enter Try.func117, Try.ntmps117
   go_wp2_with fail
   go_ret
   exact ⟨_, rfl, World.ownsRow_nil _ _ _ _, Below.refl _ _⟩
def At5 (w : World) (p : Addr) (n : Nat) (L : List Value) : Prop := L.length = n * 5 ∧ ∀ j u, L[j]? = some u → w.cell? (p.add j) = some u
theorem At5.below {w w' : World} {p : Addr} {n : Nat} {L : List Value} (h : At5 w p n L) (hb : Below w.heap.size w w') : At5 w' p n L :=
 ⟨h.1, fun j u hu => by
  have e := h.2 j u hu
  exact (hb.cell (World.block_lt_of_cell? w _ e)).trans e⟩
set_option maxHeartbeats 3200000 in
theorem concat_ents (G : Nat) {p1 p2 : Addr} {n1 n2 c1 c2 : Nat} {L1 L2 : List Value} {w : World} (o1 : At5 w p1 n1 L1) (o2 : At5 w p2 n2 L2) (h1c : ∀ u ∈ L1, u.oneCell' = true) (h2c : ∀ u ∈ L2, u.oneCell' = true) (hn1 : n1 ≤ 4) (hn2 : n2 ≤ 4)
 (d1 : w.cell? ⟨G, 0, none⟩ = some (.slice (some p1) n1 c1)) (d2 : w.cell? ⟨G, 1, none⟩ = some (.slice (some p2) n2 c2)) :
 Calls Try.prog 93 #[.slice (some ⟨G, 0, none⟩) 2 2] w fun e w' => ∃ a' c', e = .returned (.slice a' (n1 + n2) c') ∧ w'.ownsRow w.heap.size 35 5 (.slice a' (n1 + n2) c') (n1 + n2) (L1 ++ L2) ∧ Below w.heap.size w w' := by
 obtain ⟨i0, hi, hz0, hz1, hz2⟩ := info_parts Try.infoEn
 have HG := hid (World.block_lt_of_cell? w _ d1)
 have HO1 := hid o1
 have HO2 := hid o2
 have H1c := hid h1c
 have H2c := hid h2c
 have D1 := hid d1
 have D2 := hid d2
 have i1 : (0 : Int) ≤ (n1 : Int) := by omega
 have i2 : (0 : Int) ≤ (n2 : Int) := by omega
 have i3 : (n1 : Int) ≤ 4 := by omega
 have i4 : (n2 : Int) ≤ 4 := by omega
 clear o1 o2 h1c h2c
 go_enter Try.func93, Try.ntmps93
 go_wp2
 go_loopw [3, 11] (fun s i wr => wr = w ∧ ((i = .int .i64 0 ∧ s = .int .i64 0) ∨ (i = .int .i64 1 ∧ s = .int .i64 n1) ∨ (i = .int .i64 2 ∧ s = .int .i64 ((n1 : Int) + n2)))) (fun _ i _ => 2 - (intOf i).toNat)
 case atStart => exact ⟨rfl, .inl ⟨rfl, rfl⟩⟩
 case round =>
  obtain ⟨rfl, hcase⟩ := hrel
  rcases hcase with ⟨rfl, rfl⟩ | ⟨rfl, rfl⟩ | ⟨rfl, rfl⟩
  · go_wp2
    go_roundw
    case rel => exact ⟨by first | trivial | rfl, .inr (.inl ⟨by go_num, by go_num⟩)⟩
    case measure => simp [intOf]
  · go_wp2
    go_roundw
    case rel => exact ⟨by first | trivial | rfl, .inr (.inr ⟨by go_num, by go_num⟩)⟩
    case measure => simp [intOf]
  · clear d1 d2
    obtain ⟨w0, hw0⟩ : ∃ w0, w0 = wr := ⟨_, rfl⟩
    subst hw0
    rw [show ((n1 : Int) + n2) = ((n1 + n2 : Nat) : Int) by omega]
    have i5 : (0 : Int) ≤ ((n1 + n2 : Nat) : Int) := by omega
    go_wp2_with fail
    refine (grow_ents (n1 + n2) (by omega) _).mono ?_
    rintro e w1 ⟨v, rfl, o, b⟩
    have O := hid o
    have B := hid b
    clear o b i5
    go_wp2_with fail
    go_loopw [6, 27] (fun v2 i wr => Below w0.heap.size w0 wr ∧ ((i = .int .i64 0 ∧ wr.ownsRow w0.heap.size 35 5 v2 0 []) ∨ (i = .int .i64 1 ∧ wr.ownsRow w0.heap.size 35 5 v2 n1 L1) ∨ (i = .int .i64 2 ∧ wr.ownsRow w0.heap.size 35 5 v2 (n1 + n2) (L1 ++ L2)))) (fun _ i _ => 2 - (intOf i).toNat)
    case atStart => exact ⟨B.out, .inl ⟨rfl, O.out⟩⟩
    case round =>
     obtain ⟨bq, hcase⟩ := hrel
     clear O B
     have BQ := hid bq
     have d1 := (bq.cell (p := ⟨G, 0, none⟩) HG.out).trans D1.out
     have d2 := (bq.cell (p := ⟨G, 1, none⟩) HG.out).trans D2.out
     have Q1 := hid (HO1.out.below bq)
     have Q2 := hid (HO2.out.below bq)
     clear bq
     rcases hcase with ⟨rfl, o⟩ | ⟨rfl, o⟩ | ⟨rfl, o⟩
     · have O := hid o
       clear o d2
       go_wp2_with (at_builtin; refine wpList_append_row rfl _ _ 82 rfl w0.heap.size 35 i0 (.agg #[.int .i64 0, .int .i64 0, .float .f64 0, .slice none 0 0, .int .i64 0]) 5 56 Try.underlying82 hi hz0 hz1 hz2 rfl (by decide) _ 0 [] rfl O.out (some p1) n1 c1 L1 rfl Q1.out.1 (.inr ⟨_, rfl, Q1.out.2⟩) (fun e => by cases e) H1c.out ?k4 ?k5 BQ.out.size ?_)
       case k4 => unfold maxLen; omega
       case k5 => omega
       intro a' c' w' o' g'
       have B' := hid (BQ.out.grown g' BQ.out.size (fun k hk => (O.out.lt k hk).1))
       have O' := hid (show w'.ownsRow w0.heap.size 35 5 (.slice a' n1 c') n1 L1 by simpa using o')
       clear o' g' O
       go_wp2
       go_roundw
       case rel => exact ⟨B'.out, .inr (.inl ⟨by go_num, O'.out⟩)⟩
       case measure => simp [intOf]
     · have O := hid o
       clear o d1
       go_wp2_with (at_builtin; refine wpList_append_row rfl _ _ 82 rfl w0.heap.size 35 i0 (.agg #[.int .i64 0, .int .i64 0, .float .f64 0, .slice none 0 0, .int .i64 0]) 5 56 Try.underlying82 hi hz0 hz1 hz2 rfl (by decide) _ n1 L1 rfl O.out (some p2) n2 c2 L2 rfl Q2.out.1 (.inr ⟨_, rfl, Q2.out.2⟩) (fun e => by cases e) H2c.out ?k6 ?k7 BQ.out.size ?_)
       case k6 => unfold maxLen; omega
       case k7 => omega
       intro a' c' w' o' g'
       have B' := hid (BQ.out.grown g' BQ.out.size (fun k hk => (O.out.lt k hk).1))
       have O' := hid o'
       clear o' g' O
       go_wp2
       go_roundw
       case rel => exact ⟨B'.out, .inr (.inr ⟨by go_num, O'.out⟩)⟩
       case measure => simp [intOf]
     · obtain ⟨a', c', e'⟩ := own_sl o
       subst e'
       have O := hid o
       clear o d1 d2
       go_wp2
       go_ret
       exact ⟨_, _, rfl, O.out, BQ.out⟩
end Go.Proofs.Ytphmlndkjgldkaa
