/- Trees, plain: the way down to an entry; an entry stands in no leaf but the one at the end of its way. No program, no conditions. -/
import Derived.Test.YtphmlndkjgldkaaMi11
namespace Go.Proofs.Ytphmlndkjgldkaa
open Go.RowKit
set_option maxRecDepth 100000
theorem getD_mem11 {l : List Int} {i : Nat} (h : i < l.length) : l.getD i 0 ∈ l := by
 rw [List.getD_eq_getElem?_getD, List.getElem?_eq_getElem h]
 exact List.getElem_mem h
def leafW (ns : List Nd) : Nat → Int → En → Int
 | 0, x, _ => x
 | f + 1, x, e => if (ns.getD x.toNat nd0).leaf then x else leafW ns f ((ns.getD x.toNat nd0).ks.getD (upsB (ns.getD x.toNat nd0).es e) 0) e
def posL (ns : List Nd) : Nat → Int → List Int
 | 0, _ => []
 | f + 1, x => x :: ((ns.getD x.toNat nd0).ks.map (fun k => posL ns f k)).flatten
def good (ns : List Nd) : Nat → Int → Prop
 | 0, _ => False
 | f + 1, x => formOk (ns.getD x.toNat nd0) = true ∧ 0 ≤ x ∧ x < ns.length ∧ ∀ k ∈ (ns.getD x.toNat nd0).ks, good ns f k
theorem foldM_some {g : List Bool → Int → Option (List Bool)} : ∀ (l : List Int) (s s' : List Bool), l.foldlM (fun s k => g s k) s = some s' → ∀ k ∈ l, ∃ s1 s2, g s1 k = some s2
 | [], _, _, _, k, hk => by cases hk
 | x :: l, s, s', h, k, hk => by
  rw [List.foldlM_cons] at h
  cases hx : g s x with
  | none => rw [hx] at h; cases h
  | some s1 =>
   rw [hx] at h
   rcases List.mem_cons.1 hk with rfl | hk
   · exact ⟨s, s1, hx⟩
   · exact foldM_some l s1 s' h k hk
theorem lnk_good (ns : List Nd) : ∀ (f : Nat) (sd : List Bool) (x : Int) (sd' : List Bool), lnk ns f sd x = some sd' → good ns f x
 | 0, _, _, _, h => by cases h
 | f + 1, sd, x, sd', h => by
  unfold lnk at h
  split at h
  · cases h
  · rename_i hc
    rw [Bool.not_eq_true, Bool.or_eq_false_iff] at hc
    have ho := outB_no hc.1
    refine ⟨by simpa using hc.2, ho.1, ho.2.1, fun k hk => ?_⟩
    obtain ⟨s1, s2, hs⟩ := foldM_some (g := fun s k => lnk ns f s k) _ _ _ h k hk
    exact lnk_good ns f s1 k s2 hs
theorem foldM_pos (ns : List Nd) (f : Nat) (ih : ∀ (sd : List Bool) (x : Int) (sd' : List Bool), lnk ns f sd x = some sd' → ∀ i : Nat, sd'.getD i false = true → sd.getD i false = true ∨ (i : Int) ∈ posL ns f x) : ∀ (l : List Int) (s s' : List Bool), l.foldlM (fun s k => lnk ns f s k) s = some s' → ∀ i : Nat, s'.getD i false = true → s.getD i false = true ∨ (i : Int) ∈ (l.map (fun k => posL ns f k)).flatten
 | [], s, s', h, i, hi => by
  have : s = s' := by simpa using h
  rw [this]; exact .inl hi
 | x :: l, s, s', h, i, hi => by
  rw [List.foldlM_cons] at h
  cases hx : lnk ns f s x with
  | none => rw [hx] at h; cases h
  | some s1 =>
   rw [hx] at h
   rw [List.map_cons, List.flatten_cons, List.mem_append]
   rcases foldM_pos ns f ih l s1 s' h i hi with q | q
   · rcases ih s x s1 hx i q with q' | q'
     · exact .inl q'
     · exact .inr (.inl q')
   · exact .inr (.inr q)
theorem lnk_pos (ns : List Nd) : ∀ (f : Nat) (sd : List Bool) (x : Int) (sd' : List Bool), lnk ns f sd x = some sd' → ∀ i : Nat, sd'.getD i false = true → sd.getD i false = true ∨ (i : Int) ∈ posL ns f x
 | 0, _, _, _, h, _, _ => by cases h
 | f + 1, sd, x, sd', h, i, hi => by
  unfold lnk at h
  split at h
  · cases h
  · rename_i hc
    rw [Bool.not_eq_true, Bool.or_eq_false_iff] at hc
    have ho := outB_no hc.1
    rcases foldM_pos ns f (lnk_pos ns f) _ _ _ h i hi with q | q
    · by_cases e : i = x.toNat
      · right
        unfold posL
        rw [show (i : Int) = x by omega]
        exact List.mem_cons_self
      · left
        rw [List.getD_eq_getElem?_getD, List.getElem?_set_ne (fun q => e q.symm), ← List.getD_eq_getElem?_getD] at q
        exact q
    · right
      unfold posL
      exact List.mem_cons_of_mem _ q
theorem ento_at {lo hi : Option En} {es : List En} (h : nodeOk lo hi es = true) {i : Nat} (hi' : i < es.length) : entOk (es.getD i en0) = true ∧ loB lo (es.getD i en0) = true ∧ hiB hi (es.getD i en0) = true := by
 unfold nodeOk at h
 have := List.all_eq_true.1 h i (List.mem_range.2 hi')
 unfold okAt at this
 rw [Bool.and_eq_true, hasB_of, Bool.and_eq_true, Bool.and_eq_true] at this
 exact ⟨this.1.1, this.1.2.1, this.1.2.2⟩
theorem asc_at {lo hi : Option En} {es : List En} (h : nodeOk lo hi es = true) : ∀ {j i : Nat}, i < j → j < es.length → ltE (es.getD i en0) (es.getD j en0) = true
 | 0, i, hij, _ => by omega
 | j + 1, i, hij, hj => by
  have h1 : ltE (es.getD j en0) (es.getD (j + 1) en0) = true := by
   unfold nodeOk at h
   have := List.all_eq_true.1 h (j + 1) (List.mem_range.2 hj)
   unfold okAt at this
   rw [Bool.and_eq_true, decide_eq_false (by omega), Bool.false_or] at this
   exact this.2
  by_cases e : i = j
  · rw [e]; exact h1
  · exact ltE_trans (ento_at h (by omega)).1 (ento_at h (by omega)).1 (ento_at h hj).1 (asc_at h (by omega) (by omega)) h1
def okO (o : Option En) : Prop := ∀ a, o = some a → entOk a = true
theorem lowAt_ok {lo hi : Option En} {es : List En} (h : nodeOk lo hi es = true) (hlo : okO lo) {i : Nat} (hi' : i ≤ es.length) : okO (lowAt es lo i) := by
 intro a ha
 unfold lowAt at ha
 split at ha
 · exact hlo a ha
 · cases ha; exact (ento_at h (by omega)).1
theorem highAt_ok {lo hi : Option En} {es : List En} (h : nodeOk lo hi es = true) (hhi : okO hi) (i : Nat) : okO (highAt es hi i) := by
 intro a ha
 unfold highAt at ha
 split at ha
 · cases ha; exact (ento_at h (by assumption)).1
 · exact hhi a ha
theorem good_len {ns : List Nd} {f : Nat} {x : Int} (h : good ns (f + 1) x) {i : Nat} (hi : i < (ns.getD x.toNat nd0).ks.length) : i ≤ (ns.getD x.toNat nd0).es.length := by
 cases hl : (ns.getD x.toNat nd0).leaf with
 | true => have := form_leaf h.1 hl; omega
 | false => have := form_kids h.1 hl; omega
theorem ino_node {ns : List Nd} {f : Nat} {x : Int} {lo hi : Option En} (h : ino ns (f + 1) x lo hi = true) : nodeOk lo hi (ns.getD x.toNat nd0).es = true ∧ ∀ i, i < (ns.getD x.toNat nd0).ks.length → ino ns f ((ns.getD x.toNat nd0).ks.getD i 0) (lowAt (ns.getD x.toNat nd0).es lo i) (highAt (ns.getD x.toNat nd0).es hi i) = true := by
 rw [ino] at h
 rw [Bool.and_eq_true, List.all_eq_true] at h
 exact ⟨h.1, fun i hi' => h.2 i (List.mem_range.2 hi')⟩
theorem pos_kid {ns : List Nd} {f : Nat} {x y : Int} (h : y ∈ posL ns (f + 1) x) : y = x ∨ ∃ i, i < (ns.getD x.toNat nd0).ks.length ∧ y ∈ posL ns f ((ns.getD x.toNat nd0).ks.getD i 0) := by
 unfold posL at h
 rcases List.mem_cons.1 h with q | q
 · exact .inl q
 · obtain ⟨L, hL, hy⟩ := List.mem_flatten.1 q
   obtain ⟨k, hk, rfl⟩ := List.mem_map.1 hL
   obtain ⟨i, hi, rfl⟩ := List.mem_iff_getElem.1 hk
   exact .inr ⟨i, hi, by rw [List.getD_eq_getElem?_getD, List.getElem?_eq_getElem hi]; exact hy⟩
theorem pos_in (ns : List Nd) : ∀ (f : Nat) (x y : Int) (lo hi : Option En), good ns f x → ino ns f x lo hi = true → okO lo → okO hi → y ∈ posL ns f x → ∀ z ∈ (ns.getD y.toNat nd0).es, entOk z = true ∧ loB lo z = true ∧ hiB hi z = true
 | 0, _, _, _, _, hg, _, _, _, _, _, _ => hg.elim
 | f + 1, x, y, lo, hi, hg, ho, hlo, hhi, hy, z, hz => by
  obtain ⟨hn, hk⟩ := ino_node ho
  rcases pos_kid hy with rfl | ⟨i, hi', hy'⟩
  · obtain ⟨j, hj, rfl⟩ := List.mem_iff_getElem.1 hz
    have := ento_at hn hj
    rw [List.getD_eq_getElem?_getD, List.getElem?_eq_getElem hj] at this
    exact this
  · have hle := good_len hg hi'
    have hkm : (ns.getD x.toNat nd0).ks.getD i 0 ∈ (ns.getD x.toNat nd0).ks := getD_mem11 hi'
    obtain ⟨z1, z2, z3⟩ := pos_in ns f _ y _ _ (hg.2.2.2 _ hkm) (hk i hi') (lowAt_ok hn hlo hle) (highAt_ok hn hhi i) hy' z hz
    refine ⟨z1, ?_, ?_⟩
    · unfold lowAt at z2
      split at z2
      · exact z2
      · cases lo with
        | none => rfl
        | some a =>
         have ea := ento_at hn (i := i - 1) (by omega)
         have h1 : ltE ((ns.getD x.toNat nd0).es.getD (i - 1) en0) a = false := by simpa [loB] using ea.2.1
         have h2 : ltE z ((ns.getD x.toNat nd0).es.getD (i - 1) en0) = false := by simpa [loB] using z2
         simp only [loB]
         rw [leE_trans (hlo a rfl) ea.1 z1 h1 h2]; rfl
    · unfold highAt at z3
      split at z3
      · rename_i hl
        cases hi with
        | none => rfl
        | some b =>
         have ea := ento_at hn hl
         exact ltE_trans z1 ea.1 (hhi b rfl) z3 ea.2.2
      · exact z3
theorem upsB_at {es : List En} {e : En} {j : Nat} (hj : j ≤ es.length) (h1 : ∀ i, i < j → ltE e (es.getD i en0) = false) (h2 : ∀ i, j ≤ i → i < es.length → ltE e (es.getD i en0) = true) : upsB es e = j := by
 unfold upsB
 have e1 : es = es.take j ++ es.drop j := (List.take_append_drop j es).symm
 rw [e1, List.countP_append]
 have a1 : (es.take j).countP (fun x => !ltE e x) = (es.take j).length := by
  rw [List.countP_eq_length]
  intro z hz
  obtain ⟨i, hi, rfl⟩ := List.mem_iff_getElem.1 hz
  rw [List.length_take] at hi
  have := h1 i (by omega)
  rw [List.getD_eq_getElem?_getD, List.getElem?_eq_getElem (by omega)] at this
  rw [List.getElem_take, Bool.not_eq_true']
  exact this
 have a2 : (es.drop j).countP (fun x => !ltE e x) = 0 := by
  rw [List.countP_eq_zero]
  intro z hz
  obtain ⟨i, hi, rfl⟩ := List.mem_iff_getElem.1 hz
  rw [List.length_drop] at hi
  have := h2 (j + i) (by omega) (by omega)
  rw [List.getD_eq_getElem?_getD, List.getElem?_eq_getElem (by omega)] at this
  rw [List.getElem_drop]
  rw [show ltE e es[j + i] = true from this]
  simp
 rw [a1, a2, List.length_take]
 omega
theorem leaf_uniq (ns : List Nd) {e : En} (he : entOk e = true) : ∀ (f : Nat) (x y : Int) (lo hi : Option En), good ns f x → ino ns f x lo hi = true → okO lo → okO hi → y ∈ posL ns f x → (ns.getD y.toNat nd0).leaf = true → ∀ z ∈ (ns.getD y.toNat nd0).es, ltE z e = false → ltE e z = false → y = leafW ns f x e
 | 0, _, _, _, _, hg, _, _, _, _, _, _, _, _, _ => hg.elim
 | f + 1, x, y, lo, hi, hg, ho, hlo, hhi, hy, hlf, z, hz, q1, q2 => by
  obtain ⟨hn, hk⟩ := ino_node ho
  unfold leafW
  rcases pos_kid hy with rfl | ⟨i, hi', hy'⟩
  · rw [if_pos hlf]
  · have hle := good_len hg hi'
    have hkm : (ns.getD x.toNat nd0).ks.getD i 0 ∈ (ns.getD x.toNat nd0).ks := getD_mem11 hi'
    have hx : (ns.getD x.toNat nd0).leaf = false := by
     cases hl : (ns.getD x.toNat nd0).leaf with
     | false => rfl
     | true => have := (form_leaf hg.1 hl).2; omega
    obtain ⟨z1, z2, z3⟩ := pos_in ns f _ y _ _ (hg.2.2.2 _ hkm) (hk i hi') (lowAt_ok hn hlo hle) (highAt_ok hn hhi i) hy' z hz
    have hu : upsB (ns.getD x.toNat nd0).es e = i := by
     refine upsB_at hle (fun t ht => ?_) (fun t ht ht2 => ?_)
     · have ea := ento_at hn (i := i - 1) (by omega)
       have h2 : ltE z ((ns.getD x.toNat nd0).es.getD (i - 1) en0) = false := by
        unfold lowAt at z2
        rw [if_neg (by omega)] at z2
        simpa [loB] using z2
       have h3 : ltE e ((ns.getD x.toNat nd0).es.getD (i - 1) en0) = false := leE_trans ea.1 z1 he h2 q2
       by_cases h4 : t = i - 1
       · rw [h4]; exact h3
       · have et := ento_at hn (i := t) (by omega)
         have h5 := asc_at hn (i := t) (j := i - 1) (by omega) (by omega)
         have h6 : ltE ((ns.getD x.toNat nd0).es.getD (i - 1) en0) ((ns.getD x.toNat nd0).es.getD t en0) = false := by
          cases q : ltE ((ns.getD x.toNat nd0).es.getD (i - 1) en0) ((ns.getD x.toNat nd0).es.getD t en0) with
          | false => rfl
          | true => exact absurd ((ltE_iff ea.1 et.1).1 q) (ltP_asym ((ltE_iff et.1 ea.1).1 h5))
         exact leE_trans et.1 ea.1 he h6 h3
     · have hil : i < (ns.getD x.toNat nd0).es.length := by omega
       have ei := ento_at hn hil
       have h2 : ltE z ((ns.getD x.toNat nd0).es.getD i en0) = true := by
        unfold highAt at z3
        rw [if_pos hil] at z3
        exact z3
       have h3 : ltE e ((ns.getD x.toNat nd0).es.getD i en0) = true := ltE_le he z1 ei.1 q1 h2
       by_cases h4 : t = i
       · rw [h4]; exact h3
       · exact ltE_trans he ei.1 (ento_at hn ht2).1 h3 (asc_at hn (by omega) ht2)
    rw [if_neg (by rw [hx]; simp), hu]
    exact leaf_uniq ns he f _ y _ _ (hg.2.2.2 _ hkm) (hk i hi') (lowAt_ok hn hlo hle) (highAt_ok hn hhi i) hy' hlf z hz q1 q2
end Go.Proofs.Ytphmlndkjgldkaa
