/- Trees, plain: taking an entry out: what the specification leaves in all leaves is what the program leaves in one. No program, no conditions. -/
import Derived.Test.YtphmlndkjgldkaaMj11
namespace Go.Proofs.Ytphmlndkjgldkaa
open Go.RowKit
set_option maxRecDepth 100000
def offE (e x : En) : Bool := ltE x e || ltE e x
def outD (e : En) (d : Nd) : Nd := if d.leaf then ⟨d.leaf, d.es.filter (offE e), d.ks⟩ else d
def dropN (ns : List Nd) (e : En) : List Nd := ns.map (outD e)
theorem filter_erase (p : En → Bool) : ∀ (es : List En) (k : Nat), k < es.length → (∀ i, i < es.length → (p (es.getD i en0) = false ↔ i = k)) → es.filter p = es.eraseIdx k
 | [], k, h, _ => by cases h
 | x :: es, 0, _, hp => by
  have h0 : p x = false := (hp 0 (by simp)).2 rfl
  rw [List.filter_cons_of_neg (by rw [h0]; simp), List.eraseIdx_zero, List.tail_cons, List.filter_eq_self]
  intro z hz
  obtain ⟨i, hi, rfl⟩ := List.mem_iff_getElem.1 hz
  cases q : p es[i] with
  | true => rfl
  | false =>
   have := (hp (i + 1) (by simpa using hi)).1 (by rw [List.getD_cons_succ, List.getD_eq_getElem?_getD, List.getElem?_eq_getElem hi]; exact q)
   omega
 | x :: es, k + 1, hk, hp => by
  have h0 : p x = true := by
   cases q : p x with
   | true => rfl
   | false => have := (hp 0 (by simp)).1 q; omega
  have ih := filter_erase p es k (by simpa using hk) (fun i hi => by
   have := hp (i + 1) (by simpa using hi)
   rw [List.getD_cons_succ] at this
   rw [this]; omega)
  rw [List.filter_cons_of_pos h0, List.eraseIdx_cons_succ, ih]
theorem off_no (e x : En) : offE e x = false ↔ (ltE x e = false ∧ ltE e x = false) := by unfold offE; rw [Bool.or_eq_false_iff]
theorem leaf_at {lo hi : Option En} {es : List En} {e : En} (h : nodeOk lo hi es = true) (he : entOk e = true) {k : Nat} (hk : k < es.length) (hq : offE e (es.getD k en0) = false) : upsB es e = k + 1 ∧ ∀ i, i < es.length → (offE e (es.getD i en0) = false ↔ i = k) := by
 obtain ⟨q1, q2⟩ := (off_no _ _).1 hq
 have ek := (ento_at h hk).1
 have lowr : ∀ i, i < k → ltE (es.getD i en0) e = true := fun i hi => ltE_lt (ento_at h (by omega)).1 ek he (asc_at h hi hk) q2
 have high : ∀ i, k < i → i < es.length → ltE e (es.getD i en0) = true := fun i hi hl => ltE_le he ek (ento_at h hl).1 q1 (asc_at h hi hl)
 refine ⟨upsB_at (by omega) (fun i hi => ?_) (fun i hi hl => high i (by omega) hl), fun i hl => ⟨fun hf => ?_, fun e' => e' ▸ hq⟩⟩
 · by_cases e' : i = k
   · rw [e']; exact q2
   · have h1 := lowr i (by omega)
     cases q : ltE e (es.getD i en0) with
     | false => rfl
     | true => exact absurd ((ltE_iff he (ento_at h (by omega)).1).1 q) (ltP_asym ((ltE_iff (ento_at h (by omega)).1 he).1 h1))
 · obtain ⟨p1, p2⟩ := (off_no _ _).1 hf
   rcases Nat.lt_trichotomy i k with c | c | c
   · rw [lowr i c] at p1; cases p1
   · exact c
   · rw [high i c hl] at p2; cases p2
theorem treeIs_parts {ns : List Nd} {root : Int} (h : treeIs ns root = true) : good ns (ns.length + 1) root ∧ ino ns (ns.length + 1) root none none = true ∧ ∀ i, i < ns.length → (i : Int) ∈ posL ns (ns.length + 1) root := by
 unfold treeIs at h
 rw [Bool.and_eq_true] at h
 cases hl : lnk ns (ns.length + 1) (List.replicate ns.length false) root with
 | none => rw [hl] at h; cases h.2
 | some sd =>
  rw [hl] at h
  simp only [Bool.and_eq_true] at h
  refine ⟨lnk_good ns _ _ _ _ hl, h.2.2.2, fun i hi => ?_⟩
  have hln : sd.length = ns.length := by
   have hg : ∀ (f : Nat) (s : List Bool) (x : Int) (s' : List Bool), lnk ns f s x = some s' → s'.length = s.length := fun f => by
    induction f with
    | zero => intro s x s' q; cases q
    | succ f ih =>
     intro s x s' q
     unfold lnk at q
     split at q
     · cases q
     · have hf : ∀ (l : List Int) (t t' : List Bool), l.foldlM (fun s k => lnk ns f s k) t = some t' → t'.length = t.length := fun l => by
        induction l with
        | nil => intro t t' e; have : t = t' := by simpa using e
                 rw [this]
        | cons y l ihl =>
         intro t t' e
         rw [List.foldlM_cons] at e
         cases hy : lnk ns f t y with
         | none => rw [hy] at e; cases e
         | some t1 => rw [hy] at e; exact (ihl t1 t' e).trans (ih t y t1 hy)
       rw [hf _ _ _ q, List.length_set]
   rw [hg _ _ _ _ hl, List.length_replicate]
  have hs : sd.getD i false = true := by
   have := List.all_eq_true.1 h.2.1 (sd[i]'(by omega)) (List.getElem_mem _)
   rw [List.getD_eq_getElem?_getD, List.getElem?_eq_getElem (by omega)]
   exact this
  rcases lnk_pos ns _ _ _ _ hl i hs with q | q
  · rw [List.getD_eq_getElem?_getD] at q
    by_cases hr : i < (List.replicate ns.length false).length
    · rw [List.getElem?_eq_getElem hr, List.getElem_replicate] at q; cases q
    · rw [List.getElem?_eq_none (by omega)] at q; cases q
  · exact q
theorem okO_none : okO none := fun a h => by cases h
def isAt (ns : List Nd) (root : Int) (e : En) : Bool :=
 let es := (ns.getD (leafW ns (ns.length + 1) root e).toNat nd0).es
 decide (0 < upsB es e) && !offE e (es.getD (upsB es e - 1) en0)
theorem pos_node (ns : List Nd) : ∀ (f : Nat) (x y : Int) (lo hi : Option En), good ns f x → ino ns f x lo hi = true → y ∈ posL ns f x → ∃ lo' hi', nodeOk lo' hi' (ns.getD y.toNat nd0).es = true
 | 0, _, _, _, _, hg, _, _ => hg.elim
 | f + 1, x, y, lo, hi, hg, ho, hy => by
  obtain ⟨hn, hk⟩ := ino_node ho
  rcases pos_kid hy with rfl | ⟨i, hi', hy'⟩
  · exact ⟨lo, hi, hn⟩
  · exact pos_node ns f _ y _ _ (hg.2.2.2 _ (getD_mem11 hi')) (hk i hi') hy'
theorem node_ok {ns : List Nd} {root : Int} (h : treeIs ns root = true) {i : Nat} (hi : i < ns.length) : ∃ lo hi, nodeOk lo hi (ns.getD i nd0).es = true := by
 obtain ⟨hg, ho, hp⟩ := treeIs_parts h
 have := pos_node ns _ _ _ _ _ hg ho (hp i hi)
 rw [Int.toNat_natCast] at this
 exact this
theorem off_leaf {ns : List Nd} {root : Int} (h : treeIs ns root = true) {e : En} (he : entOk e = true) {i : Nat} (hi : i < ns.length) (hl : (ns.getD i nd0).leaf = true) (hne : (i : Int) ≠ leafW ns (ns.length + 1) root e) : ∀ z ∈ (ns.getD i nd0).es, offE e z = true := by
 obtain ⟨hg, ho, hp⟩ := treeIs_parts h
 intro z hz
 cases q : offE e z with
 | true => rfl
 | false =>
  obtain ⟨q1, q2⟩ := (off_no _ _).1 q
  exact absurd (leaf_uniq ns he _ _ _ _ _ hg ho okO_none okO_none (hp i hi) (by rw [Int.toNat_natCast]; exact hl) z (by rw [Int.toNat_natCast]; exact hz) q1 q2) hne
end Go.Proofs.Ytphmlndkjgldkaa
