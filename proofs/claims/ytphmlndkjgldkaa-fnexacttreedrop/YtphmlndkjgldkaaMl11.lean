/- Trees, plain: an entry is there just if it is at the end of its way; without it the nodes are as both sides tell. No program, no conditions. -/
import Derived.Test.YtphmlndkjgldkaaMk11
namespace Go.Proofs.Ytphmlndkjgldkaa
open Go.RowKit
set_option maxRecDepth 100000
theorem upsB_le (es : List En) (e : En) : upsB es e ≤ es.length := List.countP_le_length
theorem leafW_pos (ns : List Nd) (e : En) : ∀ (f : Nat) (x : Int), good ns f x → leafW ns f x e ∈ posL ns f x ∧ (ns.getD (leafW ns f x e).toNat nd0).leaf = true ∧ 0 ≤ leafW ns f x e ∧ leafW ns f x e < ns.length
 | 0, _, h => h.elim
 | f + 1, x, h => by
  unfold leafW posL
  cases hl : (ns.getD x.toNat nd0).leaf with
  | true =>
   rw [if_pos rfl]
   exact ⟨List.mem_cons_self, hl, h.2.1, h.2.2.1⟩
  | false =>
   rw [if_neg (by simp)]
   have hf := form_kids h.1 hl
   have hu := upsB_le (ns.getD x.toNat nd0).es e
   have hk : upsB (ns.getD x.toNat nd0).es e < (ns.getD x.toNat nd0).ks.length := by omega
   obtain ⟨h1, h2, h3⟩ := leafW_pos ns e f _ (h.2.2.2 _ (getD_mem11 hk))
   refine ⟨List.mem_cons_of_mem _ (List.mem_flatten.2 ⟨_, List.mem_map.2 ⟨_, getD_mem11 hk, rfl⟩, h1⟩), h2, h3⟩
theorem lfs_mem (ns : List Nd) (z : En) : ∀ (f : Nat) (x : Int), good ns f x → (z ∈ lfs ns f x ↔ ∃ y ∈ posL ns f x, (ns.getD y.toNat nd0).leaf = true ∧ z ∈ (ns.getD y.toNat nd0).es)
 | 0, _, h => h.elim
 | f + 1, x, h => by
  rw [lfs]
  cases hl : (ns.getD x.toNat nd0).leaf with
  | true =>
   rw [if_pos rfl]
   have hk := (form_leaf h.1 hl).2
   constructor
   · intro hz
     exact ⟨x, by unfold posL; exact List.mem_cons_self, hl, hz⟩
   · rintro ⟨y, hy, _, hz⟩
     rcases pos_kid hy with rfl | ⟨i, hi, _⟩
     · exact hz
     · omega
  | false =>
   rw [if_neg (by simp)]
   constructor
   · intro hz
     obtain ⟨L, hL, hz'⟩ := List.mem_flatten.1 hz
     obtain ⟨k, hk, rfl⟩ := List.mem_map.1 hL
     obtain ⟨y, hy, h1, h2⟩ := (lfs_mem ns z f k (h.2.2.2 k hk)).1 hz'
     exact ⟨y, by unfold posL; exact List.mem_cons_of_mem _ (List.mem_flatten.2 ⟨_, List.mem_map.2 ⟨k, hk, rfl⟩, hy⟩), h1, h2⟩
   · rintro ⟨y, hy, h1, h2⟩
     rcases pos_kid hy with rfl | ⟨i, hi, hy'⟩
     · rw [hl] at h1; cases h1
     · exact List.mem_flatten.2 ⟨_, List.mem_map.2 ⟨_, getD_mem11 hi, rfl⟩, (lfs_mem ns z f _ (h.2.2.2 _ (getD_mem11 hi))).2 ⟨y, hy', h1, h2⟩⟩
theorem isAt_of {ns : List Nd} {root : Int} (h : treeIs ns root = true) {e : En} (he : entOk e = true) {k : Nat} (hk : k < (ns.getD (leafW ns (ns.length + 1) root e).toNat nd0).es.length) (hq : offE e ((ns.getD (leafW ns (ns.length + 1) root e).toNat nd0).es.getD k en0) = false) : isAt ns root e = true := by
 obtain ⟨hg, ho, hp⟩ := treeIs_parts h
 obtain ⟨l1, _, _, _⟩ := leafW_pos ns e _ _ hg
 obtain ⟨lo, hi, hn⟩ := pos_node ns _ _ _ _ _ hg ho l1
 obtain ⟨hu, _⟩ := leaf_at hn he hk hq
 unfold isAt
 simp only
 rw [hu, decide_eq_true (by omega), show k + 1 - 1 = k by omega, hq]
 rfl
theorem there_iff {ns : List Nd} {root : Int} (h : treeIs ns root = true) {e : En} (he : entOk e = true) : (allS ns root).any (fun z => !offE e z) = isAt ns root e := by
 obtain ⟨hg, ho, hp⟩ := treeIs_parts h
 obtain ⟨l1, l2, _, _⟩ := leafW_pos ns e _ _ hg
 rw [Bool.eq_iff_iff, List.any_eq_true, allS_lfs h]
 constructor
 · rintro ⟨z, hz, hq⟩
   have hq' : offE e z = false := by simpa using hq
   obtain ⟨y, hy, h1, h2⟩ := (lfs_mem ns z _ _ hg).1 hz
   obtain ⟨q1, q2⟩ := (off_no _ _).1 hq'
   have ey := leaf_uniq ns he _ _ _ _ _ hg ho okO_none okO_none hy h1 z h2 q1 q2
   rw [ey] at h2
   obtain ⟨k, hk, rfl⟩ := List.mem_iff_getElem.1 h2
   exact isAt_of h he hk (by rw [List.getD_eq_getElem?_getD, List.getElem?_eq_getElem hk]; exact hq')
 · intro hi
   unfold isAt at hi
   simp only [Bool.and_eq_true, decide_eq_true_eq, Bool.not_eq_true'] at hi
   have hu := upsB_le (ns.getD (leafW ns (ns.length + 1) root e).toNat nd0).es e
   have hk : upsB (ns.getD (leafW ns (ns.length + 1) root e).toNat nd0).es e - 1 < (ns.getD (leafW ns (ns.length + 1) root e).toNat nd0).es.length := by omega
   refine ⟨_, (lfs_mem ns _ _ _ hg).2 ⟨_, l1, l2, ?_⟩, by rw [hi.2]; rfl⟩
   rw [List.getD_eq_getElem?_getD (l := (ns.getD (leafW ns (ns.length + 1) root e).toNat nd0).es), List.getElem?_eq_getElem hk]
   exact List.getElem_mem hk
theorem drop_same {ns : List Nd} {root : Int} (h : treeIs ns root = true) {e : En} (he : entOk e = true) (hi : isAt ns root e = true) : dropN ns e = ns.set (leafW ns (ns.length + 1) root e).toNat ⟨true, (ns.getD (leafW ns (ns.length + 1) root e).toNat nd0).es.eraseIdx (upsB (ns.getD (leafW ns (ns.length + 1) root e).toNat nd0).es e - 1), (ns.getD (leafW ns (ns.length + 1) root e).toNat nd0).ks⟩ := by
 obtain ⟨hg, ho, hp⟩ := treeIs_parts h
 obtain ⟨l1, l2, l3, l4⟩ := leafW_pos ns e _ _ hg
 obtain ⟨lo, hi', hn⟩ := pos_node ns _ _ _ _ _ hg ho l1
 have hoff := fun (i : Nat) (h1 : i < ns.length) (hl : (ns.getD i nd0).leaf = true) (hne : (i : Int) ≠ leafW ns (ns.length + 1) root e) => off_leaf h he h1 hl hne
 unfold isAt at hi
 simp only [Bool.and_eq_true, decide_eq_true_eq, Bool.not_eq_true'] at hi
 clear hp hg ho l1
 generalize leafW ns (ns.length + 1) root e = Y at *
 have hu := upsB_le (ns.getD Y.toNat nd0).es e
 have hk : upsB (ns.getD Y.toNat nd0).es e - 1 < (ns.getD Y.toNat nd0).es.length := by omega
 obtain ⟨_, hall⟩ := leaf_at hn he hk hi.2
 unfold dropN
 refine List.ext_getElem (by simp) (fun i h1 h2 => ?_)
 rw [List.length_map] at h1
 rw [List.getElem_map]
 by_cases ei : i = Y.toNat
 · subst ei
   rw [List.getElem_set_self]
   have e0 : ns[Y.toNat] = ns.getD Y.toNat nd0 := by rw [List.getD_eq_getElem?_getD, List.getElem?_eq_getElem h1]; rfl
   rw [e0]
   unfold outD
   rw [if_pos l2, filter_erase (offE e) _ _ hk hall, l2]
 · rw [List.getElem_set_ne (fun q => ei q.symm)]
   have e0 : ns[i] = ns.getD i nd0 := by rw [List.getD_eq_getElem?_getD, List.getElem?_eq_getElem h1]; rfl
   rw [e0]
   unfold outD
   split
   · rename_i hl
     have := hoff i h1 hl (fun q => ei (by omega))
     rw [List.filter_eq_self.2 this]
   · rfl
end Go.Proofs.Ytphmlndkjgldkaa
