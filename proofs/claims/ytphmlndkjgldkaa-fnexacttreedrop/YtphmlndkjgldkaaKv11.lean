/- Trees, plain: what the specification's walk leaves unseen, how many entries it meets; its kids one by one. No program, no conditions. -/
import Derived.Test.YtphmlndkjgldkaaKo11
namespace Go.Proofs.Ytphmlndkjgldkaa
open Go.RowKit
set_option maxRecDepth 100000
structure More (st R : St) : Prop where
 len : R.seen.length = st.seen.length
 uns : unseen R.seen ≤ unseen st.seen
 all : R.all.length + 4 * unseen R.seen ≤ st.all.length + 4 * unseen st.seen
theorem More.refl (st : St) : More st st := ⟨rfl, Nat.le_refl _, Nat.le_refl _⟩
theorem More.trans {a b c : St} (h : More a b) (k : More b c) : More a c := ⟨k.len.trans h.len, Nat.le_trans k.uns h.uns, Nat.le_trans k.all h.all⟩
theorem fold_more {α : Type} (g : St → α → St) (hg : ∀ s t, More s (g s t)) : ∀ (L : List α) (st : St), More st (L.foldl g st)
 | [], st => More.refl st
 | t :: L, st => (hg st t).trans (fold_more g hg L (g st t))
theorem goS_more (ns : List Nd) : ∀ (f : Nat) (st : St) (x deep : Int) (lo hi : Option En), More st (goS ns f st x deep lo hi)
 | 0, st, _, _, _, _ => ⟨rfl, Nat.le_refl _, Nat.le_refl _⟩
 | f + 1, st, x, deep, lo, hi => by
  rw [goS]
  split
  · exact ⟨rfl, Nat.le_refl _, Nat.le_refl _⟩
  · rename_i hc
    have ho : outB ns st.seen x = false := by
     rw [Bool.not_eq_true, Bool.or_eq_false_iff] at hc
     exact hc.2
    have hu := unseen_set st.seen x.toNat (outB_no ho).2.2
    have h1 : More st ⟨st.seen.set x.toNat true, st.deep, st.wrong, st.all⟩ := ⟨by simp, by simp only; omega, by simp only; omega⟩
    simp only
    split
    · exact ⟨h1.len, h1.uns, h1.all⟩
    · rename_i h4
      have h4' : ¬ 4 < (ns.getD x.toNat nd0).es.length := by simpa using h4
      split
      · exact ⟨h1.len, h1.uns, h1.all⟩
      · split
        · exact ⟨h1.len, h1.uns, by simp only [List.length_append]; omega⟩
        · split
          · exact ⟨h1.len, h1.uns, h1.all⟩
          · exact h1.trans (fold_more _ (fun s _ => goS_more ns f s _ _ _ _) _ _)
def kidS (ns : List Nd) (f : Nat) (d : Nd) (deep : Int) (lo hi : Option En) (st : St) (k : Nat) : St :=
 (List.range k).foldl (fun s i => goS ns f s (d.ks.getD i 0) (deep + 1) (lowAt d.es lo i) (highAt d.es hi i)) st
theorem kidS_succ (ns : List Nd) (f : Nat) (d : Nd) (deep : Int) (lo hi : Option En) (st : St) (k : Nat) : kidS ns f d deep lo hi st (k + 1) = goS ns f (kidS ns f d deep lo hi st k) (d.ks.getD k 0) (deep + 1) (lowAt d.es lo k) (highAt d.es hi k) := by
 unfold kidS
 rw [List.range_succ, List.foldl_append]
 rfl
theorem kidS_more (ns : List Nd) (f : Nat) (d : Nd) (deep : Int) (lo hi : Option En) (st : St) (k : Nat) : More st (kidS ns f d deep lo hi st k)   := fold_more _ (fun s _ => goS_more ns f s _ _ _ _) _ _
theorem goS_wrongB (ns : List Nd) (f : Nat) (st : St) (x deep : Int) (lo hi : Option En) (h : (st.wrong || outB ns st.seen x) = true) : goS ns (f + 1) st x deep lo hi = st.bad := by
 rw [goS, if_pos h]
theorem goS_right (ns : List Nd) (f : Nat) (st : St) (x deep : Int) (lo hi : Option En) (d : Nd) (hd : ns.getD x.toNat nd0 = d) (h : (st.wrong || outB ns st.seen x) = false) : goS ns (f + 1) st x deep lo hi =
 if decide (4 < d.es.length) then (St.bad ⟨st.seen.set x.toNat true, st.deep, st.wrong, st.all⟩)
 else if !nodeOk lo hi d.es then (St.bad ⟨st.seen.set x.toNat true, st.deep, st.wrong, st.all⟩)
 else if d.leaf then ⟨st.seen.set x.toNat true, if st.deep = 0 then deep else st.deep, decide ((if st.deep = 0 then deep else st.deep) ≠ deep) || decide (0 < d.ks.length), st.all ++ d.es⟩
 else if decide (d.es.length < 1) || decide (d.ks.length ≠ d.es.length + 1) then (St.bad ⟨st.seen.set x.toNat true, st.deep, st.wrong, st.all⟩)
 else kidS ns f d deep lo hi ⟨st.seen.set x.toNat true, st.deep, st.wrong, st.all⟩ d.ks.length := by
 rw [goS, if_neg (by rw [h]; simp), hd]
 rfl
end Go.Proofs.Ytphmlndkjgldkaa
