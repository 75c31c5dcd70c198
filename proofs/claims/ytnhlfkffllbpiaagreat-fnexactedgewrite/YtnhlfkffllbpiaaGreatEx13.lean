/- What FnExactEdgeRead's walk rests on: a span that is the call's own, and that an answer of EdgeRead is small. No statement of its own; no conditions. -/
import Derived.Test.YtnhlfkffllbpiaaGreatMgb
import Derived.Test.YtnhlfkffllbpiaaGreatEq13
namespace Go.Proofs.YtnhlfkffllbpiaaGreat
open Go.RowKit
set_option maxRecDepth 100000
structure OwnSp (w : World) (lo hi g1 g2 n n' : Nat) (zs zs' : List Int) : Prop where
 o1 : w.ownsRow lo 5 1 (.slice (some ⟨g1, 0, none⟩) n n) n (bys zs)
 o2 : w.ownsRow lo 5 1 (.slice (some ⟨g2, 0, none⟩) n' n') n' (bys zs')
 h1 : g1 < hi
 h2 : g2 < hi
 ne : g1 ≠ g2
 b1 : ∀ i, 0 ≤ zs.getD i 0 ∧ zs.getD i 0 ≤ 255
 b2 : ∀ i, 0 ≤ zs'.getD i 0 ∧ zs'.getD i 0 ≤ 255
section
variable {w w' : World} {lo hi g1 g2 n n' : Nat} {zs zs' : List Int}
theorem OwnSp.agree (h : OwnSp w lo hi g1 g2 n n' zs zs') (ha : Agree lo hi w w') : OwnSp w' lo hi g1 g2 n n' zs zs' := by
 refine ⟨owns_agree h.o1 ha (fun g hg => ?_), owns_agree h.o2 ha (fun g hg => ?_), h.h1, h.h2, h.ne, h.b1, h.b2⟩
 · obtain rfl : g1 = g := by simpa [Value.ownBlock] using hg
   exact ⟨(h.o1.lt _ rfl).1, h.h1⟩
 · obtain rfl : g2 = g := by simpa [Value.ownBlock] using hg
   exact ⟨(h.o2.lt _ rfl).1, h.h2⟩
theorem OwnSp.below (h : OwnSp w lo hi g1 g2 n n' zs zs') {B : Nat} (hb : Below B w w') (hB : hi ≤ B) : OwnSp w' lo hi g1 g2 n n' zs zs' := h.agree (Agree.below hb hB)
theorem OwnSp.r1 (h : OwnSp w lo hi g1 g2 n n' zs zs') : Reads w (some ⟨g1, 0, none⟩) n zs := own_reads13 h.o1 h.b1
theorem OwnSp.r2 (h : OwnSp w lo hi g1 g2 n n' zs zs') : Reads w (some ⟨g2, 0, none⟩) n' zs' := own_reads13 h.o2 h.b2
theorem OwnSp.apart (h : OwnSp w lo hi g1 g2 n n' zs zs') : Apart (.slice (some ⟨g1, 0, none⟩) n n) (.slice (some ⟨g2, 0, none⟩) n' n') := .inr (by simpa [Value.ownBlock] using h.ne)
end
theorem BoxS.agree {w w' : World} {g : Nat} {K N : Int} {f : Nat} {x : Value} {K' N' : Int} {f' : Nat} {x' : Value} (q : BoxS w g K N f x K' N' f' x') (ha : Agree g (g + 1) w w') : BoxS w' g K N f x K' N' f' x' := by
 have e := ha g (Nat.le_refl _) (by omega)
 exact ⟨(World.cell?_of_block (w := w) (a := ⟨g, 0, none⟩) e).trans q.c0, (World.cell?_of_block (w := w) (a := ⟨g, 1, none⟩) e).trans q.c1, (World.cell?_of_block (w := w) (a := ⟨g, 2, none⟩) e).trans q.c2, (World.cell?_of_block (w := w) (a := ⟨g, 3, none⟩) e).trans q.c3, (World.cell?_of_block (w := w) (a := ⟨g, 4, none⟩) e).trans q.c4, (World.cell?_of_block (w := w) (a := ⟨g, 5, none⟩) e).trans q.c5, (World.cell?_of_block (w := w) (a := ⟨g, 6, none⟩) e).trans q.c6, (World.cell?_of_block (w := w) (a := ⟨g, 7, none⟩) e).trans q.c7⟩
theorem sumT_set (L : List Tk) (k : Nat) (t : Tk) : sumT (L.set k t) ≤ sumT L + szT t := by
 induction L generalizing k with
 | nil => simp [sumT]
 | cons u L ih =>
  cases k with
  | zero => simp only [List.set_cons_zero, sumT]; omega
  | succ k =>
   have := ih k
   simp only [List.set_cons_succ, sumT]
   omega
theorem sumT_set_eq (L : List Tk) (k : Nat) (t : Tk) (h : k < L.length) (ht : szT t = szT (L.getD k tk0)) : sumT (L.set k t) = sumT L := by
 induction L generalizing k with
 | nil => simp at h
 | cons u L ih =>
  cases k with
  | zero =>
   rw [List.getD_cons_zero] at ht
   simp only [List.set_cons_zero, sumT, ht]
  | succ k =>
   have := ih k (by simpa using h) (by simpa using ht)
   simp only [List.set_cons_succ, sumT, this]
theorem szT_oth (r : Bool) (t : Tk) : szT (oth r t) = szT t := by
 have := oth_rs r t
 unfold szT
 rw [this.1, this.2.1]
theorem sumT_mkJ (r : Bool) (M : Nat → Bool) (ts : List Tk) : ∀ i, i ≤ ts.length → sumT (mkJ r M ts i) = sumT ts
 | 0, _ => rfl
 | i + 1, hi => by
  unfold mkJ
  split
  · rw [sumT_set_eq _ _ _ (by rw [mkJ_len]; omega) (by rw [szT_oth, mkJ_at r M ts i (by omega) i (Nat.le_refl _)])]
    exact sumT_mkJ r M ts i (by omega)
  · exact sumT_mkJ r M ts i (by omega)
theorem pJ_small (r : Bool) (M : Nat → Bool) (ts : List Tk) (k : Nat) (t : Tk) : (pJ r M ts k t ts.length).length = ts.length ∧ sumT (pJ r M ts k t ts.length) ≤ sumT ts + szT t := by
 refine ⟨pJ_len _ _ _ _ _ _, ?_⟩
 have h1 := sumT_set (mkJ r M ts ts.length) k (tJ r M t ts.length)
 have h2 := sumT_mkJ r M ts ts.length (Nat.le_refl _)
 have h3 : szT (tJ r M t ts.length) = szT t := by
  have := tJ_rs r M t ts.length
  unfold szT
  rw [this.1, this.2.1]
 unfold pJ
 omega
end Go.Proofs.YtnhlfkffllbpiaaGreat
