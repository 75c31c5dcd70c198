/- What FnExactEdgeWrite's walk rests on: an item that is the call's own, and that an answer of EdgeWrite is small. No statement of its own; no conditions. -/
import Derived.Test.YtnhlfkffllbpiaaGreatEx13
import Derived.Test.YtnhlfkffllbpiaaGreatHx10
namespace Go.Proofs.YtnhlfkffllbpiaaGreat
open Go.RowKit
set_option maxRecDepth 100000
structure OwnIt (w : World) (lo hi g1 n : Nat) (zs : List Int) : Prop where
 o1 : w.ownsRow lo 5 1 (.slice (some ⟨g1, 0, none⟩) n n) n (bys zs)
 h1 : g1 < hi
 b1 : ∀ i, 0 ≤ zs.getD i 0 ∧ zs.getD i 0 ≤ 255
section
variable {w w' : World} {lo hi g1 n : Nat} {zs : List Int}
theorem OwnIt.agree (h : OwnIt w lo hi g1 n zs) (ha : Agree lo hi w w') : OwnIt w' lo hi g1 n zs := by
 refine ⟨owns_agree h.o1 ha (fun g hg => ?_), h.h1, h.b1⟩
 obtain rfl : g1 = g := by simpa [Value.ownBlock] using hg
 exact ⟨(h.o1.lt _ rfl).1, h.h1⟩
theorem OwnIt.below (h : OwnIt w lo hi g1 n zs) {B : Nat} (hb : Below B w w') (hB : hi ≤ B) : OwnIt w' lo hi g1 n zs := h.agree (Agree.below hb hB)
theorem OwnIt.r1 (h : OwnIt w lo hi g1 n zs) : Reads w (some ⟨g1, 0, none⟩) n zs := own_reads13 h.o1 h.b1
theorem markItem_own (K N : Int) (F : Nat) (k : Int) (h : OwnIt w lo hi g1 n zs) (hn : n ≤ 2097152) (hk0 : 0 ≤ k) (hk1 : k ≤ 500000000) :
 Calls Tryz.prog 13 #[.agg #[.int .i64 K, .int .i64 N, .float .f64 F, .slice (some ⟨g1, 0, none⟩) n n], .int .i64 k] w fun e w' => e = .returned (.int .i64 (k + n)) ∧ Within lo hi w w' := by
 refine (markItem K N F k hn hk0 (by omega) h.o1).mono ?_
 rintro e w' ⟨rfl, _, g⟩
 refine ⟨rfl, (Keeps.grown (X := fun b => (Value.slice (some ⟨g1, 0, none⟩) n n).ownBlock = some b) g (fun b e => e)).within (fun b hb => ?_)⟩
 obtain rfl : g1 = b := by simpa [Value.ownBlock] using hb
 exact ⟨(h.o1.lt _ rfl).1, h.h1⟩
end
theorem BoxJ.agree {w w' : World} {g : Nat} {K N : Int} {f : Nat} {x : Value} (q : BoxJ w g K N f x) (ha : Agree g (g + 1) w w') : BoxJ w' g K N f x := by
 have e := ha g (Nat.le_refl _) (by omega)
 exact ⟨(World.cell?_of_block (w := w) (a := ⟨g, 0, none⟩) e).trans q.c0, (World.cell?_of_block (w := w) (a := ⟨g, 1, none⟩) e).trans q.c1, (World.cell?_of_block (w := w) (a := ⟨g, 2, none⟩) e).trans q.c2, (World.cell?_of_block (w := w) (a := ⟨g, 3, none⟩) e).trans q.c3⟩
theorem write_small {ts : List Tk} (x : Int) (s : Im) {b : Nat} (h : ts.length + sumT ts + s.Z.length ≤ b) : (writeS ts x s).length ≤ b ∧ sumT (writeS ts x s) ≤ 2 * b := by
 unfold writeS
 split
 · split
   · simp [sumT]
   · rename_i k hk
     split
     · have hp := pJ_small false (met (hitR s) (ts.getD k tk0) k ts) ts k (writeT (ts.getD k tk0) s)
       have hsz := szT_at ts k
       have hkn := (atT_some hk).1
       have hr : szT (writeT (ts.getD k tk0) s) ≤ szT (ts.getD k tk0) + 1 + s.Z.length := by
        unfold writeT
        split
        · omega
        · unfold szT
          simp only [List.length_append, List.length_singleton, sumI_app]
          simp only [sumI]
          omega
       omega
     · simp [sumT]
 · simp [sumT]
end Go.Proofs.YtnhlfkffllbpiaaGreat
