/- Rows of pairs in the laws: whether two are alike, marks, whether marks are held. Conditions: at most 2^21 pairs. -/
import Derived.Test.YtnbpblephmjfnaaGreatVc14
import Derived.Test.YtnbpblephmjfnaaGreatNi
namespace Go.Proofs.YtnbpblephmjfnaaGreat
open Go.RowKit
set_option maxRecDepth 100000
def fI (l : List Pr) : List Int := l.flatMap (fun p => [(p.1 : Int), (p.2 : Int)])
theorem fP_ins : ∀ l : List Pr, fP l = ins (fI l)
 | [] => rfl
 | p :: r => by
  have h := fP_ins r
  unfold fP fI ins at *
  rw [List.flatMap_cons, List.flatMap_cons, List.map_append, h]; rfl
structure ReadsP (w : World) (ad : Option Addr) (m : Nat) (zs : List Int) : Prop where
 cells : m = 0 ∨ ∃ b off, ad = some ⟨b, off, none⟩ ∧ ∀ j, j < m → w.cell? ⟨b, off + j * 2, none⟩ = some (.int .i64 (zs.getD (j * 2) 0)) ∧ w.cell? ⟨b, off + j * 2 + 1, none⟩ = some (.int .i64 (zs.getD (j * 2 + 1) 0))
theorem ReadsP.below {w w' : World} {ad : Option Addr} {m : Nat} {zs : List Int} (h : ReadsP w ad m zs) {B : Nat} (hb : Below B w w') (hB : w.heap.size ≤ B) : ReadsP w' ad m zs := by
 refine ⟨?_⟩
 rcases h.cells with q | ⟨b, off, e, hc⟩
 · exact .inl q
 · exact .inr ⟨b, off, e, fun j hj => ⟨(hb.cell (p := ⟨b, off + j * 2, none⟩) (Nat.lt_of_lt_of_le (World.block_lt_of_cell? _ _ (hc j hj).1) hB)).trans (hc j hj).1, (hb.cell (p := ⟨b, off + j * 2 + 1, none⟩) (Nat.lt_of_lt_of_le (World.block_lt_of_cell? _ _ (hc j hj).2) hB)).trans (hc j hj).2⟩⟩
theorem own_readsP {w : World} {base m c : Nat} {a : Option Addr} {zs : List Int} (o : w.ownsRow base 33 2 (.slice a m c) m (ins zs)) : ReadsP w a m zs := by
 refine ⟨?_⟩
 rcases o.2 with ⟨e, _⟩ | ⟨g, cap, cur, e, _⟩
 · exact .inl (Value.slice.inj e).2.1
 · have ea := (Value.slice.inj e).1
   subst ea
   have hz : zs.length = m * 2 := by have := o.1; simpa [ins] using this
   refine .inr ⟨g, 0, rfl, fun j hj => ⟨?_, ?_⟩⟩
   · rw [Nat.zero_add, o.cellAt (j * 2) (by omega)]
     have hq : j * 2 < zs.length := by omega
     simp [ins, List.getD, hq]
   · rw [Nat.zero_add, o.cellAt (j * 2 + 1) (by omega)]
     have hq : j * 2 + 1 < zs.length := by omega
     simp [ins, List.getD, hq]
end Go.Proofs.YtnbpblephmjfnaaGreat
