/- A store of several cells into a part of a row. No statement of its own; no conditions. -/
import Derived.Test.YtoppccfgcccijaaDoorAr
import Derived.Deep.MidRow
namespace Go.Proofs.YtoppccfgcccijaaDoor
open Go.RowKit

/-- A row with these cells from 'o' on. -/
def putAt (cs : Array Value) : Nat → List Value → Array Value
  | _, [] => cs
  | o, v :: r => putAt (cs.setIfInBounds o v) (o + 1) r
theorem setCells_row {g : Nat} {t : TypeId} : ∀ (vs : List Value) (o : Nat) (w : World) (cs : Array Value), w.heap[g]? = some (.cells cs t (0, 0)) → w.setCells g o vs = w.setRow g (putAt cs o vs)
  | [], _, w, cs, h => (setRow_self w g cs t (0, 0) h).symm
  | v :: r, o, w, cs, h => by
    show (w.setCell ⟨g, o, none⟩ v).setCells g (o + 1) r = w.setRow g (putAt (cs.setIfInBounds o v) (o + 1) r)
    rw [setCell_eq_setRow w g o cs t (0, 0) v h, setCells_row r (o + 1) _ _ (setRow_heap w g cs _ t _ h), setRow_setRow]

theorem there_row {w : World} {g o k : Nat} {cs : Array Value} {t : TypeId} (h : w.heap[g]? = some (.cells cs t (0, 0))) (hk : o + k ≤ cs.size) : w.there g o k := by
  intro j hj
  refine ⟨?_, frozen_of_row _ _ _ _ _ h⟩
  rw [cell_of_row _ _ _ _ _ _ h, Array.getElem?_eq_getElem (by omega)]
  rfl

theorem wp_store_part {P : Program} {op : Oper} {a : Act} {w : World} {K : Act → World → Prop} {Q : Exit → Act → World → Prop} (ty : TypeId) (x y : Operand) (ho : op.op = .store ty x y)
    (g o : Nat) (cells : Array Value) (hx : a.eval x = .pointer (some ⟨g, o, none⟩)) (hy : a.eval y = .agg cells)
    (t : TypeId) (old : Array Value) (hg : w.heap[g]? = some (.cells old t (0, 0))) (hi : (P.info? ty).map (·.size) = some cells.size)
    (hold : o + cells.size ≤ old.size) (h1 : cells.all (·.oneCell') = true) (new : Array Value) (hnew : putAt old o cells.toList = new)
    (h : K (a.put op.dst undef) (w.setRow g new)) : op.wp P a w K Q := by
  subst hnew
  refine wp_store_mid ty x y ho g o cells hx hy (there_row hg hold) hi h1 ?_
  rw [setCells_row cells.toList o w old hg]
  exact h
theorem wpList_store_part {P : Program} {ops : Array Oper} {rest : List Oper} {op : Oper} {a : Act} {w : World} {Q : Exit → Act → World → Prop} (hgd : op.guard = none) (ty : TypeId) (x y : Operand) (ho : op.op = .store ty x y)
    (g o : Nat) (cells : Array Value) (hx : a.eval x = .pointer (some ⟨g, o, none⟩)) (hy : a.eval y = .agg cells)
    (t : TypeId) (old : Array Value) (hg : w.heap[g]? = some (.cells old t (0, 0))) (hi : (P.info? ty).map (·.size) = some cells.size)
    (hold : o + cells.size ≤ old.size) (h1 : cells.all (·.oneCell') = true) (new : Array Value) (hnew : putAt old o cells.toList = new)
    (h : wpList P ops Q rest (a.put op.dst undef) (w.setRow g new)) : wpList P ops Q (op :: rest) a w :=
  wpList_plain hgd fun _ hK => wp_store_part ty x y ho g o cells hx hy t old hg hi hold h1 new hnew (hK _ _ h)
end Go.Proofs.YtoppccfgcccijaaDoor
