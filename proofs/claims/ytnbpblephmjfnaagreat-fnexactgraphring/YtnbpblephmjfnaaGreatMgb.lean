/- Texts of this proof in one: Ic Ar Pt. -/
import Derived.Test.YtnbpblephmjfnaaGreatMga
import Derived.Deep.MidRow
/- The contract of the specification's l3copy. Conditions: texts of at most 2^21 bytes. -/

namespace Go.Proofs.YtnbpblephmjfnaaGreat
open Go.RowKit
theorem three_first (w : World) (a b c : Obj) : (((w.alloc a).alloc b).alloc c).heap[w.heap.size]? = some a := by
 have h1 := alloc_size w a
 have h2 := alloc_size (w.alloc a) b
 rw [alloc_old _ _ _ (by omega), alloc_old _ _ _ (by omega)]
 exact heap_alloc_new w a
end Go.Proofs.YtnbpblephmjfnaaGreat
/- An item in a block of its own, and its text. -/

namespace Go.Proofs.YtnbpblephmjfnaaGreat
open Go.RowKit
structure Arg (w : World) (g : Nat) (K N : Int) (f : Nat) (ad : Option Addr) (n cap : Nat) (zs : List Int) : Prop where
 box : Box w g K N f ad n cap
 reads : Reads w ad n zs
 lt : g < w.heap.size
theorem Arg.below {w w' : World} {g : Nat} {K N : Int} {f : Nat} {ad : Option Addr} {n cap : Nat} {zs : List Int} (a : Arg w g K N f ad n cap zs) {B : Nat} (h : Below B w w') (hB : w.heap.size ≤ B) : Arg w' g K N f ad n cap zs :=
 ⟨a.box.below h (Nat.lt_of_lt_of_le a.lt hB), a.reads.below h hB, Nat.lt_of_lt_of_le a.lt h.size⟩
theorem Arg.alloc {w : World} {g : Nat} {K N : Int} {f : Nat} {ad : Option Addr} {n cap : Nat} {zs : List Int} (a : Arg w g K N f ad n cap zs) (o : Obj) : Arg (w.alloc o) g K N f ad n cap zs :=
 a.below ((Below.refl w.heap.size w).alloc (Nat.le_refl _) o) (Nat.le_refl _)
theorem Reads.alloc {w : World} {ad : Option Addr} {n : Nat} {zs : List Int} (h : Reads w ad n zs) (o : Obj) : Reads (w.alloc o) ad n zs :=
 h.below ((Below.refl w.heap.size w).alloc (Nat.le_refl _) o) (Nat.le_refl _)
theorem Arg.new {w : World} (K N : Int) (f : Nat) {ad : Option Addr} {n : Nat} (cap : Nat) {zs : List Int} (h : Reads w ad n zs) (t : TypeId) (g : Nat) (hg : g = w.heap.size) : Arg (w.alloc (.cells #[.int .i64 K, .int .i64 N, .float .f64 f, .slice ad n cap] t)) g K N f ad n cap zs := by
 subst hg
 exact ⟨Box.new w K N f ad n cap t, h.alloc _, by rw [alloc_size]; omega⟩
theorem Arg.drewN {w : World} {g : Nat} {K N : Int} {f : Nat} {ad : Option Addr} {n cap : Nat} {zs : List Int} (a : Arg w g K N f ad n cap zs) (k : Nat) : Arg (w.drewN k) g K N f ad n cap zs :=
 a.below ((Still.drewN w k).below w.heap.size) (Nat.le_refl _)
end Go.Proofs.YtnbpblephmjfnaaGreat
/- A store of several cells into a part of a row. No statement of its own; no conditions. -/


namespace Go.Proofs.YtnbpblephmjfnaaGreat
open Go.RowKit
def putAt (cs : Array Value) : Nat → List Value → Array Value
 | _, [] => cs
 | o, v :: r => putAt (cs.setIfInBounds o v) (o + 1) r
theorem setCells_row {g : Nat} {t : TypeId} : ∀ (vs : List Value) (o : Nat) (w : World) (cs : Array Value), w.heap[g]? = some (.cells cs t (0, 0)) → w.setCells g o vs = w.setRow g (putAt cs o vs)
 | [], _, w, cs, h => (setRow_self w g cs t (0, 0) h).symm
 | v :: r, o, w, cs, h => by
  show (w.setCell ⟨g, o, none⟩ v).setCells g (o + 1) r = w.setRow g (putAt (cs.setIfInBounds o v) (o + 1) r)
  rw [setCell_eq_setRow w g o cs t (0, 0) v h, setCells_row r (o + 1) _ _ (setRow_heap w g cs _ t _ h), setRow_setRow]
theorem there_row {w : World} {g o k : Nat} {cs : Array Value} {t : TypeId} (h : w.heap[g]? = some (.cells cs t (0, 0))) (hk : o + k ≤ cs.size) : w.there g o k := by
 intro j hj
 refine ⟨?_, frozen_of_row _ _ _ _ _ h⟩
 rw [cell_of_row _ _ _ _ _ _ h, Array.getElem?_eq_getElem (by omega)]
 rfl
theorem wp_store_part {P : Program} {op : Oper} {a : Act} {w : World} {K : Act → World → Prop} {Q : Exit → Act → World → Prop} (ty : TypeId) (x y : Operand) (ho : op.op = .store ty x y)
 (g o : Nat) (cells : Array Value) (hx : a.eval x = .pointer (some ⟨g, o, none⟩)) (hy : a.eval y = .agg cells)
 (t : TypeId) (old : Array Value) (hg : w.heap[g]? = some (.cells old t (0, 0))) (hi : (P.info? ty).map (·.size) = some cells.size)
 (hold : o + cells.size ≤ old.size) (h1 : cells.all (·.oneCell') = true) (new : Array Value) (hnew : putAt old o cells.toList = new)
 (h : K (a.put op.dst undef) (w.setRow g new)) : op.wp P a w K Q := by
 subst hnew
 refine wp_store_mid ty x y ho g o cells hx hy (there_row hg hold) hi h1 ?_
 rw [setCells_row cells.toList o w old hg]
 exact h
theorem wpList_store_part {P : Program} {ops : Array Oper} {rest : List Oper} {op : Oper} {a : Act} {w : World} {Q : Exit → Act → World → Prop} (hgd : op.guard = none) (ty : TypeId) (x y : Operand) (ho : op.op = .store ty x y)
 (g o : Nat) (cells : Array Value) (hx : a.eval x = .pointer (some ⟨g, o, none⟩)) (hy : a.eval y = .agg cells)
 (t : TypeId) (old : Array Value) (hg : w.heap[g]? = some (.cells old t (0, 0))) (hi : (P.info? ty).map (·.size) = some cells.size)
 (hold : o + cells.size ≤ old.size) (h1 : cells.all (·.oneCell') = true) (new : Array Value) (hnew : putAt old o cells.toList = new)
 (h : wpList P ops Q rest (a.put op.dst undef) (w.setRow g new)) : wpList P ops Q (op :: rest) a w :=
 wpList_plain hgd fun _ hK => wp_store_part ty x y ho g o cells hx hy t old hg hi hold h1 new hnew (hK _ _ h)
end Go.Proofs.YtnbpblephmjfnaaGreat
