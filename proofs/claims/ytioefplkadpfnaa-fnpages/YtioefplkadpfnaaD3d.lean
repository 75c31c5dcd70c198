/- The contract of the draw of a span's keys. For codes of at most 2^21 bytes. -/
import Derived.Test.YtioefplkadpfnaaD3a
import Derived.Test.YtioefplkadpfnaaRyi
import Derived.Test.YtioefplkadpfnaaMga
namespace Go.Proofs.Ytioefplkadpfnaa
open Go.RowKit

/-- An item in the box p. -/
structure Bx (u : World) (p : Nat) (K N : Int) (f : Nat) (v : Value) (D : List Int) : Prop where
  box : u.heap[p]? = some (.cells #[.int .i64 K, .int .i64 N, .float .f64 f, v] 63)
  ry : Ry u v D
section
variable {u u' : World} {p : Nat} {K N : Int} {f : Nat} {v : Value} {D : List Int}
theorem Bx.lt (h : Bx u p K N f v D) : p < u.heap.size := (Array.getElem?_eq_some_iff.1 h.box).1
theorem Bx.fresh (h : Bx u p K N f v D) (hg : u.grownBy u' none) : Bx u' p K N f v D :=
  ⟨(hg.block p h.lt (by simp)).trans h.box, h.ry.grown hg (fun k hk => by cases hk)⟩
theorem Bx.still (h : Bx u p K N f v D) (hs : Still u u') : Bx u' p K N f v D := ⟨by rw [hs.heap]; exact h.box, h.ry.still hs⟩
theorem Bx.cells {a : Option Addr} {m c : Nat} (h : Bx u p K N f (.slice a m c) D) : u.cell? ⟨p, 0, none⟩ = some (.int .i64 K) ∧ u.cell? ⟨p, 1, none⟩ = some (.int .i64 N) ∧ u.cell? ⟨p, 2, none⟩ = some (.float .f64 f) ∧ u.cell? ⟨p, 3, none⟩ = some (.slice a m c) := by
  have t := h.box
  exact ⟨by rw [cell_of_row _ _ _ _ _ _ t]; rfl, by rw [cell_of_row _ _ _ _ _ _ t]; rfl, by rw [cell_of_row _ _ _ _ _ _ t]; rfl, by rw [cell_of_row _ _ _ _ _ _ t]; rfl⟩
theorem Bx.cur {g : Nat} {ad : Option Addr} {n cap : Nat} {zs : List Int} (h : Bx u p K N f v D) (c : Cur u g ad n cap zs) (hg : u.grownBy u' (some g)) : Bx u' p K N f v D := by
  obtain ⟨i, hh, _, hrow⟩ := c.row
  refine ⟨(hg.block p h.lt (fun e => ?_)).trans h.box, h.ry.cursor c hg⟩
  obtain rfl := Option.some.inj e
  have := h.box
  rw [hrow] at this
  simp only [Option.some.injEq, Obj.cells.injEq] at this
  exact absurd this.2.1 (by decide)
theorem grown_row (u : World) (q : Nat) (R : Array Value) : u.grownBy (u.setRow q R) (some q) := ⟨rfl, rfl, rfl, by simp, fun k _ hk => setRow_other _ _ _ _ (fun e => hk (by rw [e]))⟩
theorem Ry.rowed (h : Ry u v D) {q : Nat} {cs : Array Value} (hq : u.heap[q]? = some (.cells cs 63)) (R : Array Value) : Ry (u.setRow q R) v D :=
  h.grown (grown_row u q R) (fun k hk => by obtain rfl := Option.some.inj hk; exact ⟨_, _, _, hq, by decide⟩)
theorem Bx.other (h : Bx u p K N f v D) {q : Nat} {cs : Array Value} (hq : u.heap[q]? = some (.cells cs 63)) (hne : p ≠ q) (R : Array Value) : Bx (u.setRow q R) p K N f v D :=
  ⟨by rw [setRow_other _ _ _ _ hne]; exact h.box, h.ry.rowed hq R⟩
theorem Bx.upd (h : Bx u p K N f v D) {K' N' : Int} {f' : Nat} {v' : Value} {D' : List Int} (hr : Ry u v' D') : Bx (u.setRow p #[.int .i64 K', .int .i64 N', .float .f64 f', v']) p K' N' f' v' D' :=
  ⟨setRow_heap _ _ _ _ _ _ h.box, hr.rowed h.box _⟩
theorem grown_box (u : World) (R : Array Value) : u.grownBy ((u.alloc (.cells #[.int .i64 0, .int .i64 0, .float .f64 0, .slice none 0 0] 63)).setRow u.heap.size R) none :=
  ⟨rfl, rfl, rfl, by simp, fun k hk _ => by rw [setRow_other _ _ _ _ (by omega)]; exact (World.grownBy_alloc u _ none).block k hk (by simp)⟩
theorem Bx.new (hr : Ry u v D) : Bx ((u.alloc (.cells #[.int .i64 0, .int .i64 0, .float .f64 0, .slice none 0 0] 63)).setRow u.heap.size #[.int .i64 K, .int .i64 N, .float .f64 f, v]) u.heap.size K N f v D :=
  ⟨setRow_heap _ _ _ _ _ _ (heap_alloc_new u _), hr.grown (grown_box u _) (fun k hk => by cases hk)⟩
end
/-- The cursor, and what stays since w. -/
structure Cs (w : World) (g : Nat) (ad : Option Addr) (n cap : Nat) (zs : List Int) (u : World) : Prop where
  lo : w.heap.size ≤ g
  cur : Cur u g ad n cap zs
  bel : Below w.heap.size w u
section
variable {w u u' : World} {g : Nat} {ad : Option Addr} {n cap : Nat} {zs : List Int}
theorem Cs.move (h : Cs w g ad n cap zs u) (c : Cur u' g ad n cap zs) (hg : u.grownBy u' (some g)) : Cs w g ad n cap zs u' := ⟨h.lo, c, h.bel.grown hg h.bel.size (fun k hk => by cases hk; exact h.lo)⟩
theorem Cs.fresh (h : Cs w g ad n cap zs u) (hg : u.grownBy u' none) : Cs w g ad n cap zs u' := ⟨h.lo, h.cur.other hg (fun k hk => by cases hk), h.bel.grown hg h.bel.size (fun k hk => by cases hk)⟩
theorem Cs.still (h : Cs w g ad n cap zs u) (hs : Still u u') : Cs w g ad n cap zs u' := ⟨h.lo, h.cur.still hs, h.bel.trans (hs.below _)⟩
theorem Cs.row (h : Cs w g ad n cap zs u) {q : Nat} (hq : g < q) (R : Array Value) : Cs w g ad n cap zs (u.setRow q R) := ⟨h.lo, h.cur.other (grown_row u q R) (fun k hk => by cases hk; exact hq), h.bel.grown (grown_row u q R) h.bel.size (fun k hk => by have := h.lo; cases hk; omega)⟩
end
theorem results_cell3 {P : Program} {fn : Func} {p q r : Tmp} {ty : TypeId} (h : fn.results = #[.cell p ty, .cell q ty, .cell r ty]) (tmps : Array Value) (w : World) (g1 g2 g3 : Nat) (t : TypeId) (c1 c2 c3 : Array Value) (fr : Nat × Nat) (d : TypeDesc)
    (hp : tmps.getD p undef = .pointer (some ⟨g1, 0, none⟩)) (hq : tmps.getD q undef = .pointer (some ⟨g2, 0, none⟩)) (hr : tmps.getD r undef = .pointer (some ⟨g3, 0, none⟩)) (h1 : w.heap[g1]? = some (.cells c1 t fr)) (h2 : w.heap[g2]? = some (.cells c2 t fr)) (h3 : w.heap[g3]? = some (.cells c3 t fr))
    (hu : P.underlying ty = some d) (hd : (match d with | .struct _ | .array _ _ => true | _ => false) = true) (i1 : (P.info? ty).map (·.size) = some c1.size) (i2 : (P.info? ty).map (·.size) = some c2.size) (i3 : (P.info? ty).map (·.size) = some c3.size) :
    (results fn tmps).run P w = .ok (.tuple #[.agg c1, .agg c2, .agg c3]) w := by
  have hp' : tmps[p]?.getD undef = .pointer (some ⟨g1, 0, none⟩) := by simpa using hp
  have hq' : tmps[q]?.getD undef = .pointer (some ⟨g2, 0, none⟩) := by simpa using hq
  have hr' : tmps[r]?.getD undef = .pointer (some ⟨g3, 0, none⟩) := by simpa using hr
  simp [results, h, hp', hq', hr', asAddr, run_loadVar_row w g1 t ty c1 fr d h1 hu hd i1, run_loadVar_row w g2 t ty c2 fr d h2 hu hd i2, run_loadVar_row w g3 t ty c3 fr d h3 hu hd i3]

/-- What is told of an item. -/
structure Ia (w : World) (K N : Int) (f : Nat) (a : Option Addr) (m c : Nat) (D : List Int) : Prop where
  rd : Reads w a m D
  nl : a = none → c = 0
  m0 : m ≤ 10000
  n0 : -9223372036854775808 ≤ N
  n1 : N ≤ 9223372036854775807
  f0 : f < 18446744073709551616
theorem Ia.below {w w' : World} {K N : Int} {f : Nat} {a : Option Addr} {m c : Nat} {D : List Int} (h : Ia w K N f a m c D) {B : Nat} (b : Below B w w') (hB : w.heap.size ≤ B) : Ia w' K N f a m c D := ⟨h.rd.below b hB, h.nl, h.m0, h.n0, h.n1, h.f0⟩
theorem Ry.ia {w : World} {K N : Int} {f : Nat} {a : Option Addr} {m c : Nat} {D : List Int} (h : Ry w (.slice a m c) D) (hm : D.length ≤ 10000) (hN : -9223372036854775808 ≤ N ∧ N ≤ 9223372036854775807) (hf : f < 18446744073709551616) : Ia w K N f a m c D := by
  obtain ⟨a', c', e, r, n, _⟩ := h.row
  obtain ⟨rfl, rfl, rfl⟩ := Value.slice.inj e
  exact ⟨r, n, hm, hN.1, hN.2, hf⟩
structure AnsS (w : World) (e : Ending) (w' : World) : Prop where
  ex : ∃ K1 N1 f1 a1 m1 c1 D1 K2 N2 f2 a2 m2 c2 D2 K3 N3 f3 a3 m3 c3 D3, e = .returned (.tuple #[.agg #[.int .i64 K1, .int .i64 N1, .float .f64 f1, .slice a1 m1 c1], .agg #[.int .i64 K2, .int .i64 N2, .float .f64 f2, .slice a2 m2 c2], .agg #[.int .i64 K3, .int .i64 N3, .float .f64 f3, .slice a3 m3 c3]]) ∧ Ia w' K1 N1 f1 a1 m1 c1 D1 ∧ Ia w' K2 N2 f2 a2 m2 c2 D2 ∧ Ia w' K3 N3 f3 a3 m3 c3 D3 ∧ Below w.heap.size w w'

end Go.Proofs.Ytioefplkadpfnaa
