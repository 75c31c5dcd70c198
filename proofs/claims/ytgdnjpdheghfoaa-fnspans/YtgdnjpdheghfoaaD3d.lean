/- The contract of the draw of a span's keys. For codes of at most 2^21 bytes. -/
import Derived.Test.YtgdnjpdheghfoaaD3a
import Derived.Test.YtgdnjpdheghfoaaRyi
import Derived.Test.YtgdnjpdheghfoaaRk
namespace Go.Proofs.Ytgdnjpdheghfoaa
open Go.RowKit

/-- An item in the box p. -/
structure Bx (u : World) (p : Nat) (K N : Int) (f : Nat) (v : Value) (D : List Int) : Prop where
  box : u.heap[p]? = some (.cells #[.int .i64 K, .int .i64 N, .float .f64 f, v] 26)
  ry : Ry u v D
section
variable {u u' : World} {p : Nat} {K N : Int} {f : Nat} {v : Value} {D : List Int}
theorem Bx.lt (h : Bx u p K N f v D) : p < u.heap.size := (Array.getElem?_eq_some_iff.1 h.box).1
theorem Bx.fresh (h : Bx u p K N f v D) (hg : u.grownBy u' none) : Bx u' p K N f v D :=
  ⟨(hg.block p h.lt (by simp)).trans h.box, h.ry.grown hg (fun k hk => by cases hk)⟩
theorem Bx.still (h : Bx u p K N f v D) (hs : Still u u') : Bx u' p K N f v D := ⟨by rw [hs.heap]; exact h.box, h.ry.still hs⟩
theorem Bx.cells {a : Option Addr} {m c : Nat} (h : Bx u p K N f (.slice a m c) D) : u.cell? ⟨p, 0, none⟩ = some (.int .i64 K) ∧ u.cell? ⟨p, 1, none⟩ = some (.int .i64 N) ∧ u.cell? ⟨p, 2, none⟩ = some (.float .f64 f) ∧ u.cell? ⟨p, 3, none⟩ = some (.slice a m c) := by
  have t := h.box
  exact ⟨by rw [cell_of_row _ _ _ _ _ _ t]; rfl, by rw [cell_of_row _ _ _ _ _ _ t]; rfl, by rw [cell_of_row _ _ _ _ _ _ t]; rfl, by rw [cell_of_row _ _ _ _ _ _ t]; rfl⟩
theorem Bx.cur {g : Nat} {ad : Option Addr} {n cap : Nat} {zs : List Int} (h : Bx u p K N f v D) (c : Cur u g ad n cap zs) (hg : u.grownBy u' (some g)) : Bx u' p K N f v D := by
  obtain ⟨i, hh, _, hrow⟩ := c.row
  refine ⟨(hg.block p h.lt (fun e => ?_)).trans h.box, h.ry.cursor c hg⟩
  obtain rfl := Option.some.inj e
  have := h.box
  rw [hrow] at this
  simp only [Option.some.injEq, Obj.cells.injEq] at this
  exact absurd this.2.1 (by decide)
theorem grown_row (u : World) (q : Nat) (R : Array Value) : u.grownBy (u.setRow q R) (some q) := ⟨rfl, rfl, rfl, by simp, fun k _ hk => setRow_other _ _ _ _ (fun e => hk (by rw [e]))⟩
theorem Ry.rowed (h : Ry u v D) {q : Nat} {cs : Array Value} (hq : u.heap[q]? = some (.cells cs 26)) (R : Array Value) : Ry (u.setRow q R) v D :=
  h.grown (grown_row u q R) (fun k hk => by obtain rfl := Option.some.inj hk; exact ⟨_, _, _, hq, by decide⟩)
theorem Bx.other (h : Bx u p K N f v D) {q : Nat} {cs : Array Value} (hq : u.heap[q]? = some (.cells cs 26)) (hne : p ≠ q) (R : Array Value) : Bx (u.setRow q R) p K N f v D :=
  ⟨by rw [setRow_other _ _ _ _ hne]; exact h.box, h.ry.rowed hq R⟩
theorem Bx.upd (h : Bx u p K N f v D) {K' N' : Int} {f' : Nat} {v' : Value} {D' : List Int} (hr : Ry u v' D') : Bx (u.setRow p #[.int .i64 K', .int .i64 N', .float .f64 f', v']) p K' N' f' v' D' :=
  ⟨setRow_heap _ _ _ _ _ _ h.box, hr.rowed h.box _⟩
theorem grown_box (u : World) (R : Array Value) : u.grownBy ((u.alloc (.cells #[.int .i64 0, .int .i64 0, .float .f64 0, .slice none 0 0] 26)).setRow u.heap.size R) none :=
  ⟨rfl, rfl, rfl, by simp, fun k hk _ => by rw [setRow_other _ _ _ _ (by omega)]; exact (World.grownBy_alloc u _ none).block k hk (by simp)⟩
theorem Bx.new (hr : Ry u v D) : Bx ((u.alloc (.cells #[.int .i64 0, .int .i64 0, .float .f64 0, .slice none 0 0] 26)).setRow u.heap.size #[.int .i64 K, .int .i64 N, .float .f64 f, v]) u.heap.size K N f v D :=
  ⟨setRow_heap _ _ _ _ _ _ (heap_alloc_new u _), hr.grown (grown_box u _) (fun k hk => by cases hk)⟩
end
/-- The cursor, and what stays since w. -/
structure Cs (w : World) (g : Nat) (ad : Option Addr) (n cap : Nat) (zs : List Int) (u : World) : Prop where
  lo : w.heap.size ≤ g
  cur : Cur u g ad n cap zs
  bel : Below w.heap.size w u
section
variable {w u u' : World} {g : Nat} {ad : Option Addr} {n cap : Nat} {zs : List Int}
theorem Cs.move (h : Cs w g ad n cap zs u) (c : Cur u' g ad n cap zs) (hg : u.grownBy u' (some g)) : Cs w g ad n cap zs u' := ⟨h.lo, c, h.bel.grown hg h.bel.size (fun k hk => by cases hk; exact h.lo)⟩
theorem Cs.fresh (h : Cs w g ad n cap zs u) (hg : u.grownBy u' none) : Cs w g ad n cap zs u' := ⟨h.lo, h.cur.other hg (fun k hk => by cases hk), h.bel.grown hg h.bel.size (fun k hk => by cases hk)⟩
theorem Cs.still (h : Cs w g ad n cap zs u) (hs : Still u u') : Cs w g ad n cap zs u' := ⟨h.lo, h.cur.still hs, h.bel.trans (hs.below _)⟩
theorem Cs.row (h : Cs w g ad n cap zs u) {q : Nat} (hq : g < q) (R : Array Value) : Cs w g ad n cap zs (u.setRow q R) := ⟨h.lo, h.cur.other (grown_row u q R) (fun k hk => by cases hk; exact hq), h.bel.grown (grown_row u q R) h.bel.size (fun k hk => by have := h.lo; cases hk; omega)⟩
end
theorem results_cell3 {P : Program} {fn : Func} {p q r : Tmp} {ty : TypeId} (h : fn.results = #[.cell p ty, .cell q ty, .cell r ty]) (tmps : Array Value) (w : World) (g1 g2 g3 : Nat) (t : TypeId) (c1 c2 c3 : Array Value) (fr : Nat × Nat) (d : TypeDesc)
    (hp : tmps.getD p undef = .pointer (some ⟨g1, 0, none⟩)) (hq : tmps.getD q undef = .pointer (some ⟨g2, 0, none⟩)) (hr : tmps.getD r undef = .pointer (some ⟨g3, 0, none⟩)) (h1 : w.heap[g1]? = some (.cells c1 t fr)) (h2 : w.heap[g2]? = some (.cells c2 t fr)) (h3 : w.heap[g3]? = some (.cells c3 t fr))
    (hu : P.underlying ty = some d) (hd : (match d with | .struct _ | .array _ _ => true | _ => false) = true) (i1 : (P.info? ty).map (·.size) = some c1.size) (i2 : (P.info? ty).map (·.size) = some c2.size) (i3 : (P.info? ty).map (·.size) = some c3.size) :
    (results fn tmps).run P w = .ok (.tuple #[.agg c1, .agg c2, .agg c3]) w := by
  have hp' : tmps[p]?.getD undef = .pointer (some ⟨g1, 0, none⟩) := by simpa using hp
  have hq' : tmps[q]?.getD undef = .pointer (some ⟨g2, 0, none⟩) := by simpa using hq
  have hr' : tmps[r]?.getD undef = .pointer (some ⟨g3, 0, none⟩) := by simpa using hr
  simp [results, h, hp', hq', hr', asAddr, run_loadVar_row w g1 t ty c1 fr d h1 hu hd i1, run_loadVar_row w g2 t ty c2 fr d h2 hu hd i2, run_loadVar_row w g3 t ty c3 fr d h3 hu hd i3]

/-- What is told of an item. -/
structure Ia (w : World) (K N : Int) (f : Nat) (a : Option Addr) (m c : Nat) (D : List Int) : Prop where
  rd : Reads w a m D
  nl : a = none → c = 0
  m0 : m ≤ 10000
  n0 : -9223372036854775808 ≤ N
  n1 : N ≤ 9223372036854775807
  f0 : f < 18446744073709551616
theorem Ia.below {w w' : World} {K N : Int} {f : Nat} {a : Option Addr} {m c : Nat} {D : List Int} (h : Ia w K N f a m c D) {B : Nat} (b : Below B w w') (hB : w.heap.size ≤ B) : Ia w' K N f a m c D := ⟨h.rd.below b hB, h.nl, h.m0, h.n0, h.n1, h.f0⟩
theorem Ry.ia {w : World} {K N : Int} {f : Nat} {a : Option Addr} {m c : Nat} {D : List Int} (h : Ry w (.slice a m c) D) (hm : D.length ≤ 10000) (hN : -9223372036854775808 ≤ N ∧ N ≤ 9223372036854775807) (hf : f < 18446744073709551616) : Ia w K N f a m c D := by
  obtain ⟨a', c', e, r, n, _⟩ := h.row
  obtain ⟨rfl, rfl, rfl⟩ := Value.slice.inj e
  exact ⟨r, n, hm, hN.1, hN.2, hf⟩
structure AnsS (w : World) (e : Ending) (w' : World) : Prop where
  ex : ∃ K1 N1 f1 a1 m1 c1 D1 K2 N2 f2 a2 m2 c2 D2 K3 N3 f3 a3 m3 c3 D3, e = .returned (.tuple #[.agg #[.int .i64 K1, .int .i64 N1, .float .f64 f1, .slice a1 m1 c1], .agg #[.int .i64 K2, .int .i64 N2, .float .f64 f2, .slice a2 m2 c2], .agg #[.int .i64 K3, .int .i64 N3, .float .f64 f3, .slice a3 m3 c3]]) ∧ Ia w' K1 N1 f1 a1 m1 c1 D1 ∧ Ia w' K2 N2 f2 a2 m2 c2 D2 ∧ Ia w' K3 N3 f3 a3 m3 c3 D3 ∧ Below w.heap.size w w'

set_option maxRecDepth 100000 in
set_option maxHeartbeats 12800000 in
theorem drawSpan {w : World} {ad : Option Addr} {n : Nat} (cap : Nat) {zs : List Int} (h : Reads w ad n zs) (hn : n ≤ 2097152) :
    Calls Try.prog 11 #[.slice ad n cap] w fun e w' => AnsS w e w' := by
  have HR := hid h
  clear h
  go_enter Try.func11, Try.ntmps11
  go_wp2_with fail
  have bU : Below w.heap.size w (((w.alloc (.cells #[.int .i64 0, .int .i64 0, .float .f64 0, .slice none 0 0] 26)).alloc (.cells #[.int .i64 0, .int .i64 0, .float .f64 0, .slice none 0 0] 26)).alloc (.cells #[.int .i64 0, .int .i64 0, .float .f64 0, .slice none 0 0] 26)) := (((Below.refl w.heap.size w).alloc (Nat.le_refl _) (.cells #[.int .i64 0, .int .i64 0, .float .f64 0, .slice none 0 0] 26)).alloc (by simp) (.cells #[.int .i64 0, .int .i64 0, .float .f64 0, .slice none 0 0] 26)).alloc (by simp; omega) (.cells #[.int .i64 0, .int .i64 0, .float .f64 0, .slice none 0 0] 26)
  have T2 : (((w.alloc (.cells #[.int .i64 0, .int .i64 0, .float .f64 0, .slice none 0 0] 26)).alloc (.cells #[.int .i64 0, .int .i64 0, .float .f64 0, .slice none 0 0] 26)).alloc (.cells #[.int .i64 0, .int .i64 0, .float .f64 0, .slice none 0 0] 26)).heap[w.heap.size + 1 + 1]? = some (.cells #[.int .i64 0, .int .i64 0, .float .f64 0, .slice none 0 0] 26) := by have hh := heap_alloc_new ((w.alloc (.cells #[.int .i64 0, .int .i64 0, .float .f64 0, .slice none 0 0] 26)).alloc (.cells #[.int .i64 0, .int .i64 0, .float .f64 0, .slice none 0 0] 26)) (.cells #[.int .i64 0, .int .i64 0, .float .f64 0, .slice none 0 0] 26); simpa using hh
  have T1 : (((w.alloc (.cells #[.int .i64 0, .int .i64 0, .float .f64 0, .slice none 0 0] 26)).alloc (.cells #[.int .i64 0, .int .i64 0, .float .f64 0, .slice none 0 0] 26)).alloc (.cells #[.int .i64 0, .int .i64 0, .float .f64 0, .slice none 0 0] 26)).heap[w.heap.size + 1]? = some (.cells #[.int .i64 0, .int .i64 0, .float .f64 0, .slice none 0 0] 26) := by rw [(World.grownBy_alloc ((w.alloc (.cells #[.int .i64 0, .int .i64 0, .float .f64 0, .slice none 0 0] 26)).alloc (.cells #[.int .i64 0, .int .i64 0, .float .f64 0, .slice none 0 0] 26)) (.cells #[.int .i64 0, .int .i64 0, .float .f64 0, .slice none 0 0] 26) none).block _ (by simp) (by simp)]; have hh := heap_alloc_new (w.alloc (.cells #[.int .i64 0, .int .i64 0, .float .f64 0, .slice none 0 0] 26)) (.cells #[.int .i64 0, .int .i64 0, .float .f64 0, .slice none 0 0] 26); simpa using hh
  have T0 : (((w.alloc (.cells #[.int .i64 0, .int .i64 0, .float .f64 0, .slice none 0 0] 26)).alloc (.cells #[.int .i64 0, .int .i64 0, .float .f64 0, .slice none 0 0] 26)).alloc (.cells #[.int .i64 0, .int .i64 0, .float .f64 0, .slice none 0 0] 26)).heap[w.heap.size]? = some (.cells #[.int .i64 0, .int .i64 0, .float .f64 0, .slice none 0 0] 26) := by rw [(World.grownBy_alloc ((w.alloc (.cells #[.int .i64 0, .int .i64 0, .float .f64 0, .slice none 0 0] 26)).alloc (.cells #[.int .i64 0, .int .i64 0, .float .f64 0, .slice none 0 0] 26)) (.cells #[.int .i64 0, .int .i64 0, .float .f64 0, .slice none 0 0] 26) none).block _ (by simp; omega) (by simp), (World.grownBy_alloc (w.alloc (.cells #[.int .i64 0, .int .i64 0, .float .f64 0, .slice none 0 0] 26)) (.cells #[.int .i64 0, .int .i64 0, .float .f64 0, .slice none 0 0] 26) none).block _ (by simp) (by simp)]; exact heap_alloc_new w _
  have HU := hid bU
  have HT := hid (And.intro T0 (And.intro T1 T2))
  have ZU := hid (show (((w.alloc (.cells #[.int .i64 0, .int .i64 0, .float .f64 0, .slice none 0 0] 26)).alloc (.cells #[.int .i64 0, .int .i64 0, .float .f64 0, .slice none 0 0] 26)).alloc (.cells #[.int .i64 0, .int .i64 0, .float .f64 0, .slice none 0 0] 26)).heap.size = w.heap.size + 3 by simp)
  replace HR := hid (HR.out.below bU (Nat.le_refl _))
  clear bU T0 T1 T2
  generalize ((w.alloc (.cells #[.int .i64 0, .int .i64 0, .float .f64 0, .slice none 0 0] 26)).alloc (.cells #[.int .i64 0, .int .i64 0, .float .f64 0, .slice none 0 0] 26)).alloc (.cells #[.int .i64 0, .int .i64 0, .float .f64 0, .slice none 0 0] 26) = U at *
  generalize hq0 : w.heap.size = q at *
  have HQ := hid hq0
  clear hq0
  refine (l1New cap HR.out (by omega)).mono ?_
  rintro e u0 ⟨g, rfl, hg, c0, b0⟩
  have C0 := hid (show Cs U g ad n cap zs u0 from ⟨hg, c0, b0⟩)
  clear HR hg c0 b0
  go_wp2_with fail
  refine (l3key C0.out.cur hn).mono ?_
  rintro e w1 ⟨K1, N1, f1, v1, D1, rfl, o1, bd1, hD1, hN1, hf1, c, gg⟩
  obtain ⟨a1, q1, rfl⟩ := own_form2 o1
  have Bx1 := hid (Bx.new (K := K1) (N := N1) (f := f1) (Ry.own o1 bd1))
  have C1 := hid ((C0.out.move c gg).fresh (grown_box w1 #[.int .i64 K1, .int .i64 N1, .float .f64 f1, .slice a1 D1.length q1]))
  have TZ := hid (heap_alloc_new w1 (.cells #[.int .i64 0, .int .i64 0, .float .f64 0, .slice none 0 0] 26))
  have hgw : g < w1.heap.size := c.lt
  clear o1 bd1 c gg C0
  go_wp2_with (refine wpList_store_row rfl 26 (.tmp 6) _ rfl w1.heap.size #[.int .i64 K1, .int .i64 N1, .float .f64 f1, .slice a1 D1.length q1] rfl rfl 26 _ TZ.out ?x11 ?x21 ?x31 ?_)
  case x11 => simpa using sizeIt
  try case x21 => rfl
  case x31 => simp [Value.oneCell']
  clear TZ
  generalize (w1.alloc (.cells #[.int .i64 0, .int .i64 0, .float .f64 0, .slice none 0 0] 26)).setRow w1.heap.size #[.int .i64 K1, .int .i64 N1, .float .f64 f1, .slice a1 D1.length q1] = V1 at *
  generalize w1.heap.size = p1 at *
  have HG1 := hid hgw
  clear hgw
  refine (l3key C1.out.cur hn).mono ?_
  rintro e w2 ⟨K2, N2, f2, v2, D2, rfl, o2, bd2, hD2, hN2, hf2, c, gg⟩
  obtain ⟨a2, q2, rfl⟩ := own_form2 o2
  have HLp12 := hid (show p1 < w2.heap.size from (Bx1.out.cur C1.out.cur gg).lt)
  replace Bx1 := hid ((Bx1.out.cur C1.out.cur gg).fresh (grown_box w2 #[.int .i64 K2, .int .i64 N2, .float .f64 f2, .slice a2 D2.length q2]))
  have Bx2 := hid (Bx.new (K := K2) (N := N2) (f := f2) (Ry.own o2 bd2))
  have C2 := hid ((C1.out.move c gg).fresh (grown_box w2 #[.int .i64 K2, .int .i64 N2, .float .f64 f2, .slice a2 D2.length q2]))
  have TZ := hid (heap_alloc_new w2 (.cells #[.int .i64 0, .int .i64 0, .float .f64 0, .slice none 0 0] 26))
  have hgw : g < w2.heap.size := c.lt
  clear o2 bd2 c gg C1
  go_wp2_with (refine wpList_store_row rfl 26 (.tmp 7) _ rfl w2.heap.size #[.int .i64 K2, .int .i64 N2, .float .f64 f2, .slice a2 D2.length q2] rfl rfl 26 _ TZ.out ?x12 ?x22 ?x32 ?_)
  case x12 => simpa using sizeIt
  try case x22 => rfl
  case x32 => simp [Value.oneCell']
  clear TZ
  generalize (w2.alloc (.cells #[.int .i64 0, .int .i64 0, .float .f64 0, .slice none 0 0] 26)).setRow w2.heap.size #[.int .i64 K2, .int .i64 N2, .float .f64 f2, .slice a2 D2.length q2] = V2 at *
  generalize w2.heap.size = p2 at *
  have HG2 := hid hgw
  clear hgw
  refine (l3key C2.out.cur hn).mono ?_
  rintro e w3 ⟨K3, N3, f3, v3, D3, rfl, o3, bd3, hD3, hN3, hf3, c, gg⟩
  obtain ⟨a3, q3, rfl⟩ := own_form2 o3
  have HLp13 := hid (show p1 < w3.heap.size from (Bx1.out.cur C2.out.cur gg).lt)
  have HLp23 := hid (show p2 < w3.heap.size from (Bx2.out.cur C2.out.cur gg).lt)
  replace Bx1 := hid ((Bx1.out.cur C2.out.cur gg).fresh (grown_box w3 #[.int .i64 K3, .int .i64 N3, .float .f64 f3, .slice a3 D3.length q3]))
  replace Bx2 := hid ((Bx2.out.cur C2.out.cur gg).fresh (grown_box w3 #[.int .i64 K3, .int .i64 N3, .float .f64 f3, .slice a3 D3.length q3]))
  have Bx3 := hid (Bx.new (K := K3) (N := N3) (f := f3) (Ry.own o3 bd3))
  have C3 := hid ((C2.out.move c gg).fresh (grown_box w3 #[.int .i64 K3, .int .i64 N3, .float .f64 f3, .slice a3 D3.length q3]))
  have TZ := hid (heap_alloc_new w3 (.cells #[.int .i64 0, .int .i64 0, .float .f64 0, .slice none 0 0] 26))
  have hgw : g < w3.heap.size := c.lt
  clear o3 bd3 c gg C2
  go_wp2_with (refine wpList_store_row rfl 26 (.tmp 8) _ rfl w3.heap.size #[.int .i64 K3, .int .i64 N3, .float .f64 f3, .slice a3 D3.length q3] rfl rfl 26 _ TZ.out ?x13 ?x23 ?x33 ?_)
  case x13 => simpa using sizeIt
  try case x23 => rfl
  case x33 => simp [Value.oneCell']
  clear TZ
  generalize (w3.alloc (.cells #[.int .i64 0, .int .i64 0, .float .f64 0, .slice none 0 0] 26)).setRow w3.heap.size #[.int .i64 K3, .int .i64 N3, .float .f64 f3, .slice a3 D3.length q3] = V3 at *
  generalize w3.heap.size = p3 at *
  have HG3 := hid hgw
  clear hgw
  refine (l1Once C3.out.cur hn 6 (by omega) (by omega)).mono ?_
  rintro e u4 ⟨bb, rfl, c, gg⟩
  replace Bx1 := hid (Bx1.out.cur C3.out.cur gg)
  replace Bx2 := hid (Bx2.out.cur C3.out.cur gg)
  replace Bx3 := hid (Bx3.out.cur C3.out.cur gg)
  replace C3 := hid (C3.out.move c gg)
  clear c gg
  cases bb
  · go_wp2_with fail
    refine (l1Once C3.out.cur hn 6 (by omega) (by omega)).mono ?_
    rintro e u5s ⟨bb, rfl, c, gg⟩
    replace Bx1 := hid (Bx1.out.cur C3.out.cur gg)
    replace Bx2 := hid (Bx2.out.cur C3.out.cur gg)
    replace Bx3 := hid (Bx3.out.cur C3.out.cur gg)
    replace C3 := hid (C3.out.move c gg)
    clear c gg
    cases bb
    · skip
      replace Bx1 := hid (Bx1.out.still (Still.drew u5s))
      replace Bx2 := hid (Bx2.out.still (Still.drew u5s))
      replace Bx3 := hid (Bx3.out.still (Still.drew u5s))
      replace C3 := hid (C3.out.still (Still.drew u5s))
      go_wp2_with fail
      have Q0 : u5s.drew.heap[q]? = some (.cells #[.int .i64 0, .int .i64 0, .float .f64 0, .slice none 0 0] 26) := (C3.out.bel.block q (by have := ZU.out; omega)).trans HT.out.1
      have Q1 : u5s.drew.heap[q + 1]? = some (.cells #[.int .i64 0, .int .i64 0, .float .f64 0, .slice none 0 0] 26) := (C3.out.bel.block (q + 1) (by have := ZU.out; omega)).trans HT.out.2.1
      have Q2 : u5s.drew.heap[q + 1 + 1]? = some (.cells #[.int .i64 0, .int .i64 0, .float .f64 0, .slice none 0 0] 26) := (C3.out.bel.block (q + 1 + 1) (by have := ZU.out; omega)).trans HT.out.2.2
      have hgq : q + 3 ≤ g := by have := ZU.out; have := C3.out.lo; omega
      have P1 : (u5s.drew.setRow q #[.int .i64 K1, .int .i64 N1, .float .f64 f1, .slice a1 D1.length q1]).heap[q + 1]? = some (.cells #[.int .i64 0, .int .i64 0, .float .f64 0, .slice none 0 0] 26) := by rw [setRow_other _ _ _ _ (by omega)]; exact Q1
      have P2 : ((u5s.drew.setRow q #[.int .i64 K1, .int .i64 N1, .float .f64 f1, .slice a1 D1.length q1]).setRow (q + 1) #[.int .i64 K2, .int .i64 N2, .float .f64 f2, .slice a2 D2.length q2]).heap[q + 1 + 1]? = some (.cells #[.int .i64 0, .int .i64 0, .float .f64 0, .slice none 0 0] 26) := by rw [setRow_other _ _ _ _ (by omega), setRow_other _ _ _ _ (by omega)]; exact Q2
      have y1 := ((Bx1.out.ry.rowed Q0 #[.int .i64 K1, .int .i64 N1, .float .f64 f1, .slice a1 D1.length q1]).rowed P1 #[.int .i64 K2, .int .i64 N2, .float .f64 f2, .slice a2 D2.length q2]).rowed P2 #[.int .i64 K3, .int .i64 N3, .float .f64 f3, .slice a3 D3.length q3]
      have y2 := ((Bx2.out.ry.rowed Q0 #[.int .i64 K1, .int .i64 N1, .float .f64 f1, .slice a1 D1.length q1]).rowed P1 #[.int .i64 K2, .int .i64 N2, .float .f64 f2, .slice a2 D2.length q2]).rowed P2 #[.int .i64 K3, .int .i64 N3, .float .f64 f3, .slice a3 D3.length q3]
      have y3 := ((Bx3.out.ry.rowed Q0 #[.int .i64 K1, .int .i64 N1, .float .f64 f1, .slice a1 D1.length q1]).rowed P1 #[.int .i64 K2, .int .i64 N2, .float .f64 f2, .slice a2 D2.length q2]).rowed P2 #[.int .i64 K3, .int .i64 N3, .float .f64 f3, .slice a3 D3.length q3]
      have E0 : (((u5s.drew.setRow q #[.int .i64 K1, .int .i64 N1, .float .f64 f1, .slice a1 D1.length q1]).setRow (q + 1) #[.int .i64 K2, .int .i64 N2, .float .f64 f2, .slice a2 D2.length q2]).setRow (q + 1 + 1) #[.int .i64 K3, .int .i64 N3, .float .f64 f3, .slice a3 D3.length q3]).heap[q]? = some (.cells #[.int .i64 K1, .int .i64 N1, .float .f64 f1, .slice a1 D1.length q1] 26) := by rw [setRow_other _ _ _ _ (by omega), setRow_other _ _ _ _ (by omega)]; exact setRow_heap _ _ _ _ _ _ Q0
      have E1 : (((u5s.drew.setRow q #[.int .i64 K1, .int .i64 N1, .float .f64 f1, .slice a1 D1.length q1]).setRow (q + 1) #[.int .i64 K2, .int .i64 N2, .float .f64 f2, .slice a2 D2.length q2]).setRow (q + 1 + 1) #[.int .i64 K3, .int .i64 N3, .float .f64 f3, .slice a3 D3.length q3]).heap[q + 1]? = some (.cells #[.int .i64 K2, .int .i64 N2, .float .f64 f2, .slice a2 D2.length q2] 26) := by rw [setRow_other _ _ _ _ (by omega)]; exact setRow_heap _ _ _ _ _ _ P1
      have E2 : (((u5s.drew.setRow q #[.int .i64 K1, .int .i64 N1, .float .f64 f1, .slice a1 D1.length q1]).setRow (q + 1) #[.int .i64 K2, .int .i64 N2, .float .f64 f2, .slice a2 D2.length q2]).setRow (q + 1 + 1) #[.int .i64 K3, .int .i64 N3, .float .f64 f3, .slice a3 D3.length q3]).heap[q + 1 + 1]? = some (.cells #[.int .i64 K3, .int .i64 N3, .float .f64 f3, .slice a3 D3.length q3] 26) := setRow_heap _ _ _ _ _ _ P2
      have bl : Below w.heap.size w u5s.drew := by have h1 := HU.out; rw [← HQ.out] at h1; exact h1.trans (C3.out.bel.mono h1.size)
      have AN := hid (show AnsS w (.returned (.tuple #[.agg #[.int .i64 K1, .int .i64 N1, .float .f64 f1, .slice a1 D1.length q1], .agg #[.int .i64 K2, .int .i64 N2, .float .f64 f2, .slice a2 D2.length q2], .agg #[.int .i64 K3, .int .i64 N3, .float .f64 f3, .slice a3 D3.length q3]])) (((u5s.drew.setRow q #[.int .i64 K1, .int .i64 N1, .float .f64 f1, .slice a1 D1.length q1]).setRow (q + 1) #[.int .i64 K2, .int .i64 N2, .float .f64 f2, .slice a2 D2.length q2]).setRow (q + 1 + 1) #[.int .i64 K3, .int .i64 N3, .float .f64 f3, .slice a3 D3.length q3]) from ⟨_, _, _, _, _, _, _, _, _, _, _, _, _, _, _, _, _, _, _, _, _, rfl, y1.ia (by omega) hN1 hf1, y2.ia (by omega) hN2 hf2, y3.ia (by omega) hN3 hf3, below_setRow (below_setRow (below_setRow bl (by have := HQ.out; omega) _) (by have := HQ.out; omega) _) (by have := HQ.out; omega) _⟩)
      have HQ0 := hid Q0
      have HP1 := hid P1
      have HP2 := hid P2
      have HE := hid (And.intro E0 (And.intro E1 E2))
      have S0 := hid (show u5s.drew.cell? ⟨p1, 0, none⟩ = some (.int .i64 K1) ∧ u5s.drew.cell? ⟨p1, 1, none⟩ = some (.int .i64 N1) ∧ u5s.drew.cell? ⟨p1, 2, none⟩ = some (.float .f64 f1) ∧ u5s.drew.cell? ⟨p1, 3, none⟩ = some (.slice a1 D1.length q1) ∧ u5s.drew.cell? ⟨p2, 0, none⟩ = some (.int .i64 K2) ∧ u5s.drew.cell? ⟨p2, 1, none⟩ = some (.int .i64 N2) ∧ u5s.drew.cell? ⟨p2, 2, none⟩ = some (.float .f64 f2) ∧ u5s.drew.cell? ⟨p2, 3, none⟩ = some (.slice a2 D2.length q2) ∧ u5s.drew.cell? ⟨p3, 0, none⟩ = some (.int .i64 K3) ∧ u5s.drew.cell? ⟨p3, 1, none⟩ = some (.int .i64 N3) ∧ u5s.drew.cell? ⟨p3, 2, none⟩ = some (.float .f64 f3) ∧ u5s.drew.cell? ⟨p3, 3, none⟩ = some (.slice a3 D3.length q3) from (by have x1 := (Bx1.out).cells; have x2 := (Bx2.out).cells; have x3 := (Bx3.out).cells; exact ⟨x1.1, x1.2.1, x1.2.2.1, x1.2.2.2, x2.1, x2.2.1, x2.2.2.1, x2.2.2.2, x3.1, x3.2.1, x3.2.2.1, x3.2.2.2⟩))
      have S1 := hid (show (u5s.drew.setRow q #[.int .i64 K1, .int .i64 N1, .float .f64 f1, .slice a1 D1.length q1]).cell? ⟨p1, 0, none⟩ = some (.int .i64 K1) ∧ (u5s.drew.setRow q #[.int .i64 K1, .int .i64 N1, .float .f64 f1, .slice a1 D1.length q1]).cell? ⟨p1, 1, none⟩ = some (.int .i64 N1) ∧ (u5s.drew.setRow q #[.int .i64 K1, .int .i64 N1, .float .f64 f1, .slice a1 D1.length q1]).cell? ⟨p1, 2, none⟩ = some (.float .f64 f1) ∧ (u5s.drew.setRow q #[.int .i64 K1, .int .i64 N1, .float .f64 f1, .slice a1 D1.length q1]).cell? ⟨p1, 3, none⟩ = some (.slice a1 D1.length q1) ∧ (u5s.drew.setRow q #[.int .i64 K1, .int .i64 N1, .float .f64 f1, .slice a1 D1.length q1]).cell? ⟨p2, 0, none⟩ = some (.int .i64 K2) ∧ (u5s.drew.setRow q #[.int .i64 K1, .int .i64 N1, .float .f64 f1, .slice a1 D1.length q1]).cell? ⟨p2, 1, none⟩ = some (.int .i64 N2) ∧ (u5s.drew.setRow q #[.int .i64 K1, .int .i64 N1, .float .f64 f1, .slice a1 D1.length q1]).cell? ⟨p2, 2, none⟩ = some (.float .f64 f2) ∧ (u5s.drew.setRow q #[.int .i64 K1, .int .i64 N1, .float .f64 f1, .slice a1 D1.length q1]).cell? ⟨p2, 3, none⟩ = some (.slice a2 D2.length q2) ∧ (u5s.drew.setRow q #[.int .i64 K1, .int .i64 N1, .float .f64 f1, .slice a1 D1.length q1]).cell? ⟨p3, 0, none⟩ = some (.int .i64 K3) ∧ (u5s.drew.setRow q #[.int .i64 K1, .int .i64 N1, .float .f64 f1, .slice a1 D1.length q1]).cell? ⟨p3, 1, none⟩ = some (.int .i64 N3) ∧ (u5s.drew.setRow q #[.int .i64 K1, .int .i64 N1, .float .f64 f1, .slice a1 D1.length q1]).cell? ⟨p3, 2, none⟩ = some (.float .f64 f3) ∧ (u5s.drew.setRow q #[.int .i64 K1, .int .i64 N1, .float .f64 f1, .slice a1 D1.length q1]).cell? ⟨p3, 3, none⟩ = some (.slice a3 D3.length q3) from (by have x1 := (Bx1.out.other Q0 (by have := HG1.out; omega) #[.int .i64 K1, .int .i64 N1, .float .f64 f1, .slice a1 D1.length q1]).cells; have x2 := (Bx2.out.other Q0 (by have := HG2.out; omega) #[.int .i64 K1, .int .i64 N1, .float .f64 f1, .slice a1 D1.length q1]).cells; have x3 := (Bx3.out.other Q0 (by have := HG3.out; omega) #[.int .i64 K1, .int .i64 N1, .float .f64 f1, .slice a1 D1.length q1]).cells; exact ⟨x1.1, x1.2.1, x1.2.2.1, x1.2.2.2, x2.1, x2.2.1, x2.2.2.1, x2.2.2.2, x3.1, x3.2.1, x3.2.2.1, x3.2.2.2⟩))
      have S2 := hid (show ((u5s.drew.setRow q #[.int .i64 K1, .int .i64 N1, .float .f64 f1, .slice a1 D1.length q1]).setRow (q + 1) #[.int .i64 K2, .int .i64 N2, .float .f64 f2, .slice a2 D2.length q2]).cell? ⟨p1, 0, none⟩ = some (.int .i64 K1) ∧ ((u5s.drew.setRow q #[.int .i64 K1, .int .i64 N1, .float .f64 f1, .slice a1 D1.length q1]).setRow (q + 1) #[.int .i64 K2, .int .i64 N2, .float .f64 f2, .slice a2 D2.length q2]).cell? ⟨p1, 1, none⟩ = some (.int .i64 N1) ∧ ((u5s.drew.setRow q #[.int .i64 K1, .int .i64 N1, .float .f64 f1, .slice a1 D1.length q1]).setRow (q + 1) #[.int .i64 K2, .int .i64 N2, .float .f64 f2, .slice a2 D2.length q2]).cell? ⟨p1, 2, none⟩ = some (.float .f64 f1) ∧ ((u5s.drew.setRow q #[.int .i64 K1, .int .i64 N1, .float .f64 f1, .slice a1 D1.length q1]).setRow (q + 1) #[.int .i64 K2, .int .i64 N2, .float .f64 f2, .slice a2 D2.length q2]).cell? ⟨p1, 3, none⟩ = some (.slice a1 D1.length q1) ∧ ((u5s.drew.setRow q #[.int .i64 K1, .int .i64 N1, .float .f64 f1, .slice a1 D1.length q1]).setRow (q + 1) #[.int .i64 K2, .int .i64 N2, .float .f64 f2, .slice a2 D2.length q2]).cell? ⟨p2, 0, none⟩ = some (.int .i64 K2) ∧ ((u5s.drew.setRow q #[.int .i64 K1, .int .i64 N1, .float .f64 f1, .slice a1 D1.length q1]).setRow (q + 1) #[.int .i64 K2, .int .i64 N2, .float .f64 f2, .slice a2 D2.length q2]).cell? ⟨p2, 1, none⟩ = some (.int .i64 N2) ∧ ((u5s.drew.setRow q #[.int .i64 K1, .int .i64 N1, .float .f64 f1, .slice a1 D1.length q1]).setRow (q + 1) #[.int .i64 K2, .int .i64 N2, .float .f64 f2, .slice a2 D2.length q2]).cell? ⟨p2, 2, none⟩ = some (.float .f64 f2) ∧ ((u5s.drew.setRow q #[.int .i64 K1, .int .i64 N1, .float .f64 f1, .slice a1 D1.length q1]).setRow (q + 1) #[.int .i64 K2, .int .i64 N2, .float .f64 f2, .slice a2 D2.length q2]).cell? ⟨p2, 3, none⟩ = some (.slice a2 D2.length q2) ∧ ((u5s.drew.setRow q #[.int .i64 K1, .int .i64 N1, .float .f64 f1, .slice a1 D1.length q1]).setRow (q + 1) #[.int .i64 K2, .int .i64 N2, .float .f64 f2, .slice a2 D2.length q2]).cell? ⟨p3, 0, none⟩ = some (.int .i64 K3) ∧ ((u5s.drew.setRow q #[.int .i64 K1, .int .i64 N1, .float .f64 f1, .slice a1 D1.length q1]).setRow (q + 1) #[.int .i64 K2, .int .i64 N2, .float .f64 f2, .slice a2 D2.length q2]).cell? ⟨p3, 1, none⟩ = some (.int .i64 N3) ∧ ((u5s.drew.setRow q #[.int .i64 K1, .int .i64 N1, .float .f64 f1, .slice a1 D1.length q1]).setRow (q + 1) #[.int .i64 K2, .int .i64 N2, .float .f64 f2, .slice a2 D2.length q2]).cell? ⟨p3, 2, none⟩ = some (.float .f64 f3) ∧ ((u5s.drew.setRow q #[.int .i64 K1, .int .i64 N1, .float .f64 f1, .slice a1 D1.length q1]).setRow (q + 1) #[.int .i64 K2, .int .i64 N2, .float .f64 f2, .slice a2 D2.length q2]).cell? ⟨p3, 3, none⟩ = some (.slice a3 D3.length q3) from (by have x1 := ((Bx1.out.other Q0 (by have := HG1.out; omega) #[.int .i64 K1, .int .i64 N1, .float .f64 f1, .slice a1 D1.length q1]).other P1 (by have := HG1.out; omega) #[.int .i64 K2, .int .i64 N2, .float .f64 f2, .slice a2 D2.length q2]).cells; have x2 := ((Bx2.out.other Q0 (by have := HG2.out; omega) #[.int .i64 K1, .int .i64 N1, .float .f64 f1, .slice a1 D1.length q1]).other P1 (by have := HG2.out; omega) #[.int .i64 K2, .int .i64 N2, .float .f64 f2, .slice a2 D2.length q2]).cells; have x3 := ((Bx3.out.other Q0 (by have := HG3.out; omega) #[.int .i64 K1, .int .i64 N1, .float .f64 f1, .slice a1 D1.length q1]).other P1 (by have := HG3.out; omega) #[.int .i64 K2, .int .i64 N2, .float .f64 f2, .slice a2 D2.length q2]).cells; exact ⟨x1.1, x1.2.1, x1.2.2.1, x1.2.2.2, x2.1, x2.2.1, x2.2.2.1, x2.2.2.2, x3.1, x3.2.1, x3.2.2.1, x3.2.2.2⟩))
      clear Q0 Q1 Q2 P1 P2 y1 y2 y3 E0 E1 E2 bl Bx1 Bx2 Bx3 C3
      refine region_K 5 (fun X => X.cell? ⟨p1, 0, none⟩ = some (.int .i64 K1) ∧ X.cell? ⟨p1, 1, none⟩ = some (.int .i64 N1) ∧ X.cell? ⟨p1, 2, none⟩ = some (.float .f64 f1) ∧ X.cell? ⟨p1, 3, none⟩ = some (.slice a1 D1.length q1) ∧ X.cell? ⟨p2, 0, none⟩ = some (.int .i64 K2) ∧ X.cell? ⟨p2, 1, none⟩ = some (.int .i64 N2) ∧ X.cell? ⟨p2, 2, none⟩ = some (.float .f64 f2) ∧ X.cell? ⟨p2, 3, none⟩ = some (.slice a2 D2.length q2) ∧ X.cell? ⟨p3, 0, none⟩ = some (.int .i64 K3) ∧ X.cell? ⟨p3, 1, none⟩ = some (.int .i64 N3) ∧ X.cell? ⟨p3, 2, none⟩ = some (.float .f64 f3) ∧ X.cell? ⟨p3, 3, none⟩ = some (.slice a3 D3.length q3)) (by kernel_rfl) ?_ (fun hHeld => ?_)
      · exact S0.out
      refine anyK_take (i := 0) (v := ?v40001) rfl (by kernel_rfl) (by kernel_rfl) (by kernel_rfl) (by kernel_rfl) (fun _ _ _ h => h) (by rfl) hHeld ?hy40001 (some 25) (by rfl) ?rest40001
      case hy40001 => (intro W' hSw; (try dsimp only at hSw); go_simp; (try with_reducible rfl))
      try simp only [Act.put]
      try simp only [List.setIfInBounds_toArray]
      try simp only [List.set_cons_succ, List.set_cons_zero]
      refine anyK_take (i := 1) (v := ?v40002) rfl (by kernel_rfl) (by kernel_rfl) (by kernel_rfl) (by kernel_rfl) (fun _ _ _ h => h) (by rfl) hHeld ?hy40002 (some 26) (by rfl) ?rest40002
      case hy40002 => (intro W' hSw; (try dsimp only at hSw); go_simp; (try with_reducible rfl))
      try simp only [Act.put]
      try simp only [List.setIfInBounds_toArray]
      try simp only [List.set_cons_succ, List.set_cons_zero]
      refine anyK_take (i := 2) (v := ?v40003) rfl (by kernel_rfl) (by kernel_rfl) (by kernel_rfl) (by kernel_rfl) (fun _ _ _ h => h) (by rfl) hHeld ?hy40003 (some 27) (by rfl) ?rest40003
      case hy40003 => (intro W' hSw; (try dsimp only at hSw); go_simp; (try with_reducible rfl))
      try simp only [Act.put]
      try simp only [List.setIfInBounds_toArray]
      try simp only [List.set_cons_succ, List.set_cons_zero]
      refine anyK_step (i := 3) (by kernel_rfl) rfl (fun K hK => ?_)
      rw [if_pos (by rfl)]
      refine wp_store_row 26 (.tmp 2) (.tmp 25) rfl q #[.int .i64 K1, .int .i64 N1, .float .f64 f1, .slice a1 D1.length q1] rfl rfl 26 _ HQ0.out sizeIt rfl (by simp [Value.oneCell']) ?_
      refine hK.out _ _ ?_ (fun hH2 => ?_)
      · exact S1.out
      clear hK K hHeld
      have hHeld := hH2
      clear hH2
      try simp only [Act.put]
      try simp only [List.setIfInBounds_toArray]
      try simp only [List.set_cons_succ, List.set_cons_zero]
      refine anyK_step (i := 4) (by kernel_rfl) rfl (fun K hK => ?_)
      rw [if_pos (by rfl)]
      refine wp_store_row 26 (.tmp 3) (.tmp 26) rfl (q + 1) #[.int .i64 K2, .int .i64 N2, .float .f64 f2, .slice a2 D2.length q2] rfl rfl 26 _ HP1.out sizeIt rfl (by simp [Value.oneCell']) ?_
      refine hK.out _ _ ?_ (fun hH2 => ?_)
      · exact S2.out
      clear hK K hHeld
      have hHeld := hH2
      clear hH2
      try simp only [Act.put]
      try simp only [List.setIfInBounds_toArray]
      try simp only [List.set_cons_succ, List.set_cons_zero]
      refine anyK_last (by kernel_rfl) rfl (fun K hK => ?_)
      rw [if_pos (by rfl)]
      refine wp_store_row 26 (.tmp 4) (.tmp 27) rfl (q + 1 + 1) #[.int .i64 K3, .int .i64 N3, .float .f64 f3, .slice a3 D3.length q3] rfl rfl 26 _ HP2.out sizeIt rfl (by simp [Value.oneCell']) ?_
      refine hK.out _ _ ?_
      clear hK K hHeld
      refine anyK_done (by kernel_rfl) ?_ _
      go_wp2_with fail
      refine bodyPost_ret (results_cell3 Try.results11 _ _ q (q + 1) (q + 1 + 1) 26 #[.int .i64 K1, .int .i64 N1, .float .f64 f1, .slice a1 D1.length q1] #[.int .i64 K2, .int .i64 N2, .float .f64 f2, .slice a2 D2.length q2] #[.int .i64 K3, .int .i64 N3, .float .f64 f3, .slice a3 D3.length q3] (0, 0) _ rfl rfl rfl HE.out.1 HE.out.2.1 HE.out.2.2 Try.underlying26 rfl sizeIt sizeIt sizeIt) rfl ?_
      exact AN.out
    · have TB3 := hid Bx3.out.box
      have RA := hid Bx3.out.ry
      have TB1 := hid Bx1.out.box
      go_wp2_with (first
        | (refine wpList_load_row rfl 26 (.tmp 8) rfl p3 rfl 26 _ (0, 0) _ TB3.out Try.underlying26 rfl sizeIt ?_))
      have hia : Ia u5s K3 N3 f3 a3 D3.length q3 D3 := RA.out.ia (by omega) hN3 hf3
      refine (spec_l3copy K3 N3 f3 q3 hia.nl hia.rd (by omega)).mono ?_
      rintro e w8 ⟨v8, rfl, o8, b8⟩
      obtain ⟨a8, q8, rfl⟩ := own_form2 o8
      have R8 := Ry.own (z := D3) o8 hia.rd.bd
      replace Bx1 := hid (Bx1.out.fresh (below_grown b8))
      replace Bx2 := hid (Bx2.out.fresh (below_grown b8))
      replace Bx3 := hid (Bx3.out.fresh (below_grown b8))
      replace C3 := hid (C3.out.fresh (below_grown b8))
      have TBx := hid Bx1.out.box
      have Nb := Bx1.out.upd (K' := K3) (N' := N3) (f' := f3) R8
      replace Bx2 := hid (Bx2.out.other TBx.out (by have := HLp12.out; omega) #[.int .i64 K3, .int .i64 N3, .float .f64 f3, .slice a8 D3.length q8])
      replace Bx3 := hid (Bx3.out.other TBx.out (by have := HLp13.out; omega) #[.int .i64 K3, .int .i64 N3, .float .f64 f3, .slice a8 D3.length q8])
      replace C3 := hid (C3.out.row (q := p1) HG1.out #[.int .i64 K3, .int .i64 N3, .float .f64 f3, .slice a8 D3.length q8])
      replace Bx1 := hid Nb
      clear Nb R8 o8 b8 hia RA TB3 TB1
      go_wp2_with (refine wpList_store_row rfl 26 (.tmp 6) _ rfl p1 #[.int .i64 K3, .int .i64 N3, .float .f64 f3, .slice a8 D3.length q8] rfl rfl 26 _ TBx.out ?h1x2 ?h2x2 ?h3x2 ?_)
      case h1x2 => simpa using sizeIt
      try case h2x2 => rfl
      case h3x2 => simp [Value.oneCell']
      clear TBx
      generalize w8.setRow p1 #[.int .i64 K3, .int .i64 N3, .float .f64 f3, .slice a8 D3.length q8] = V8 at *
      replace Bx1 := hid (Bx1.out.still (Still.drew V8))
      replace Bx2 := hid (Bx2.out.still (Still.drew V8))
      replace Bx3 := hid (Bx3.out.still (Still.drew V8))
      replace C3 := hid (C3.out.still (Still.drew V8))
      go_wp2_with fail
      have Q0 : V8.drew.heap[q]? = some (.cells #[.int .i64 0, .int .i64 0, .float .f64 0, .slice none 0 0] 26) := (C3.out.bel.block q (by have := ZU.out; omega)).trans HT.out.1
      have Q1 : V8.drew.heap[q + 1]? = some (.cells #[.int .i64 0, .int .i64 0, .float .f64 0, .slice none 0 0] 26) := (C3.out.bel.block (q + 1) (by have := ZU.out; omega)).trans HT.out.2.1
      have Q2 : V8.drew.heap[q + 1 + 1]? = some (.cells #[.int .i64 0, .int .i64 0, .float .f64 0, .slice none 0 0] 26) := (C3.out.bel.block (q + 1 + 1) (by have := ZU.out; omega)).trans HT.out.2.2
      have hgq : q + 3 ≤ g := by have := ZU.out; have := C3.out.lo; omega
      have P1 : (V8.drew.setRow q #[.int .i64 K3, .int .i64 N3, .float .f64 f3, .slice a8 D3.length q8]).heap[q + 1]? = some (.cells #[.int .i64 0, .int .i64 0, .float .f64 0, .slice none 0 0] 26) := by rw [setRow_other _ _ _ _ (by omega)]; exact Q1
      have P2 : ((V8.drew.setRow q #[.int .i64 K3, .int .i64 N3, .float .f64 f3, .slice a8 D3.length q8]).setRow (q + 1) #[.int .i64 K2, .int .i64 N2, .float .f64 f2, .slice a2 D2.length q2]).heap[q + 1 + 1]? = some (.cells #[.int .i64 0, .int .i64 0, .float .f64 0, .slice none 0 0] 26) := by rw [setRow_other _ _ _ _ (by omega), setRow_other _ _ _ _ (by omega)]; exact Q2
      have y1 := ((Bx1.out.ry.rowed Q0 #[.int .i64 K3, .int .i64 N3, .float .f64 f3, .slice a8 D3.length q8]).rowed P1 #[.int .i64 K2, .int .i64 N2, .float .f64 f2, .slice a2 D2.length q2]).rowed P2 #[.int .i64 K3, .int .i64 N3, .float .f64 f3, .slice a3 D3.length q3]
      have y2 := ((Bx2.out.ry.rowed Q0 #[.int .i64 K3, .int .i64 N3, .float .f64 f3, .slice a8 D3.length q8]).rowed P1 #[.int .i64 K2, .int .i64 N2, .float .f64 f2, .slice a2 D2.length q2]).rowed P2 #[.int .i64 K3, .int .i64 N3, .float .f64 f3, .slice a3 D3.length q3]
      have y3 := ((Bx3.out.ry.rowed Q0 #[.int .i64 K3, .int .i64 N3, .float .f64 f3, .slice a8 D3.length q8]).rowed P1 #[.int .i64 K2, .int .i64 N2, .float .f64 f2, .slice a2 D2.length q2]).rowed P2 #[.int .i64 K3, .int .i64 N3, .float .f64 f3, .slice a3 D3.length q3]
      have E0 : (((V8.drew.setRow q #[.int .i64 K3, .int .i64 N3, .float .f64 f3, .slice a8 D3.length q8]).setRow (q + 1) #[.int .i64 K2, .int .i64 N2, .float .f64 f2, .slice a2 D2.length q2]).setRow (q + 1 + 1) #[.int .i64 K3, .int .i64 N3, .float .f64 f3, .slice a3 D3.length q3]).heap[q]? = some (.cells #[.int .i64 K3, .int .i64 N3, .float .f64 f3, .slice a8 D3.length q8] 26) := by rw [setRow_other _ _ _ _ (by omega), setRow_other _ _ _ _ (by omega)]; exact setRow_heap _ _ _ _ _ _ Q0
      have E1 : (((V8.drew.setRow q #[.int .i64 K3, .int .i64 N3, .float .f64 f3, .slice a8 D3.length q8]).setRow (q + 1) #[.int .i64 K2, .int .i64 N2, .float .f64 f2, .slice a2 D2.length q2]).setRow (q + 1 + 1) #[.int .i64 K3, .int .i64 N3, .float .f64 f3, .slice a3 D3.length q3]).heap[q + 1]? = some (.cells #[.int .i64 K2, .int .i64 N2, .float .f64 f2, .slice a2 D2.length q2] 26) := by rw [setRow_other _ _ _ _ (by omega)]; exact setRow_heap _ _ _ _ _ _ P1
      have E2 : (((V8.drew.setRow q #[.int .i64 K3, .int .i64 N3, .float .f64 f3, .slice a8 D3.length q8]).setRow (q + 1) #[.int .i64 K2, .int .i64 N2, .float .f64 f2, .slice a2 D2.length q2]).setRow (q + 1 + 1) #[.int .i64 K3, .int .i64 N3, .float .f64 f3, .slice a3 D3.length q3]).heap[q + 1 + 1]? = some (.cells #[.int .i64 K3, .int .i64 N3, .float .f64 f3, .slice a3 D3.length q3] 26) := setRow_heap _ _ _ _ _ _ P2
      have bl : Below w.heap.size w V8.drew := by have h1 := HU.out; rw [← HQ.out] at h1; exact h1.trans (C3.out.bel.mono h1.size)
      have AN := hid (show AnsS w (.returned (.tuple #[.agg #[.int .i64 K3, .int .i64 N3, .float .f64 f3, .slice a8 D3.length q8], .agg #[.int .i64 K2, .int .i64 N2, .float .f64 f2, .slice a2 D2.length q2], .agg #[.int .i64 K3, .int .i64 N3, .float .f64 f3, .slice a3 D3.length q3]])) (((V8.drew.setRow q #[.int .i64 K3, .int .i64 N3, .float .f64 f3, .slice a8 D3.length q8]).setRow (q + 1) #[.int .i64 K2, .int .i64 N2, .float .f64 f2, .slice a2 D2.length q2]).setRow (q + 1 + 1) #[.int .i64 K3, .int .i64 N3, .float .f64 f3, .slice a3 D3.length q3]) from ⟨_, _, _, _, _, _, _, _, _, _, _, _, _, _, _, _, _, _, _, _, _, rfl, y1.ia (by omega) hN3 hf3, y2.ia (by omega) hN2 hf2, y3.ia (by omega) hN3 hf3, below_setRow (below_setRow (below_setRow bl (by have := HQ.out; omega) _) (by have := HQ.out; omega) _) (by have := HQ.out; omega) _⟩)
      have HQ0 := hid Q0
      have HP1 := hid P1
      have HP2 := hid P2
      have HE := hid (And.intro E0 (And.intro E1 E2))
      have S0 := hid (show V8.drew.cell? ⟨p1, 0, none⟩ = some (.int .i64 K3) ∧ V8.drew.cell? ⟨p1, 1, none⟩ = some (.int .i64 N3) ∧ V8.drew.cell? ⟨p1, 2, none⟩ = some (.float .f64 f3) ∧ V8.drew.cell? ⟨p1, 3, none⟩ = some (.slice a8 D3.length q8) ∧ V8.drew.cell? ⟨p2, 0, none⟩ = some (.int .i64 K2) ∧ V8.drew.cell? ⟨p2, 1, none⟩ = some (.int .i64 N2) ∧ V8.drew.cell? ⟨p2, 2, none⟩ = some (.float .f64 f2) ∧ V8.drew.cell? ⟨p2, 3, none⟩ = some (.slice a2 D2.length q2) ∧ V8.drew.cell? ⟨p3, 0, none⟩ = some (.int .i64 K3) ∧ V8.drew.cell? ⟨p3, 1, none⟩ = some (.int .i64 N3) ∧ V8.drew.cell? ⟨p3, 2, none⟩ = some (.float .f64 f3) ∧ V8.drew.cell? ⟨p3, 3, none⟩ = some (.slice a3 D3.length q3) from (by have x1 := (Bx1.out).cells; have x2 := (Bx2.out).cells; have x3 := (Bx3.out).cells; exact ⟨x1.1, x1.2.1, x1.2.2.1, x1.2.2.2, x2.1, x2.2.1, x2.2.2.1, x2.2.2.2, x3.1, x3.2.1, x3.2.2.1, x3.2.2.2⟩))
      have S1 := hid (show (V8.drew.setRow q #[.int .i64 K3, .int .i64 N3, .float .f64 f3, .slice a8 D3.length q8]).cell? ⟨p1, 0, none⟩ = some (.int .i64 K3) ∧ (V8.drew.setRow q #[.int .i64 K3, .int .i64 N3, .float .f64 f3, .slice a8 D3.length q8]).cell? ⟨p1, 1, none⟩ = some (.int .i64 N3) ∧ (V8.drew.setRow q #[.int .i64 K3, .int .i64 N3, .float .f64 f3, .slice a8 D3.length q8]).cell? ⟨p1, 2, none⟩ = some (.float .f64 f3) ∧ (V8.drew.setRow q #[.int .i64 K3, .int .i64 N3, .float .f64 f3, .slice a8 D3.length q8]).cell? ⟨p1, 3, none⟩ = some (.slice a8 D3.length q8) ∧ (V8.drew.setRow q #[.int .i64 K3, .int .i64 N3, .float .f64 f3, .slice a8 D3.length q8]).cell? ⟨p2, 0, none⟩ = some (.int .i64 K2) ∧ (V8.drew.setRow q #[.int .i64 K3, .int .i64 N3, .float .f64 f3, .slice a8 D3.length q8]).cell? ⟨p2, 1, none⟩ = some (.int .i64 N2) ∧ (V8.drew.setRow q #[.int .i64 K3, .int .i64 N3, .float .f64 f3, .slice a8 D3.length q8]).cell? ⟨p2, 2, none⟩ = some (.float .f64 f2) ∧ (V8.drew.setRow q #[.int .i64 K3, .int .i64 N3, .float .f64 f3, .slice a8 D3.length q8]).cell? ⟨p2, 3, none⟩ = some (.slice a2 D2.length q2) ∧ (V8.drew.setRow q #[.int .i64 K3, .int .i64 N3, .float .f64 f3, .slice a8 D3.length q8]).cell? ⟨p3, 0, none⟩ = some (.int .i64 K3) ∧ (V8.drew.setRow q #[.int .i64 K3, .int .i64 N3, .float .f64 f3, .slice a8 D3.length q8]).cell? ⟨p3, 1, none⟩ = some (.int .i64 N3) ∧ (V8.drew.setRow q #[.int .i64 K3, .int .i64 N3, .float .f64 f3, .slice a8 D3.length q8]).cell? ⟨p3, 2, none⟩ = some (.float .f64 f3) ∧ (V8.drew.setRow q #[.int .i64 K3, .int .i64 N3, .float .f64 f3, .slice a8 D3.length q8]).cell? ⟨p3, 3, none⟩ = some (.slice a3 D3.length q3) from (by have x1 := (Bx1.out.other Q0 (by have := HG1.out; omega) #[.int .i64 K3, .int .i64 N3, .float .f64 f3, .slice a8 D3.length q8]).cells; have x2 := (Bx2.out.other Q0 (by have := HG2.out; omega) #[.int .i64 K3, .int .i64 N3, .float .f64 f3, .slice a8 D3.length q8]).cells; have x3 := (Bx3.out.other Q0 (by have := HG3.out; omega) #[.int .i64 K3, .int .i64 N3, .float .f64 f3, .slice a8 D3.length q8]).cells; exact ⟨x1.1, x1.2.1, x1.2.2.1, x1.2.2.2, x2.1, x2.2.1, x2.2.2.1, x2.2.2.2, x3.1, x3.2.1, x3.2.2.1, x3.2.2.2⟩))
      have S2 := hid (show ((V8.drew.setRow q #[.int .i64 K3, .int .i64 N3, .float .f64 f3, .slice a8 D3.length q8]).setRow (q + 1) #[.int .i64 K2, .int .i64 N2, .float .f64 f2, .slice a2 D2.length q2]).cell? ⟨p1, 0, none⟩ = some (.int .i64 K3) ∧ ((V8.drew.setRow q #[.int .i64 K3, .int .i64 N3, .float .f64 f3, .slice a8 D3.length q8]).setRow (q + 1) #[.int .i64 K2, .int .i64 N2, .float .f64 f2, .slice a2 D2.length q2]).cell? ⟨p1, 1, none⟩ = some (.int .i64 N3) ∧ ((V8.drew.setRow q #[.int .i64 K3, .int .i64 N3, .float .f64 f3, .slice a8 D3.length q8]).setRow (q + 1) #[.int .i64 K2, .int .i64 N2, .float .f64 f2, .slice a2 D2.length q2]).cell? ⟨p1, 2, none⟩ = some (.float .f64 f3) ∧ ((V8.drew.setRow q #[.int .i64 K3, .int .i64 N3, .float .f64 f3, .slice a8 D3.length q8]).setRow (q + 1) #[.int .i64 K2, .int .i64 N2, .float .f64 f2, .slice a2 D2.length q2]).cell? ⟨p1, 3, none⟩ = some (.slice a8 D3.length q8) ∧ ((V8.drew.setRow q #[.int .i64 K3, .int .i64 N3, .float .f64 f3, .slice a8 D3.length q8]).setRow (q + 1) #[.int .i64 K2, .int .i64 N2, .float .f64 f2, .slice a2 D2.length q2]).cell? ⟨p2, 0, none⟩ = some (.int .i64 K2) ∧ ((V8.drew.setRow q #[.int .i64 K3, .int .i64 N3, .float .f64 f3, .slice a8 D3.length q8]).setRow (q + 1) #[.int .i64 K2, .int .i64 N2, .float .f64 f2, .slice a2 D2.length q2]).cell? ⟨p2, 1, none⟩ = some (.int .i64 N2) ∧ ((V8.drew.setRow q #[.int .i64 K3, .int .i64 N3, .float .f64 f3, .slice a8 D3.length q8]).setRow (q + 1) #[.int .i64 K2, .int .i64 N2, .float .f64 f2, .slice a2 D2.length q2]).cell? ⟨p2, 2, none⟩ = some (.float .f64 f2) ∧ ((V8.drew.setRow q #[.int .i64 K3, .int .i64 N3, .float .f64 f3, .slice a8 D3.length q8]).setRow (q + 1) #[.int .i64 K2, .int .i64 N2, .float .f64 f2, .slice a2 D2.length q2]).cell? ⟨p2, 3, none⟩ = some (.slice a2 D2.length q2) ∧ ((V8.drew.setRow q #[.int .i64 K3, .int .i64 N3, .float .f64 f3, .slice a8 D3.length q8]).setRow (q + 1) #[.int .i64 K2, .int .i64 N2, .float .f64 f2, .slice a2 D2.length q2]).cell? ⟨p3, 0, none⟩ = some (.int .i64 K3) ∧ ((V8.drew.setRow q #[.int .i64 K3, .int .i64 N3, .float .f64 f3, .slice a8 D3.length q8]).setRow (q + 1) #[.int .i64 K2, .int .i64 N2, .float .f64 f2, .slice a2 D2.length q2]).cell? ⟨p3, 1, none⟩ = some (.int .i64 N3) ∧ ((V8.drew.setRow q #[.int .i64 K3, .int .i64 N3, .float .f64 f3, .slice a8 D3.length q8]).setRow (q + 1) #[.int .i64 K2, .int .i64 N2, .float .f64 f2, .slice a2 D2.length q2]).cell? ⟨p3, 2, none⟩ = some (.float .f64 f3) ∧ ((V8.drew.setRow q #[.int .i64 K3, .int .i64 N3, .float .f64 f3, .slice a8 D3.length q8]).setRow (q + 1) #[.int .i64 K2, .int .i64 N2, .float .f64 f2, .slice a2 D2.length q2]).cell? ⟨p3, 3, none⟩ = some (.slice a3 D3.length q3) from (by have x1 := ((Bx1.out.other Q0 (by have := HG1.out; omega) #[.int .i64 K3, .int .i64 N3, .float .f64 f3, .slice a8 D3.length q8]).other P1 (by have := HG1.out; omega) #[.int .i64 K2, .int .i64 N2, .float .f64 f2, .slice a2 D2.length q2]).cells; have x2 := ((Bx2.out.other Q0 (by have := HG2.out; omega) #[.int .i64 K3, .int .i64 N3, .float .f64 f3, .slice a8 D3.length q8]).other P1 (by have := HG2.out; omega) #[.int .i64 K2, .int .i64 N2, .float .f64 f2, .slice a2 D2.length q2]).cells; have x3 := ((Bx3.out.other Q0 (by have := HG3.out; omega) #[.int .i64 K3, .int .i64 N3, .float .f64 f3, .slice a8 D3.length q8]).other P1 (by have := HG3.out; omega) #[.int .i64 K2, .int .i64 N2, .float .f64 f2, .slice a2 D2.length q2]).cells; exact ⟨x1.1, x1.2.1, x1.2.2.1, x1.2.2.2, x2.1, x2.2.1, x2.2.2.1, x2.2.2.2, x3.1, x3.2.1, x3.2.2.1, x3.2.2.2⟩))
      clear Q0 Q1 Q2 P1 P2 y1 y2 y3 E0 E1 E2 bl Bx1 Bx2 Bx3 C3
      refine region_K 5 (fun X => X.cell? ⟨p1, 0, none⟩ = some (.int .i64 K3) ∧ X.cell? ⟨p1, 1, none⟩ = some (.int .i64 N3) ∧ X.cell? ⟨p1, 2, none⟩ = some (.float .f64 f3) ∧ X.cell? ⟨p1, 3, none⟩ = some (.slice a8 D3.length q8) ∧ X.cell? ⟨p2, 0, none⟩ = some (.int .i64 K2) ∧ X.cell? ⟨p2, 1, none⟩ = some (.int .i64 N2) ∧ X.cell? ⟨p2, 2, none⟩ = some (.float .f64 f2) ∧ X.cell? ⟨p2, 3, none⟩ = some (.slice a2 D2.length q2) ∧ X.cell? ⟨p3, 0, none⟩ = some (.int .i64 K3) ∧ X.cell? ⟨p3, 1, none⟩ = some (.int .i64 N3) ∧ X.cell? ⟨p3, 2, none⟩ = some (.float .f64 f3) ∧ X.cell? ⟨p3, 3, none⟩ = some (.slice a3 D3.length q3)) (by kernel_rfl) ?_ (fun hHeld => ?_)
      · exact S0.out
      refine anyK_take (i := 0) (v := ?v40004) rfl (by kernel_rfl) (by kernel_rfl) (by kernel_rfl) (by kernel_rfl) (fun _ _ _ h => h) (by rfl) hHeld ?hy40004 (some 25) (by rfl) ?rest40004
      case hy40004 => (intro W' hSw; (try dsimp only at hSw); go_simp; (try with_reducible rfl))
      try simp only [Act.put]
      try simp only [List.setIfInBounds_toArray]
      try simp only [List.set_cons_succ, List.set_cons_zero]
      refine anyK_take (i := 1) (v := ?v40005) rfl (by kernel_rfl) (by kernel_rfl) (by kernel_rfl) (by kernel_rfl) (fun _ _ _ h => h) (by rfl) hHeld ?hy40005 (some 26) (by rfl) ?rest40005
      case hy40005 => (intro W' hSw; (try dsimp only at hSw); go_simp; (try with_reducible rfl))
      try simp only [Act.put]
      try simp only [List.setIfInBounds_toArray]
      try simp only [List.set_cons_succ, List.set_cons_zero]
      refine anyK_take (i := 2) (v := ?v40006) rfl (by kernel_rfl) (by kernel_rfl) (by kernel_rfl) (by kernel_rfl) (fun _ _ _ h => h) (by rfl) hHeld ?hy40006 (some 27) (by rfl) ?rest40006
      case hy40006 => (intro W' hSw; (try dsimp only at hSw); go_simp; (try with_reducible rfl))
      try simp only [Act.put]
      try simp only [List.setIfInBounds_toArray]
      try simp only [List.set_cons_succ, List.set_cons_zero]
      refine anyK_step (i := 3) (by kernel_rfl) rfl (fun K hK => ?_)
      rw [if_pos (by rfl)]
      refine wp_store_row 26 (.tmp 2) (.tmp 25) rfl q #[.int .i64 K3, .int .i64 N3, .float .f64 f3, .slice a8 D3.length q8] rfl rfl 26 _ HQ0.out sizeIt rfl (by simp [Value.oneCell']) ?_
      refine hK.out _ _ ?_ (fun hH2 => ?_)
      · exact S1.out
      clear hK K hHeld
      have hHeld := hH2
      clear hH2
      try simp only [Act.put]
      try simp only [List.setIfInBounds_toArray]
      try simp only [List.set_cons_succ, List.set_cons_zero]
      refine anyK_step (i := 4) (by kernel_rfl) rfl (fun K hK => ?_)
      rw [if_pos (by rfl)]
      refine wp_store_row 26 (.tmp 3) (.tmp 26) rfl (q + 1) #[.int .i64 K2, .int .i64 N2, .float .f64 f2, .slice a2 D2.length q2] rfl rfl 26 _ HP1.out sizeIt rfl (by simp [Value.oneCell']) ?_
      refine hK.out _ _ ?_ (fun hH2 => ?_)
      · exact S2.out
      clear hK K hHeld
      have hHeld := hH2
      clear hH2
      try simp only [Act.put]
      try simp only [List.setIfInBounds_toArray]
      try simp only [List.set_cons_succ, List.set_cons_zero]
      refine anyK_last (by kernel_rfl) rfl (fun K hK => ?_)
      rw [if_pos (by rfl)]
      refine wp_store_row 26 (.tmp 4) (.tmp 27) rfl (q + 1 + 1) #[.int .i64 K3, .int .i64 N3, .float .f64 f3, .slice a3 D3.length q3] rfl rfl 26 _ HP2.out sizeIt rfl (by simp [Value.oneCell']) ?_
      refine hK.out _ _ ?_
      clear hK K hHeld
      refine anyK_done (by kernel_rfl) ?_ _
      go_wp2_with fail
      refine bodyPost_ret (results_cell3 Try.results11 _ _ q (q + 1) (q + 1 + 1) 26 #[.int .i64 K3, .int .i64 N3, .float .f64 f3, .slice a8 D3.length q8] #[.int .i64 K2, .int .i64 N2, .float .f64 f2, .slice a2 D2.length q2] #[.int .i64 K3, .int .i64 N3, .float .f64 f3, .slice a3 D3.length q3] (0, 0) _ rfl rfl rfl HE.out.1 HE.out.2.1 HE.out.2.2 Try.underlying26 rfl sizeIt sizeIt sizeIt) rfl ?_
      exact AN.out
  · go_wp2_with fail
    refine (l3any C3.out.cur hn).mono ?_
    rintro e w4 ⟨K4, N4, f4, v4, D4, rfl, o4, bd4, hD4, hN4, hf4, c, gg⟩
    obtain ⟨a4, q4, rfl⟩ := own_form2 o4
    replace Bx1 := hid (Bx1.out.cur C3.out.cur gg)
    replace Bx2 := hid (Bx2.out.cur C3.out.cur gg)
    replace Bx3 := hid (Bx3.out.cur C3.out.cur gg)
    replace C3 := hid (C3.out.move c gg)
    have TB := hid Bx3.out.box
    have Nb := Bx3.out.upd (K' := K4) (N' := N4) (f' := f4) (Ry.own o4 bd4)
    replace Bx1 := hid (Bx1.out.other TB.out (by have := HLp13.out; omega) #[.int .i64 K4, .int .i64 N4, .float .f64 f4, .slice a4 D4.length q4])
    replace Bx2 := hid (Bx2.out.other TB.out (by have := HLp23.out; omega) #[.int .i64 K4, .int .i64 N4, .float .f64 f4, .slice a4 D4.length q4])
    replace C3 := hid (C3.out.row (q := p3) HG3.out #[.int .i64 K4, .int .i64 N4, .float .f64 f4, .slice a4 D4.length q4])
    replace Bx3 := hid Nb
    clear Nb o4 bd4 c gg
    go_wp2_with (refine wpList_store_row rfl 26 (.tmp 8) _ rfl p3 #[.int .i64 K4, .int .i64 N4, .float .f64 f4, .slice a4 D4.length q4] rfl rfl 26 _ TB.out ?k1 ?k2 ?k3 ?_)
    case k1 => simpa using sizeIt
    try case k2 => rfl
    case k3 => simp [Value.oneCell']
    clear TB
    generalize w4.setRow p3 #[.int .i64 K4, .int .i64 N4, .float .f64 f4, .slice a4 D4.length q4] = V4 at *
    refine (l1Once C3.out.cur hn 6 (by omega) (by omega)).mono ?_
    rintro e u6s ⟨bb, rfl, c, gg⟩
    replace Bx1 := hid (Bx1.out.cur C3.out.cur gg)
    replace Bx2 := hid (Bx2.out.cur C3.out.cur gg)
    replace Bx3 := hid (Bx3.out.cur C3.out.cur gg)
    replace C3 := hid (C3.out.move c gg)
    clear c gg
    cases bb
    · skip
      replace Bx1 := hid (Bx1.out.still (Still.drew u6s))
      replace Bx2 := hid (Bx2.out.still (Still.drew u6s))
      replace Bx3 := hid (Bx3.out.still (Still.drew u6s))
      replace C3 := hid (C3.out.still (Still.drew u6s))
      go_wp2_with fail
      have Q0 : u6s.drew.heap[q]? = some (.cells #[.int .i64 0, .int .i64 0, .float .f64 0, .slice none 0 0] 26) := (C3.out.bel.block q (by have := ZU.out; omega)).trans HT.out.1
      have Q1 : u6s.drew.heap[q + 1]? = some (.cells #[.int .i64 0, .int .i64 0, .float .f64 0, .slice none 0 0] 26) := (C3.out.bel.block (q + 1) (by have := ZU.out; omega)).trans HT.out.2.1
      have Q2 : u6s.drew.heap[q + 1 + 1]? = some (.cells #[.int .i64 0, .int .i64 0, .float .f64 0, .slice none 0 0] 26) := (C3.out.bel.block (q + 1 + 1) (by have := ZU.out; omega)).trans HT.out.2.2
      have hgq : q + 3 ≤ g := by have := ZU.out; have := C3.out.lo; omega
      have P1 : (u6s.drew.setRow q #[.int .i64 K1, .int .i64 N1, .float .f64 f1, .slice a1 D1.length q1]).heap[q + 1]? = some (.cells #[.int .i64 0, .int .i64 0, .float .f64 0, .slice none 0 0] 26) := by rw [setRow_other _ _ _ _ (by omega)]; exact Q1
      have P2 : ((u6s.drew.setRow q #[.int .i64 K1, .int .i64 N1, .float .f64 f1, .slice a1 D1.length q1]).setRow (q + 1) #[.int .i64 K2, .int .i64 N2, .float .f64 f2, .slice a2 D2.length q2]).heap[q + 1 + 1]? = some (.cells #[.int .i64 0, .int .i64 0, .float .f64 0, .slice none 0 0] 26) := by rw [setRow_other _ _ _ _ (by omega), setRow_other _ _ _ _ (by omega)]; exact Q2
      have y1 := ((Bx1.out.ry.rowed Q0 #[.int .i64 K1, .int .i64 N1, .float .f64 f1, .slice a1 D1.length q1]).rowed P1 #[.int .i64 K2, .int .i64 N2, .float .f64 f2, .slice a2 D2.length q2]).rowed P2 #[.int .i64 K4, .int .i64 N4, .float .f64 f4, .slice a4 D4.length q4]
      have y2 := ((Bx2.out.ry.rowed Q0 #[.int .i64 K1, .int .i64 N1, .float .f64 f1, .slice a1 D1.length q1]).rowed P1 #[.int .i64 K2, .int .i64 N2, .float .f64 f2, .slice a2 D2.length q2]).rowed P2 #[.int .i64 K4, .int .i64 N4, .float .f64 f4, .slice a4 D4.length q4]
      have y3 := ((Bx3.out.ry.rowed Q0 #[.int .i64 K1, .int .i64 N1, .float .f64 f1, .slice a1 D1.length q1]).rowed P1 #[.int .i64 K2, .int .i64 N2, .float .f64 f2, .slice a2 D2.length q2]).rowed P2 #[.int .i64 K4, .int .i64 N4, .float .f64 f4, .slice a4 D4.length q4]
      have E0 : (((u6s.drew.setRow q #[.int .i64 K1, .int .i64 N1, .float .f64 f1, .slice a1 D1.length q1]).setRow (q + 1) #[.int .i64 K2, .int .i64 N2, .float .f64 f2, .slice a2 D2.length q2]).setRow (q + 1 + 1) #[.int .i64 K4, .int .i64 N4, .float .f64 f4, .slice a4 D4.length q4]).heap[q]? = some (.cells #[.int .i64 K1, .int .i64 N1, .float .f64 f1, .slice a1 D1.length q1] 26) := by rw [setRow_other _ _ _ _ (by omega), setRow_other _ _ _ _ (by omega)]; exact setRow_heap _ _ _ _ _ _ Q0
      have E1 : (((u6s.drew.setRow q #[.int .i64 K1, .int .i64 N1, .float .f64 f1, .slice a1 D1.length q1]).setRow (q + 1) #[.int .i64 K2, .int .i64 N2, .float .f64 f2, .slice a2 D2.length q2]).setRow (q + 1 + 1) #[.int .i64 K4, .int .i64 N4, .float .f64 f4, .slice a4 D4.length q4]).heap[q + 1]? = some (.cells #[.int .i64 K2, .int .i64 N2, .float .f64 f2, .slice a2 D2.length q2] 26) := by rw [setRow_other _ _ _ _ (by omega)]; exact setRow_heap _ _ _ _ _ _ P1
      have E2 : (((u6s.drew.setRow q #[.int .i64 K1, .int .i64 N1, .float .f64 f1, .slice a1 D1.length q1]).setRow (q + 1) #[.int .i64 K2, .int .i64 N2, .float .f64 f2, .slice a2 D2.length q2]).setRow (q + 1 + 1) #[.int .i64 K4, .int .i64 N4, .float .f64 f4, .slice a4 D4.length q4]).heap[q + 1 + 1]? = some (.cells #[.int .i64 K4, .int .i64 N4, .float .f64 f4, .slice a4 D4.length q4] 26) := setRow_heap _ _ _ _ _ _ P2
      have bl : Below w.heap.size w u6s.drew := by have h1 := HU.out; rw [← HQ.out] at h1; exact h1.trans (C3.out.bel.mono h1.size)
      have AN := hid (show AnsS w (.returned (.tuple #[.agg #[.int .i64 K1, .int .i64 N1, .float .f64 f1, .slice a1 D1.length q1], .agg #[.int .i64 K2, .int .i64 N2, .float .f64 f2, .slice a2 D2.length q2], .agg #[.int .i64 K4, .int .i64 N4, .float .f64 f4, .slice a4 D4.length q4]])) (((u6s.drew.setRow q #[.int .i64 K1, .int .i64 N1, .float .f64 f1, .slice a1 D1.length q1]).setRow (q + 1) #[.int .i64 K2, .int .i64 N2, .float .f64 f2, .slice a2 D2.length q2]).setRow (q + 1 + 1) #[.int .i64 K4, .int .i64 N4, .float .f64 f4, .slice a4 D4.length q4]) from ⟨_, _, _, _, _, _, _, _, _, _, _, _, _, _, _, _, _, _, _, _, _, rfl, y1.ia (by omega) hN1 hf1, y2.ia (by omega) hN2 hf2, y3.ia (by omega) hN4 hf4, below_setRow (below_setRow (below_setRow bl (by have := HQ.out; omega) _) (by have := HQ.out; omega) _) (by have := HQ.out; omega) _⟩)
      have HQ0 := hid Q0
      have HP1 := hid P1
      have HP2 := hid P2
      have HE := hid (And.intro E0 (And.intro E1 E2))
      have S0 := hid (show u6s.drew.cell? ⟨p1, 0, none⟩ = some (.int .i64 K1) ∧ u6s.drew.cell? ⟨p1, 1, none⟩ = some (.int .i64 N1) ∧ u6s.drew.cell? ⟨p1, 2, none⟩ = some (.float .f64 f1) ∧ u6s.drew.cell? ⟨p1, 3, none⟩ = some (.slice a1 D1.length q1) ∧ u6s.drew.cell? ⟨p2, 0, none⟩ = some (.int .i64 K2) ∧ u6s.drew.cell? ⟨p2, 1, none⟩ = some (.int .i64 N2) ∧ u6s.drew.cell? ⟨p2, 2, none⟩ = some (.float .f64 f2) ∧ u6s.drew.cell? ⟨p2, 3, none⟩ = some (.slice a2 D2.length q2) ∧ u6s.drew.cell? ⟨p3, 0, none⟩ = some (.int .i64 K4) ∧ u6s.drew.cell? ⟨p3, 1, none⟩ = some (.int .i64 N4) ∧ u6s.drew.cell? ⟨p3, 2, none⟩ = some (.float .f64 f4) ∧ u6s.drew.cell? ⟨p3, 3, none⟩ = some (.slice a4 D4.length q4) from (by have x1 := (Bx1.out).cells; have x2 := (Bx2.out).cells; have x3 := (Bx3.out).cells; exact ⟨x1.1, x1.2.1, x1.2.2.1, x1.2.2.2, x2.1, x2.2.1, x2.2.2.1, x2.2.2.2, x3.1, x3.2.1, x3.2.2.1, x3.2.2.2⟩))
      have S1 := hid (show (u6s.drew.setRow q #[.int .i64 K1, .int .i64 N1, .float .f64 f1, .slice a1 D1.length q1]).cell? ⟨p1, 0, none⟩ = some (.int .i64 K1) ∧ (u6s.drew.setRow q #[.int .i64 K1, .int .i64 N1, .float .f64 f1, .slice a1 D1.length q1]).cell? ⟨p1, 1, none⟩ = some (.int .i64 N1) ∧ (u6s.drew.setRow q #[.int .i64 K1, .int .i64 N1, .float .f64 f1, .slice a1 D1.length q1]).cell? ⟨p1, 2, none⟩ = some (.float .f64 f1) ∧ (u6s.drew.setRow q #[.int .i64 K1, .int .i64 N1, .float .f64 f1, .slice a1 D1.length q1]).cell? ⟨p1, 3, none⟩ = some (.slice a1 D1.length q1) ∧ (u6s.drew.setRow q #[.int .i64 K1, .int .i64 N1, .float .f64 f1, .slice a1 D1.length q1]).cell? ⟨p2, 0, none⟩ = some (.int .i64 K2) ∧ (u6s.drew.setRow q #[.int .i64 K1, .int .i64 N1, .float .f64 f1, .slice a1 D1.length q1]).cell? ⟨p2, 1, none⟩ = some (.int .i64 N2) ∧ (u6s.drew.setRow q #[.int .i64 K1, .int .i64 N1, .float .f64 f1, .slice a1 D1.length q1]).cell? ⟨p2, 2, none⟩ = some (.float .f64 f2) ∧ (u6s.drew.setRow q #[.int .i64 K1, .int .i64 N1, .float .f64 f1, .slice a1 D1.length q1]).cell? ⟨p2, 3, none⟩ = some (.slice a2 D2.length q2) ∧ (u6s.drew.setRow q #[.int .i64 K1, .int .i64 N1, .float .f64 f1, .slice a1 D1.length q1]).cell? ⟨p3, 0, none⟩ = some (.int .i64 K4) ∧ (u6s.drew.setRow q #[.int .i64 K1, .int .i64 N1, .float .f64 f1, .slice a1 D1.length q1]).cell? ⟨p3, 1, none⟩ = some (.int .i64 N4) ∧ (u6s.drew.setRow q #[.int .i64 K1, .int .i64 N1, .float .f64 f1, .slice a1 D1.length q1]).cell? ⟨p3, 2, none⟩ = some (.float .f64 f4) ∧ (u6s.drew.setRow q #[.int .i64 K1, .int .i64 N1, .float .f64 f1, .slice a1 D1.length q1]).cell? ⟨p3, 3, none⟩ = some (.slice a4 D4.length q4) from (by have x1 := (Bx1.out.other Q0 (by have := HG1.out; omega) #[.int .i64 K1, .int .i64 N1, .float .f64 f1, .slice a1 D1.length q1]).cells; have x2 := (Bx2.out.other Q0 (by have := HG2.out; omega) #[.int .i64 K1, .int .i64 N1, .float .f64 f1, .slice a1 D1.length q1]).cells; have x3 := (Bx3.out.other Q0 (by have := HG3.out; omega) #[.int .i64 K1, .int .i64 N1, .float .f64 f1, .slice a1 D1.length q1]).cells; exact ⟨x1.1, x1.2.1, x1.2.2.1, x1.2.2.2, x2.1, x2.2.1, x2.2.2.1, x2.2.2.2, x3.1, x3.2.1, x3.2.2.1, x3.2.2.2⟩))
      have S2 := hid (show ((u6s.drew.setRow q #[.int .i64 K1, .int .i64 N1, .float .f64 f1, .slice a1 D1.length q1]).setRow (q + 1) #[.int .i64 K2, .int .i64 N2, .float .f64 f2, .slice a2 D2.length q2]).cell? ⟨p1, 0, none⟩ = some (.int .i64 K1) ∧ ((u6s.drew.setRow q #[.int .i64 K1, .int .i64 N1, .float .f64 f1, .slice a1 D1.length q1]).setRow (q + 1) #[.int .i64 K2, .int .i64 N2, .float .f64 f2, .slice a2 D2.length q2]).cell? ⟨p1, 1, none⟩ = some (.int .i64 N1) ∧ ((u6s.drew.setRow q #[.int .i64 K1, .int .i64 N1, .float .f64 f1, .slice a1 D1.length q1]).setRow (q + 1) #[.int .i64 K2, .int .i64 N2, .float .f64 f2, .slice a2 D2.length q2]).cell? ⟨p1, 2, none⟩ = some (.float .f64 f1) ∧ ((u6s.drew.setRow q #[.int .i64 K1, .int .i64 N1, .float .f64 f1, .slice a1 D1.length q1]).setRow (q + 1) #[.int .i64 K2, .int .i64 N2, .float .f64 f2, .slice a2 D2.length q2]).cell? ⟨p1, 3, none⟩ = some (.slice a1 D1.length q1) ∧ ((u6s.drew.setRow q #[.int .i64 K1, .int .i64 N1, .float .f64 f1, .slice a1 D1.length q1]).setRow (q + 1) #[.int .i64 K2, .int .i64 N2, .float .f64 f2, .slice a2 D2.length q2]).cell? ⟨p2, 0, none⟩ = some (.int .i64 K2) ∧ ((u6s.drew.setRow q #[.int .i64 K1, .int .i64 N1, .float .f64 f1, .slice a1 D1.length q1]).setRow (q + 1) #[.int .i64 K2, .int .i64 N2, .float .f64 f2, .slice a2 D2.length q2]).cell? ⟨p2, 1, none⟩ = some (.int .i64 N2) ∧ ((u6s.drew.setRow q #[.int .i64 K1, .int .i64 N1, .float .f64 f1, .slice a1 D1.length q1]).setRow (q + 1) #[.int .i64 K2, .int .i64 N2, .float .f64 f2, .slice a2 D2.length q2]).cell? ⟨p2, 2, none⟩ = some (.float .f64 f2) ∧ ((u6s.drew.setRow q #[.int .i64 K1, .int .i64 N1, .float .f64 f1, .slice a1 D1.length q1]).setRow (q + 1) #[.int .i64 K2, .int .i64 N2, .float .f64 f2, .slice a2 D2.length q2]).cell? ⟨p2, 3, none⟩ = some (.slice a2 D2.length q2) ∧ ((u6s.drew.setRow q #[.int .i64 K1, .int .i64 N1, .float .f64 f1, .slice a1 D1.length q1]).setRow (q + 1) #[.int .i64 K2, .int .i64 N2, .float .f64 f2, .slice a2 D2.length q2]).cell? ⟨p3, 0, none⟩ = some (.int .i64 K4) ∧ ((u6s.drew.setRow q #[.int .i64 K1, .int .i64 N1, .float .f64 f1, .slice a1 D1.length q1]).setRow (q + 1) #[.int .i64 K2, .int .i64 N2, .float .f64 f2, .slice a2 D2.length q2]).cell? ⟨p3, 1, none⟩ = some (.int .i64 N4) ∧ ((u6s.drew.setRow q #[.int .i64 K1, .int .i64 N1, .float .f64 f1, .slice a1 D1.length q1]).setRow (q + 1) #[.int .i64 K2, .int .i64 N2, .float .f64 f2, .slice a2 D2.length q2]).cell? ⟨p3, 2, none⟩ = some (.float .f64 f4) ∧ ((u6s.drew.setRow q #[.int .i64 K1, .int .i64 N1, .float .f64 f1, .slice a1 D1.length q1]).setRow (q + 1) #[.int .i64 K2, .int .i64 N2, .float .f64 f2, .slice a2 D2.length q2]).cell? ⟨p3, 3, none⟩ = some (.slice a4 D4.length q4) from (by have x1 := ((Bx1.out.other Q0 (by have := HG1.out; omega) #[.int .i64 K1, .int .i64 N1, .float .f64 f1, .slice a1 D1.length q1]).other P1 (by have := HG1.out; omega) #[.int .i64 K2, .int .i64 N2, .float .f64 f2, .slice a2 D2.length q2]).cells; have x2 := ((Bx2.out.other Q0 (by have := HG2.out; omega) #[.int .i64 K1, .int .i64 N1, .float .f64 f1, .slice a1 D1.length q1]).other P1 (by have := HG2.out; omega) #[.int .i64 K2, .int .i64 N2, .float .f64 f2, .slice a2 D2.length q2]).cells; have x3 := ((Bx3.out.other Q0 (by have := HG3.out; omega) #[.int .i64 K1, .int .i64 N1, .float .f64 f1, .slice a1 D1.length q1]).other P1 (by have := HG3.out; omega) #[.int .i64 K2, .int .i64 N2, .float .f64 f2, .slice a2 D2.length q2]).cells; exact ⟨x1.1, x1.2.1, x1.2.2.1, x1.2.2.2, x2.1, x2.2.1, x2.2.2.1, x2.2.2.2, x3.1, x3.2.1, x3.2.2.1, x3.2.2.2⟩))
      clear Q0 Q1 Q2 P1 P2 y1 y2 y3 E0 E1 E2 bl Bx1 Bx2 Bx3 C3
      refine region_K 5 (fun X => X.cell? ⟨p1, 0, none⟩ = some (.int .i64 K1) ∧ X.cell? ⟨p1, 1, none⟩ = some (.int .i64 N1) ∧ X.cell? ⟨p1, 2, none⟩ = some (.float .f64 f1) ∧ X.cell? ⟨p1, 3, none⟩ = some (.slice a1 D1.length q1) ∧ X.cell? ⟨p2, 0, none⟩ = some (.int .i64 K2) ∧ X.cell? ⟨p2, 1, none⟩ = some (.int .i64 N2) ∧ X.cell? ⟨p2, 2, none⟩ = some (.float .f64 f2) ∧ X.cell? ⟨p2, 3, none⟩ = some (.slice a2 D2.length q2) ∧ X.cell? ⟨p3, 0, none⟩ = some (.int .i64 K4) ∧ X.cell? ⟨p3, 1, none⟩ = some (.int .i64 N4) ∧ X.cell? ⟨p3, 2, none⟩ = some (.float .f64 f4) ∧ X.cell? ⟨p3, 3, none⟩ = some (.slice a4 D4.length q4)) (by kernel_rfl) ?_ (fun hHeld => ?_)
      · exact S0.out
      refine anyK_take (i := 0) (v := ?v40007) rfl (by kernel_rfl) (by kernel_rfl) (by kernel_rfl) (by kernel_rfl) (fun _ _ _ h => h) (by rfl) hHeld ?hy40007 (some 25) (by rfl) ?rest40007
      case hy40007 => (intro W' hSw; (try dsimp only at hSw); go_simp; (try with_reducible rfl))
      try simp only [Act.put]
      try simp only [List.setIfInBounds_toArray]
      try simp only [List.set_cons_succ, List.set_cons_zero]
      refine anyK_take (i := 1) (v := ?v40008) rfl (by kernel_rfl) (by kernel_rfl) (by kernel_rfl) (by kernel_rfl) (fun _ _ _ h => h) (by rfl) hHeld ?hy40008 (some 26) (by rfl) ?rest40008
      case hy40008 => (intro W' hSw; (try dsimp only at hSw); go_simp; (try with_reducible rfl))
      try simp only [Act.put]
      try simp only [List.setIfInBounds_toArray]
      try simp only [List.set_cons_succ, List.set_cons_zero]
      refine anyK_take (i := 2) (v := ?v40009) rfl (by kernel_rfl) (by kernel_rfl) (by kernel_rfl) (by kernel_rfl) (fun _ _ _ h => h) (by rfl) hHeld ?hy40009 (some 27) (by rfl) ?rest40009
      case hy40009 => (intro W' hSw; (try dsimp only at hSw); go_simp; (try with_reducible rfl))
      try simp only [Act.put]
      try simp only [List.setIfInBounds_toArray]
      try simp only [List.set_cons_succ, List.set_cons_zero]
      refine anyK_step (i := 3) (by kernel_rfl) rfl (fun K hK => ?_)
      rw [if_pos (by rfl)]
      refine wp_store_row 26 (.tmp 2) (.tmp 25) rfl q #[.int .i64 K1, .int .i64 N1, .float .f64 f1, .slice a1 D1.length q1] rfl rfl 26 _ HQ0.out sizeIt rfl (by simp [Value.oneCell']) ?_
      refine hK.out _ _ ?_ (fun hH2 => ?_)
      · exact S1.out
      clear hK K hHeld
      have hHeld := hH2
      clear hH2
      try simp only [Act.put]
      try simp only [List.setIfInBounds_toArray]
      try simp only [List.set_cons_succ, List.set_cons_zero]
      refine anyK_step (i := 4) (by kernel_rfl) rfl (fun K hK => ?_)
      rw [if_pos (by rfl)]
      refine wp_store_row 26 (.tmp 3) (.tmp 26) rfl (q + 1) #[.int .i64 K2, .int .i64 N2, .float .f64 f2, .slice a2 D2.length q2] rfl rfl 26 _ HP1.out sizeIt rfl (by simp [Value.oneCell']) ?_
      refine hK.out _ _ ?_ (fun hH2 => ?_)
      · exact S2.out
      clear hK K hHeld
      have hHeld := hH2
      clear hH2
      try simp only [Act.put]
      try simp only [List.setIfInBounds_toArray]
      try simp only [List.set_cons_succ, List.set_cons_zero]
      refine anyK_last (by kernel_rfl) rfl (fun K hK => ?_)
      rw [if_pos (by rfl)]
      refine wp_store_row 26 (.tmp 4) (.tmp 27) rfl (q + 1 + 1) #[.int .i64 K4, .int .i64 N4, .float .f64 f4, .slice a4 D4.length q4] rfl rfl 26 _ HP2.out sizeIt rfl (by simp [Value.oneCell']) ?_
      refine hK.out _ _ ?_
      clear hK K hHeld
      refine anyK_done (by kernel_rfl) ?_ _
      go_wp2_with fail
      refine bodyPost_ret (results_cell3 Try.results11 _ _ q (q + 1) (q + 1 + 1) 26 #[.int .i64 K1, .int .i64 N1, .float .f64 f1, .slice a1 D1.length q1] #[.int .i64 K2, .int .i64 N2, .float .f64 f2, .slice a2 D2.length q2] #[.int .i64 K4, .int .i64 N4, .float .f64 f4, .slice a4 D4.length q4] (0, 0) _ rfl rfl rfl HE.out.1 HE.out.2.1 HE.out.2.2 Try.underlying26 rfl sizeIt sizeIt sizeIt) rfl ?_
      exact AN.out
    · have TB3 := hid Bx3.out.box
      have RA := hid Bx3.out.ry
      have TB1 := hid Bx1.out.box
      go_wp2_with (first
        | (refine wpList_load_row rfl 26 (.tmp 8) rfl p3 rfl 26 _ (0, 0) _ TB3.out Try.underlying26 rfl sizeIt ?_))
      have hia : Ia u6s K4 N4 f4 a4 D4.length q4 D4 := RA.out.ia (by omega) hN4 hf4
      refine (spec_l3copy K4 N4 f4 q4 hia.nl hia.rd (by omega)).mono ?_
      rintro e w8 ⟨v8, rfl, o8, b8⟩
      obtain ⟨a8, q8, rfl⟩ := own_form2 o8
      have R8 := Ry.own (z := D4) o8 hia.rd.bd
      replace Bx1 := hid (Bx1.out.fresh (below_grown b8))
      replace Bx2 := hid (Bx2.out.fresh (below_grown b8))
      replace Bx3 := hid (Bx3.out.fresh (below_grown b8))
      replace C3 := hid (C3.out.fresh (below_grown b8))
      have TBx := hid Bx1.out.box
      have Nb := Bx1.out.upd (K' := K4) (N' := N4) (f' := f4) R8
      replace Bx2 := hid (Bx2.out.other TBx.out (by have := HLp12.out; omega) #[.int .i64 K4, .int .i64 N4, .float .f64 f4, .slice a8 D4.length q8])
      replace Bx3 := hid (Bx3.out.other TBx.out (by have := HLp13.out; omega) #[.int .i64 K4, .int .i64 N4, .float .f64 f4, .slice a8 D4.length q8])
      replace C3 := hid (C3.out.row (q := p1) HG1.out #[.int .i64 K4, .int .i64 N4, .float .f64 f4, .slice a8 D4.length q8])
      replace Bx1 := hid Nb
      clear Nb R8 o8 b8 hia RA TB3 TB1
      go_wp2_with (refine wpList_store_row rfl 26 (.tmp 6) _ rfl p1 #[.int .i64 K4, .int .i64 N4, .float .f64 f4, .slice a8 D4.length q8] rfl rfl 26 _ TBx.out ?h1x5 ?h2x5 ?h3x5 ?_)
      case h1x5 => simpa using sizeIt
      try case h2x5 => rfl
      case h3x5 => simp [Value.oneCell']
      clear TBx
      generalize w8.setRow p1 #[.int .i64 K4, .int .i64 N4, .float .f64 f4, .slice a8 D4.length q8] = V8 at *
      replace Bx1 := hid (Bx1.out.still (Still.drew V8))
      replace Bx2 := hid (Bx2.out.still (Still.drew V8))
      replace Bx3 := hid (Bx3.out.still (Still.drew V8))
      replace C3 := hid (C3.out.still (Still.drew V8))
      go_wp2_with fail
      have Q0 : V8.drew.heap[q]? = some (.cells #[.int .i64 0, .int .i64 0, .float .f64 0, .slice none 0 0] 26) := (C3.out.bel.block q (by have := ZU.out; omega)).trans HT.out.1
      have Q1 : V8.drew.heap[q + 1]? = some (.cells #[.int .i64 0, .int .i64 0, .float .f64 0, .slice none 0 0] 26) := (C3.out.bel.block (q + 1) (by have := ZU.out; omega)).trans HT.out.2.1
      have Q2 : V8.drew.heap[q + 1 + 1]? = some (.cells #[.int .i64 0, .int .i64 0, .float .f64 0, .slice none 0 0] 26) := (C3.out.bel.block (q + 1 + 1) (by have := ZU.out; omega)).trans HT.out.2.2
      have hgq : q + 3 ≤ g := by have := ZU.out; have := C3.out.lo; omega
      have P1 : (V8.drew.setRow q #[.int .i64 K4, .int .i64 N4, .float .f64 f4, .slice a8 D4.length q8]).heap[q + 1]? = some (.cells #[.int .i64 0, .int .i64 0, .float .f64 0, .slice none 0 0] 26) := by rw [setRow_other _ _ _ _ (by omega)]; exact Q1
      have P2 : ((V8.drew.setRow q #[.int .i64 K4, .int .i64 N4, .float .f64 f4, .slice a8 D4.length q8]).setRow (q + 1) #[.int .i64 K2, .int .i64 N2, .float .f64 f2, .slice a2 D2.length q2]).heap[q + 1 + 1]? = some (.cells #[.int .i64 0, .int .i64 0, .float .f64 0, .slice none 0 0] 26) := by rw [setRow_other _ _ _ _ (by omega), setRow_other _ _ _ _ (by omega)]; exact Q2
      have y1 := ((Bx1.out.ry.rowed Q0 #[.int .i64 K4, .int .i64 N4, .float .f64 f4, .slice a8 D4.length q8]).rowed P1 #[.int .i64 K2, .int .i64 N2, .float .f64 f2, .slice a2 D2.length q2]).rowed P2 #[.int .i64 K4, .int .i64 N4, .float .f64 f4, .slice a4 D4.length q4]
      have y2 := ((Bx2.out.ry.rowed Q0 #[.int .i64 K4, .int .i64 N4, .float .f64 f4, .slice a8 D4.length q8]).rowed P1 #[.int .i64 K2, .int .i64 N2, .float .f64 f2, .slice a2 D2.length q2]).rowed P2 #[.int .i64 K4, .int .i64 N4, .float .f64 f4, .slice a4 D4.length q4]
      have y3 := ((Bx3.out.ry.rowed Q0 #[.int .i64 K4, .int .i64 N4, .float .f64 f4, .slice a8 D4.length q8]).rowed P1 #[.int .i64 K2, .int .i64 N2, .float .f64 f2, .slice a2 D2.length q2]).rowed P2 #[.int .i64 K4, .int .i64 N4, .float .f64 f4, .slice a4 D4.length q4]
      have E0 : (((V8.drew.setRow q #[.int .i64 K4, .int .i64 N4, .float .f64 f4, .slice a8 D4.length q8]).setRow (q + 1) #[.int .i64 K2, .int .i64 N2, .float .f64 f2, .slice a2 D2.length q2]).setRow (q + 1 + 1) #[.int .i64 K4, .int .i64 N4, .float .f64 f4, .slice a4 D4.length q4]).heap[q]? = some (.cells #[.int .i64 K4, .int .i64 N4, .float .f64 f4, .slice a8 D4.length q8] 26) := by rw [setRow_other _ _ _ _ (by omega), setRow_other _ _ _ _ (by omega)]; exact setRow_heap _ _ _ _ _ _ Q0
      have E1 : (((V8.drew.setRow q #[.int .i64 K4, .int .i64 N4, .float .f64 f4, .slice a8 D4.length q8]).setRow (q + 1) #[.int .i64 K2, .int .i64 N2, .float .f64 f2, .slice a2 D2.length q2]).setRow (q + 1 + 1) #[.int .i64 K4, .int .i64 N4, .float .f64 f4, .slice a4 D4.length q4]).heap[q + 1]? = some (.cells #[.int .i64 K2, .int .i64 N2, .float .f64 f2, .slice a2 D2.length q2] 26) := by rw [setRow_other _ _ _ _ (by omega)]; exact setRow_heap _ _ _ _ _ _ P1
      have E2 : (((V8.drew.setRow q #[.int .i64 K4, .int .i64 N4, .float .f64 f4, .slice a8 D4.length q8]).setRow (q + 1) #[.int .i64 K2, .int .i64 N2, .float .f64 f2, .slice a2 D2.length q2]).setRow (q + 1 + 1) #[.int .i64 K4, .int .i64 N4, .float .f64 f4, .slice a4 D4.length q4]).heap[q + 1 + 1]? = some (.cells #[.int .i64 K4, .int .i64 N4, .float .f64 f4, .slice a4 D4.length q4] 26) := setRow_heap _ _ _ _ _ _ P2
      have bl : Below w.heap.size w V8.drew := by have h1 := HU.out; rw [← HQ.out] at h1; exact h1.trans (C3.out.bel.mono h1.size)
      have AN := hid (show AnsS w (.returned (.tuple #[.agg #[.int .i64 K4, .int .i64 N4, .float .f64 f4, .slice a8 D4.length q8], .agg #[.int .i64 K2, .int .i64 N2, .float .f64 f2, .slice a2 D2.length q2], .agg #[.int .i64 K4, .int .i64 N4, .float .f64 f4, .slice a4 D4.length q4]])) (((V8.drew.setRow q #[.int .i64 K4, .int .i64 N4, .float .f64 f4, .slice a8 D4.length q8]).setRow (q + 1) #[.int .i64 K2, .int .i64 N2, .float .f64 f2, .slice a2 D2.length q2]).setRow (q + 1 + 1) #[.int .i64 K4, .int .i64 N4, .float .f64 f4, .slice a4 D4.length q4]) from ⟨_, _, _, _, _, _, _, _, _, _, _, _, _, _, _, _, _, _, _, _, _, rfl, y1.ia (by omega) hN4 hf4, y2.ia (by omega) hN2 hf2, y3.ia (by omega) hN4 hf4, below_setRow (below_setRow (below_setRow bl (by have := HQ.out; omega) _) (by have := HQ.out; omega) _) (by have := HQ.out; omega) _⟩)
      have HQ0 := hid Q0
      have HP1 := hid P1
      have HP2 := hid P2
      have HE := hid (And.intro E0 (And.intro E1 E2))
      have S0 := hid (show V8.drew.cell? ⟨p1, 0, none⟩ = some (.int .i64 K4) ∧ V8.drew.cell? ⟨p1, 1, none⟩ = some (.int .i64 N4) ∧ V8.drew.cell? ⟨p1, 2, none⟩ = some (.float .f64 f4) ∧ V8.drew.cell? ⟨p1, 3, none⟩ = some (.slice a8 D4.length q8) ∧ V8.drew.cell? ⟨p2, 0, none⟩ = some (.int .i64 K2) ∧ V8.drew.cell? ⟨p2, 1, none⟩ = some (.int .i64 N2) ∧ V8.drew.cell? ⟨p2, 2, none⟩ = some (.float .f64 f2) ∧ V8.drew.cell? ⟨p2, 3, none⟩ = some (.slice a2 D2.length q2) ∧ V8.drew.cell? ⟨p3, 0, none⟩ = some (.int .i64 K4) ∧ V8.drew.cell? ⟨p3, 1, none⟩ = some (.int .i64 N4) ∧ V8.drew.cell? ⟨p3, 2, none⟩ = some (.float .f64 f4) ∧ V8.drew.cell? ⟨p3, 3, none⟩ = some (.slice a4 D4.length q4) from (by have x1 := (Bx1.out).cells; have x2 := (Bx2.out).cells; have x3 := (Bx3.out).cells; exact ⟨x1.1, x1.2.1, x1.2.2.1, x1.2.2.2, x2.1, x2.2.1, x2.2.2.1, x2.2.2.2, x3.1, x3.2.1, x3.2.2.1, x3.2.2.2⟩))
      have S1 := hid (show (V8.drew.setRow q #[.int .i64 K4, .int .i64 N4, .float .f64 f4, .slice a8 D4.length q8]).cell? ⟨p1, 0, none⟩ = some (.int .i64 K4) ∧ (V8.drew.setRow q #[.int .i64 K4, .int .i64 N4, .float .f64 f4, .slice a8 D4.length q8]).cell? ⟨p1, 1, none⟩ = some (.int .i64 N4) ∧ (V8.drew.setRow q #[.int .i64 K4, .int .i64 N4, .float .f64 f4, .slice a8 D4.length q8]).cell? ⟨p1, 2, none⟩ = some (.float .f64 f4) ∧ (V8.drew.setRow q #[.int .i64 K4, .int .i64 N4, .float .f64 f4, .slice a8 D4.length q8]).cell? ⟨p1, 3, none⟩ = some (.slice a8 D4.length q8) ∧ (V8.drew.setRow q #[.int .i64 K4, .int .i64 N4, .float .f64 f4, .slice a8 D4.length q8]).cell? ⟨p2, 0, none⟩ = some (.int .i64 K2) ∧ (V8.drew.setRow q #[.int .i64 K4, .int .i64 N4, .float .f64 f4, .slice a8 D4.length q8]).cell? ⟨p2, 1, none⟩ = some (.int .i64 N2) ∧ (V8.drew.setRow q #[.int .i64 K4, .int .i64 N4, .float .f64 f4, .slice a8 D4.length q8]).cell? ⟨p2, 2, none⟩ = some (.float .f64 f2) ∧ (V8.drew.setRow q #[.int .i64 K4, .int .i64 N4, .float .f64 f4, .slice a8 D4.length q8]).cell? ⟨p2, 3, none⟩ = some (.slice a2 D2.length q2) ∧ (V8.drew.setRow q #[.int .i64 K4, .int .i64 N4, .float .f64 f4, .slice a8 D4.length q8]).cell? ⟨p3, 0, none⟩ = some (.int .i64 K4) ∧ (V8.drew.setRow q #[.int .i64 K4, .int .i64 N4, .float .f64 f4, .slice a8 D4.length q8]).cell? ⟨p3, 1, none⟩ = some (.int .i64 N4) ∧ (V8.drew.setRow q #[.int .i64 K4, .int .i64 N4, .float .f64 f4, .slice a8 D4.length q8]).cell? ⟨p3, 2, none⟩ = some (.float .f64 f4) ∧ (V8.drew.setRow q #[.int .i64 K4, .int .i64 N4, .float .f64 f4, .slice a8 D4.length q8]).cell? ⟨p3, 3, none⟩ = some (.slice a4 D4.length q4) from (by have x1 := (Bx1.out.other Q0 (by have := HG1.out; omega) #[.int .i64 K4, .int .i64 N4, .float .f64 f4, .slice a8 D4.length q8]).cells; have x2 := (Bx2.out.other Q0 (by have := HG2.out; omega) #[.int .i64 K4, .int .i64 N4, .float .f64 f4, .slice a8 D4.length q8]).cells; have x3 := (Bx3.out.other Q0 (by have := HG3.out; omega) #[.int .i64 K4, .int .i64 N4, .float .f64 f4, .slice a8 D4.length q8]).cells; exact ⟨x1.1, x1.2.1, x1.2.2.1, x1.2.2.2, x2.1, x2.2.1, x2.2.2.1, x2.2.2.2, x3.1, x3.2.1, x3.2.2.1, x3.2.2.2⟩))
      have S2 := hid (show ((V8.drew.setRow q #[.int .i64 K4, .int .i64 N4, .float .f64 f4, .slice a8 D4.length q8]).setRow (q + 1) #[.int .i64 K2, .int .i64 N2, .float .f64 f2, .slice a2 D2.length q2]).cell? ⟨p1, 0, none⟩ = some (.int .i64 K4) ∧ ((V8.drew.setRow q #[.int .i64 K4, .int .i64 N4, .float .f64 f4, .slice a8 D4.length q8]).setRow (q + 1) #[.int .i64 K2, .int .i64 N2, .float .f64 f2, .slice a2 D2.length q2]).cell? ⟨p1, 1, none⟩ = some (.int .i64 N4) ∧ ((V8.drew.setRow q #[.int .i64 K4, .int .i64 N4, .float .f64 f4, .slice a8 D4.length q8]).setRow (q + 1) #[.int .i64 K2, .int .i64 N2, .float .f64 f2, .slice a2 D2.length q2]).cell? ⟨p1, 2, none⟩ = some (.float .f64 f4) ∧ ((V8.drew.setRow q #[.int .i64 K4, .int .i64 N4, .float .f64 f4, .slice a8 D4.length q8]).setRow (q + 1) #[.int .i64 K2, .int .i64 N2, .float .f64 f2, .slice a2 D2.length q2]).cell? ⟨p1, 3, none⟩ = some (.slice a8 D4.length q8) ∧ ((V8.drew.setRow q #[.int .i64 K4, .int .i64 N4, .float .f64 f4, .slice a8 D4.length q8]).setRow (q + 1) #[.int .i64 K2, .int .i64 N2, .float .f64 f2, .slice a2 D2.length q2]).cell? ⟨p2, 0, none⟩ = some (.int .i64 K2) ∧ ((V8.drew.setRow q #[.int .i64 K4, .int .i64 N4, .float .f64 f4, .slice a8 D4.length q8]).setRow (q + 1) #[.int .i64 K2, .int .i64 N2, .float .f64 f2, .slice a2 D2.length q2]).cell? ⟨p2, 1, none⟩ = some (.int .i64 N2) ∧ ((V8.drew.setRow q #[.int .i64 K4, .int .i64 N4, .float .f64 f4, .slice a8 D4.length q8]).setRow (q + 1) #[.int .i64 K2, .int .i64 N2, .float .f64 f2, .slice a2 D2.length q2]).cell? ⟨p2, 2, none⟩ = some (.float .f64 f2) ∧ ((V8.drew.setRow q #[.int .i64 K4, .int .i64 N4, .float .f64 f4, .slice a8 D4.length q8]).setRow (q + 1) #[.int .i64 K2, .int .i64 N2, .float .f64 f2, .slice a2 D2.length q2]).cell? ⟨p2, 3, none⟩ = some (.slice a2 D2.length q2) ∧ ((V8.drew.setRow q #[.int .i64 K4, .int .i64 N4, .float .f64 f4, .slice a8 D4.length q8]).setRow (q + 1) #[.int .i64 K2, .int .i64 N2, .float .f64 f2, .slice a2 D2.length q2]).cell? ⟨p3, 0, none⟩ = some (.int .i64 K4) ∧ ((V8.drew.setRow q #[.int .i64 K4, .int .i64 N4, .float .f64 f4, .slice a8 D4.length q8]).setRow (q + 1) #[.int .i64 K2, .int .i64 N2, .float .f64 f2, .slice a2 D2.length q2]).cell? ⟨p3, 1, none⟩ = some (.int .i64 N4) ∧ ((V8.drew.setRow q #[.int .i64 K4, .int .i64 N4, .float .f64 f4, .slice a8 D4.length q8]).setRow (q + 1) #[.int .i64 K2, .int .i64 N2, .float .f64 f2, .slice a2 D2.length q2]).cell? ⟨p3, 2, none⟩ = some (.float .f64 f4) ∧ ((V8.drew.setRow q #[.int .i64 K4, .int .i64 N4, .float .f64 f4, .slice a8 D4.length q8]).setRow (q + 1) #[.int .i64 K2, .int .i64 N2, .float .f64 f2, .slice a2 D2.length q2]).cell? ⟨p3, 3, none⟩ = some (.slice a4 D4.length q4) from (by have x1 := ((Bx1.out.other Q0 (by have := HG1.out; omega) #[.int .i64 K4, .int .i64 N4, .float .f64 f4, .slice a8 D4.length q8]).other P1 (by have := HG1.out; omega) #[.int .i64 K2, .int .i64 N2, .float .f64 f2, .slice a2 D2.length q2]).cells; have x2 := ((Bx2.out.other Q0 (by have := HG2.out; omega) #[.int .i64 K4, .int .i64 N4, .float .f64 f4, .slice a8 D4.length q8]).other P1 (by have := HG2.out; omega) #[.int .i64 K2, .int .i64 N2, .float .f64 f2, .slice a2 D2.length q2]).cells; have x3 := ((Bx3.out.other Q0 (by have := HG3.out; omega) #[.int .i64 K4, .int .i64 N4, .float .f64 f4, .slice a8 D4.length q8]).other P1 (by have := HG3.out; omega) #[.int .i64 K2, .int .i64 N2, .float .f64 f2, .slice a2 D2.length q2]).cells; exact ⟨x1.1, x1.2.1, x1.2.2.1, x1.2.2.2, x2.1, x2.2.1, x2.2.2.1, x2.2.2.2, x3.1, x3.2.1, x3.2.2.1, x3.2.2.2⟩))
      clear Q0 Q1 Q2 P1 P2 y1 y2 y3 E0 E1 E2 bl Bx1 Bx2 Bx3 C3
      refine region_K 5 (fun X => X.cell? ⟨p1, 0, none⟩ = some (.int .i64 K4) ∧ X.cell? ⟨p1, 1, none⟩ = some (.int .i64 N4) ∧ X.cell? ⟨p1, 2, none⟩ = some (.float .f64 f4) ∧ X.cell? ⟨p1, 3, none⟩ = some (.slice a8 D4.length q8) ∧ X.cell? ⟨p2, 0, none⟩ = some (.int .i64 K2) ∧ X.cell? ⟨p2, 1, none⟩ = some (.int .i64 N2) ∧ X.cell? ⟨p2, 2, none⟩ = some (.float .f64 f2) ∧ X.cell? ⟨p2, 3, none⟩ = some (.slice a2 D2.length q2) ∧ X.cell? ⟨p3, 0, none⟩ = some (.int .i64 K4) ∧ X.cell? ⟨p3, 1, none⟩ = some (.int .i64 N4) ∧ X.cell? ⟨p3, 2, none⟩ = some (.float .f64 f4) ∧ X.cell? ⟨p3, 3, none⟩ = some (.slice a4 D4.length q4)) (by kernel_rfl) ?_ (fun hHeld => ?_)
      · exact S0.out
      refine anyK_take (i := 0) (v := ?v40010) rfl (by kernel_rfl) (by kernel_rfl) (by kernel_rfl) (by kernel_rfl) (fun _ _ _ h => h) (by rfl) hHeld ?hy40010 (some 25) (by rfl) ?rest40010
      case hy40010 => (intro W' hSw; (try dsimp only at hSw); go_simp; (try with_reducible rfl))
      try simp only [Act.put]
      try simp only [List.setIfInBounds_toArray]
      try simp only [List.set_cons_succ, List.set_cons_zero]
      refine anyK_take (i := 1) (v := ?v40011) rfl (by kernel_rfl) (by kernel_rfl) (by kernel_rfl) (by kernel_rfl) (fun _ _ _ h => h) (by rfl) hHeld ?hy40011 (some 26) (by rfl) ?rest40011
      case hy40011 => (intro W' hSw; (try dsimp only at hSw); go_simp; (try with_reducible rfl))
      try simp only [Act.put]
      try simp only [List.setIfInBounds_toArray]
      try simp only [List.set_cons_succ, List.set_cons_zero]
      refine anyK_take (i := 2) (v := ?v40012) rfl (by kernel_rfl) (by kernel_rfl) (by kernel_rfl) (by kernel_rfl) (fun _ _ _ h => h) (by rfl) hHeld ?hy40012 (some 27) (by rfl) ?rest40012
      case hy40012 => (intro W' hSw; (try dsimp only at hSw); go_simp; (try with_reducible rfl))
      try simp only [Act.put]
      try simp only [List.setIfInBounds_toArray]
      try simp only [List.set_cons_succ, List.set_cons_zero]
      refine anyK_step (i := 3) (by kernel_rfl) rfl (fun K hK => ?_)
      rw [if_pos (by rfl)]
      refine wp_store_row 26 (.tmp 2) (.tmp 25) rfl q #[.int .i64 K4, .int .i64 N4, .float .f64 f4, .slice a8 D4.length q8] rfl rfl 26 _ HQ0.out sizeIt rfl (by simp [Value.oneCell']) ?_
      refine hK.out _ _ ?_ (fun hH2 => ?_)
      · exact S1.out
      clear hK K hHeld
      have hHeld := hH2
      clear hH2
      try simp only [Act.put]
      try simp only [List.setIfInBounds_toArray]
      try simp only [List.set_cons_succ, List.set_cons_zero]
      refine anyK_step (i := 4) (by kernel_rfl) rfl (fun K hK => ?_)
      rw [if_pos (by rfl)]
      refine wp_store_row 26 (.tmp 3) (.tmp 26) rfl (q + 1) #[.int .i64 K2, .int .i64 N2, .float .f64 f2, .slice a2 D2.length q2] rfl rfl 26 _ HP1.out sizeIt rfl (by simp [Value.oneCell']) ?_
      refine hK.out _ _ ?_ (fun hH2 => ?_)
      · exact S2.out
      clear hK K hHeld
      have hHeld := hH2
      clear hH2
      try simp only [Act.put]
      try simp only [List.setIfInBounds_toArray]
      try simp only [List.set_cons_succ, List.set_cons_zero]
      refine anyK_last (by kernel_rfl) rfl (fun K hK => ?_)
      rw [if_pos (by rfl)]
      refine wp_store_row 26 (.tmp 4) (.tmp 27) rfl (q + 1 + 1) #[.int .i64 K4, .int .i64 N4, .float .f64 f4, .slice a4 D4.length q4] rfl rfl 26 _ HP2.out sizeIt rfl (by simp [Value.oneCell']) ?_
      refine hK.out _ _ ?_
      clear hK K hHeld
      refine anyK_done (by kernel_rfl) ?_ _
      go_wp2_with fail
      refine bodyPost_ret (results_cell3 Try.results11 _ _ q (q + 1) (q + 1 + 1) 26 #[.int .i64 K4, .int .i64 N4, .float .f64 f4, .slice a8 D4.length q8] #[.int .i64 K2, .int .i64 N2, .float .f64 f2, .slice a2 D2.length q2] #[.int .i64 K4, .int .i64 N4, .float .f64 f4, .slice a4 D4.length q4] (0, 0) _ rfl rfl rfl HE.out.1 HE.out.2.1 HE.out.2.2 Try.underlying26 rfl sizeIt sizeIt sizeIt) rfl ?_
      exact AN.out
end Go.Proofs.Ytgdnjpdheghfoaa
