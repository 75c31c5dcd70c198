/- The draw of a page: what is known of it and of memory. For codes of at most 2^21 bytes. -/
import Derived.Test.YtioefplkadpfnaaMgb
import Derived.Test.YtioefplkadpfnaaD6
import Derived.Test.YtioefplkadpfnaaTpb
import Derived.Deep.DeepCutAuto
namespace Go.Proofs.Ytioefplkadpfnaa
open Go.RowKit
set_option maxRecDepth 100000

theorem OwnP.beside {w w' : World} {lo hi r : Nat} {v : Value} {ss : List (List Int)} {cs : Array Value} {t : TypeId} {fz : Nat × Nat} (h : OwnP w lo hi v ss) (hr : w.heap[r]? = some (.cells cs t fz)) (h22 : t ≠ 22) (h5 : t ≠ 5) (hg : w.grownBy w' (some r)) : OwnP w' lo hi v ss := by
  obtain ⟨xs, o, b⟩ := h.own
  exact ⟨⟨xs, o.kept hg (oty_ne o hr h22), b.beside hg (fun i => oty_ne (b.own i) hr h5)⟩, h.top⟩
theorem row_grown7 {u : World} {q : Nat} {o : Obj} (_ : u.heap[q]? = some o) (R : Array Value) : u.grownBy (u.setRow q R) (some q) := row_grown u q R
theorem reads_of {w : World} {B m : Nat} {a : Option Addr} {c : Nat} {zs : List Int} (o : w.ownsRow B 5 1 (.slice a m c) m (bys zs)) (hb : bdZ zs) : Reads w a m zs ∧ (a = none → c = 0) := by
  obtain ⟨x, y, e, r, _⟩ := Reads.own o hb
  obtain ⟨rfl, _, rfl⟩ := Value.slice.inj e
  refine ⟨r, fun e => ?_⟩
  subst e
  rcases o.2 with ⟨h, _⟩ | ⟨g, cap, cur, h, _⟩
  · exact (Value.slice.inj h).2.2
  · cases h

/-- A page drawn so far: it lies in its box, its slots are new, the cursor goes on. -/
structure PgS (w wr : World) (pb g : Nat) (ad : Option Addr) (nn cap : Nat) (zs : List Int) (L : Int) (a : Option Addr) (k c : Nat) (ss : List (List Int)) : Prop where
  row : wr.heap[pb]? = some (.cells #[.int .i64 L, .slice a k c] 26 (0, 0))
  own : OwnP wr w.heap.size wr.heap.size (.slice a k c) ss
  len : ss.length = k
  sm : SmP ss
  res : wr.heap[w.heap.size]? = some (.cells #[.int .i64 0, .slice none 0 0] 26 (0, 0))
  cur : Cur wr g ad nn cap zs
  gr : w.grownBy wr (some g)
  sz : pb < wr.heap.size
  lo : w.heap.size < pb
  gl : g < w.heap.size
section
variable {w wr wr' : World} {pb g : Nat} {ad : Option Addr} {nn cap : Nat} {zs : List Int} {L : Int} {a : Option Addr} {k c : Nat} {ss : List (List Int)}
theorem PgS.box (h : PgS w wr pb g ad nn cap zs L a k c ss) : BoxP wr pb L a k c := BoxP.row h.row
theorem PgS.below (h : PgS w wr pb g ad nn cap zs L a k c ss) (b : Below wr.heap.size wr wr') : PgS w wr' pb g ad nn cap zs L a k c ss :=
  have hz := h.sz
  have hlo := h.lo
  ⟨(b.block _ (by omega)).trans h.row, (h.own.below b (Nat.le_refl _)).mono (Nat.le_refl _) b.size, h.len, h.sm, (b.block _ (by omega)).trans h.res, h.cur.below b (Nat.le_refl _), grown_new h.gr (below_grown b) (fun r e => by cases e), Nat.lt_of_lt_of_le h.sz b.size, h.lo, h.gl⟩
theorem PgS.go (h : PgS w wr pb g ad nn cap zs L a k c ss) (c' : Cur wr' g ad nn cap zs) (hg : wr.grownBy wr' (some g)) : PgS w wr' pb g ad nn cap zs L a k c ss := by
  have hz := h.sz
  have hlo := h.lo
  have hl := h.gl
  obtain ⟨i, y, _, hr⟩ := h.cur.row
  exact ⟨(hg.block _ (by omega) (by simp; omega)).trans h.row, (h.own.beside hr (by decide) (by decide) hg).mono (Nat.le_refl _) hg.size, h.len, h.sm, (hg.block _ (by omega) (by simp; omega)).trans h.res, c', grown_trans h.gr hg, Nat.lt_of_lt_of_le h.sz hg.size, h.lo, h.gl⟩
theorem PgS.beside (h : PgS w wr pb g ad nn cap zs L a k c ss) {q : Nat} {cs : Array Value} {t : TypeId} {fz : Nat × Nat} (hr : wr.heap[q]? = some (.cells cs t fz)) (h22 : t ≠ 22) (h5 : t ≠ 5) (hg : wr.grownBy wr' (some q)) (hq : pb < q) : PgS w wr' pb g ad nn cap zs L a k c ss := by
  have hz := h.sz
  have hlo := h.lo
  have hl := h.gl
  exact ⟨(hg.block _ (by omega) (by simp; omega)).trans h.row, (h.own.beside hr h22 h5 hg).mono (Nat.le_refl _) hg.size, h.len, h.sm, (hg.block _ (by omega) (by simp; omega)).trans h.res, h.cur.other hg (fun r e => by cases e; omega), grown_new h.gr hg (fun r e => by cases e; omega), Nat.lt_of_lt_of_le h.sz hg.size, h.lo, h.gl⟩
/-- Another page is laid into the box. -/
theorem PgS.put (h : PgS w wr pb g ad nn cap zs L a k c ss) {L2 : Int} {a2 : Option Addr} {k2 c2 : Nat} {ts : List (List Int)} (o : OwnP wr w.heap.size wr.heap.size (.slice a2 k2 c2) ts) (hl : ts.length = k2) (hs : SmP ts) :
    PgS w ((wr.setCell ⟨pb, 0, none⟩ (.int .i64 L2)).setCell ⟨pb, 1, none⟩ (.slice a2 k2 c2)) pb g ad nn cap zs L2 a2 k2 c2 ts := by
  have hz := h.sz
  have hlo := h.lo
  have hgl := h.gl
  have T1 := heap_setCell_same wr pb 0 _ 26 (.int .i64 L2) h.row
  have T2 := heap_setCell_same _ pb 1 _ 26 (.slice a2 k2 c2) T1
  have g1 := grown_set7 wr pb 0 (.int .i64 L2)
  have g2 := grown_set7 (wr.setCell ⟨pb, 0, none⟩ (.int .i64 L2)) pb 1 (.slice a2 k2 c2)
  have g := grown_trans g1 g2
  exact ⟨T2, (o.beside h.row (by decide) (by decide) g).mono (Nat.le_refl _) g.size, hl, hs, (g.block _ (by omega) (by simp; omega)).trans h.res, h.cur.other g (fun r e => by cases e; omega), grown_new h.gr g (fun r e => by cases e; omega), Nat.lt_of_lt_of_le h.sz g.size, h.lo, h.gl⟩
theorem PgS.putRow (h : PgS w wr pb g ad nn cap zs L a k c ss) {L2 : Int} {a2 : Option Addr} {k2 c2 : Nat} {ts : List (List Int)} (o : OwnP wr w.heap.size wr.heap.size (.slice a2 k2 c2) ts) (hl : ts.length = k2) (hs : SmP ts) :
    PgS w (wr.setRow pb #[.int .i64 L2, .slice a2 k2 c2]) pb g ad nn cap zs L2 a2 k2 c2 ts := by
  have hz := h.sz
  have hlo := h.lo
  have hgl := h.gl
  have g := row_grown wr pb #[.int .i64 L2, .slice a2 k2 c2]
  exact ⟨setRow_heap _ pb _ #[.int .i64 L2, .slice a2 k2 c2] _ _ h.row, (o.beside h.row (by decide) (by decide) g).mono (Nat.le_refl _) g.size, hl, hs, (g.block _ (by omega) (by simp; omega)).trans h.res, h.cur.other g (fun r e => by cases e; omega), grown_new h.gr g (fun r e => by cases e; omega), Nat.lt_of_lt_of_le h.sz g.size, h.lo, h.gl⟩
end

/-- What the draw of a page answers. -/
structure AnsPg (w : World) (g : Nat) (ad : Option Addr) (nn cap : Nat) (zs : List Int) (e : Ending) (w' : World) : Prop where
  ex : ∃ L a k c ss, e = .returned (.agg #[.int .i64 L, .slice a k c]) ∧ OwnP w' w.heap.size w'.heap.size (.slice a k c) ss ∧ ss.length = k ∧ SmP ss ∧ Cur w' g ad nn cap zs ∧ w.grownBy w' (some g)

end Go.Proofs.Ytioefplkadpfnaa
