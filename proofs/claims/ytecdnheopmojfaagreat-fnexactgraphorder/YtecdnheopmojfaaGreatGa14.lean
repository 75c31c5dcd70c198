/- Slices of deeds, read and owned: a deed is told as a track whose marks are not looked at. No conditions. -/
import Derived.Test.YtecdnheopmojfaaGreatEd13
namespace Go.Proofs.YtecdnheopmojfaaGreat
open Go.RowKit
set_option maxRecDepth 100000
def cellsV1 (t : Tk) (m : Mt) : List Value := [.int .i64 t.xid, .int .i64 t.begun, .int .i64 t.ended, m.y, m.z]
def cellsV : List Tk → List Mt → List Value
 | t :: ts, m :: ms => cellsV1 t m ++ cellsV ts ms
 | _, _ => []
theorem cellsV_cons (t : Tk) (ts : List Tk) (m : Mt) (ms : List Mt) : cellsV (t :: ts) (m :: ms) = cellsV1 t m ++ cellsV ts ms := by rw [cellsV]
theorem cellsV_len : ∀ (ts : List Tk) (ms : List Mt), ms.length = ts.length → (cellsV ts ms).length = ts.length * 5
 | [], [], _ => rfl
 | t :: ts, m :: ms, h => by
  rw [cellsV_cons, List.length_append, cellsV_len ts ms (by simpa using h)]
  simp [cellsV1]; omega
theorem cellsV_at : ∀ (ts : List Tk) (ms : List Mt) (i j : Nat), ms.length = ts.length → i < ts.length → j < 5 → (cellsV ts ms)[i * 5 + j]? = (cellsV1 (ts.getD i tk0) (ms.getD i mt0))[j]?
 | t :: ts, m :: ms, 0, j, _, _, hj => by
  rw [cellsV_cons, Nat.zero_mul, Nat.zero_add, List.getElem?_append_left (by simp [cellsV1]; omega)]
  rfl
 | t :: ts, m :: ms, i + 1, j, h, hi, hj => by
  have ih := cellsV_at ts ms i j (by simpa using h) (by simpa using hi) hj
  rw [cellsV_cons, List.getElem?_append_right (by simp [cellsV1]; omega), List.getD_cons_succ, List.getD_cons_succ, ← ih]
  congr 1
  simp [cellsV1]; omega
structure ReadsV (w : World) (ad : Option Addr) (ts : List Tk) : Prop where
 cells : ts.length = 0 ∨ ∃ b off, ad = some ⟨b, off, none⟩ ∧ ∀ i, i < ts.length → ∃ a c a' c', (w.cell? ⟨b, off + i * 5, none⟩ = some (.int .i64 (ts.getD i tk0).xid) ∧ w.cell? ⟨b, off + i * 5 + 1, none⟩ = some (.int .i64 (ts.getD i tk0).begun) ∧ w.cell? ⟨b, off + i * 5 + 2, none⟩ = some (.int .i64 (ts.getD i tk0).ended) ∧ w.cell? ⟨b, off + i * 5 + 3, none⟩ = some (.slice a (ts.getD i tk0).rs.length c) ∧ w.cell? ⟨b, off + i * 5 + 4, none⟩ = some (.slice a' (ts.getD i tk0).ws.length c')) ∧ ReadsM w a (fl2 (ts.getD i tk0).rs) ∧ (ts.getD i tk0).rs.length ≤ maxLen ∧ ReadsM w a' (ts.getD i tk0).ws ∧ (ts.getD i tk0).ws.length ≤ maxLen
theorem ReadsV.nil (w : World) (ad : Option Addr) : ReadsV w ad [] := ⟨.inl rfl⟩
structure Box5 (w : World) (b o : Nat) (t : Tk) (x y : Value) : Prop where
 c0 : w.cell? ⟨b, o, none⟩ = some (.int .i64 t.xid)
 c1 : w.cell? ⟨b, o + 1, none⟩ = some (.int .i64 t.begun)
 c2 : w.cell? ⟨b, o + 2, none⟩ = some (.int .i64 t.ended)
 c3 : w.cell? ⟨b, o + 3, none⟩ = some x
 c4 : w.cell? ⟨b, o + 4, none⟩ = some y
theorem Box5.lt {w : World} {b o : Nat} {t : Tk} {x y : Value} (q : Box5 w b o t x y) : b < w.heap.size := World.block_lt_of_cell? w _ q.c0
theorem Box5.agree {w w' : World} {b o : Nat} {t : Tk} {x y : Value} (q : Box5 w b o t x y) (e : w'.heap[b]? = w.heap[b]?) : Box5 w' b o t x y :=
 ⟨(World.cell?_of_block (w := w) (a := ⟨b, o, none⟩) e).trans q.c0, (World.cell?_of_block (w := w) (a := ⟨b, o + 1, none⟩) e).trans q.c1, (World.cell?_of_block (w := w) (a := ⟨b, o + 2, none⟩) e).trans q.c2, (World.cell?_of_block (w := w) (a := ⟨b, o + 3, none⟩) e).trans q.c3, (World.cell?_of_block (w := w) (a := ⟨b, o + 4, none⟩) e).trans q.c4⟩
theorem Box5.below {w w' : World} {b o : Nat} {t : Tk} {x y : Value} (q : Box5 w b o t x y) {B : Nat} (hb : Below B w w') (hB : w.heap.size ≤ B) : Box5 w' b o t x y := q.agree (hb.block b (Nat.lt_of_lt_of_le q.lt hB))
theorem ReadsV.at {w : World} {ad : Option Addr} {ts : List Tk} (h : ReadsV w ad ts) {k : Nat} (hk : k < ts.length) : ∃ b off a c a' c', ad = some ⟨b, off, none⟩ ∧ Box5 w b (off + k * 5) (ts.getD k tk0) (.slice a (ts.getD k tk0).rs.length c) (.slice a' (ts.getD k tk0).ws.length c') ∧ ReadsM w a (fl2 (ts.getD k tk0).rs) ∧ (ts.getD k tk0).rs.length ≤ maxLen ∧ ReadsM w a' (ts.getD k tk0).ws ∧ (ts.getD k tk0).ws.length ≤ maxLen := by
 rcases h.cells with h0 | ⟨b, off, rfl, hc⟩
 · omega
 · obtain ⟨a, c, a', c', ⟨h0, h1, h2, h3, h4⟩, r1, m1, r2, m2⟩ := hc k hk
   exact ⟨b, off, a, c, a', c', rfl, ⟨h0, h1, h2, h3, h4⟩, r1, m1, r2, m2⟩
theorem ReadsV.below {w w' : World} {ad : Option Addr} {ts : List Tk} (h : ReadsV w ad ts) {B : Nat} (hb : Below B w w') (hB : w.heap.size ≤ B) : ReadsV w' ad ts := by
 refine ⟨?_⟩
 rcases h.cells with h0 | ⟨b, off, rfl, hc⟩
 · exact .inl h0
 · refine .inr ⟨b, off, rfl, fun i hi => ?_⟩
   obtain ⟨a, c, a', c', ⟨h0, h1, h2, h3, h4⟩, r1, m1, r2, m2⟩ := hc i hi
   have q := Box5.below (t := ts.getD i tk0) ⟨h0, h1, h2, h3, h4⟩ hb hB
   exact ⟨a, c, a', c', ⟨q.c0, q.c1, q.c2, q.c3, q.c4⟩, r1.below hb hB, m1, r2.below hb hB, m2⟩
structure OwnV (w : World) (lo hi : Nat) (v : Value) (ts : List Tk) : Prop where
 own : ∃ ms : List Mt, ms.length = ts.length ∧ w.ownsRow lo 56 5 v ts.length (cellsV ts ms) ∧ (∀ i, i < ts.length → OwnT1 w lo hi (ms.getD i mt0) (ts.getD i tk0)) ∧ ∀ i j, i < j → j < ts.length → ∀ b, blkT (ms.getD i mt0) b → ¬ blkT (ms.getD j mt0) b
 top : ∀ g, v.ownBlock = some g → g < hi
section
variable {w w' : World} {lo hi : Nat} {v : Value} {ts : List Tk}
theorem OwnV.agree (h : OwnV w lo hi v ts) (ha : Agree lo hi w w') : OwnV w' lo hi v ts := by
 obtain ⟨ms, hm, o, h1, h2⟩ := h.own
 exact ⟨⟨ms, hm, owns_agree o ha (fun g hg => ⟨(o.lt g hg).1, h.top g hg⟩), (fun i hi => (h1 i hi).agree ha), h2⟩, h.top⟩
theorem OwnV.below (h : OwnV w lo hi v ts) {B : Nat} (hb : Below B w w') (hB : hi ≤ B) : OwnV w' lo hi v ts := h.agree (Agree.below hb hB)
theorem OwnV.slice (h : OwnV w lo hi v ts) : ∃ a c, v = .slice a ts.length c := by
 obtain ⟨ms, hm, o, _⟩ := h.own
 exact own_sl o
theorem OwnV.rd {a : Option Addr} {n c : Nat} (h : OwnV w lo hi (.slice a n c) ts) : ReadsV w a ts := by
 obtain ⟨ms, hm, o, h1, _⟩ := h.own
 rcases o.2 with ⟨e, h0⟩ | ⟨g, cap, cur, e, _⟩
 · cases e; exact ⟨.inl h0⟩
 · cases e
   refine ⟨.inr ⟨g, 0, rfl, fun i hi => ?_⟩⟩
   have hc := fun j (hj : j < 5) => (o.cellAt (i * 5 + j) (by omega)).trans (cellsV_at ts ms i j hm hi hj)
   have q := h1 i hi
   obtain ⟨a1, c1, e1⟩ := q.rd.slice
   obtain ⟨a2, c2, e2⟩ := q.wr.slice
   have q1 := q.rd
   have q2 := q.wr
   rw [e1] at q1
   rw [e2] at q2
   rw [Nat.zero_add]
   refine ⟨a1, c1, a2, c2, ⟨hc 0 (by omega), hc 1 (by omega), hc 2 (by omega), ?_, ?_⟩, q1.rd, q1.max, q2.rd, q2.max⟩
   · have := hc 3 (by omega); simp only [cellsV1, e1] at this; exact this
   · have := hc 4 (by omega); simp only [cellsV1, e2] at this; exact this
end
end Go.Proofs.YtecdnheopmojfaaGreat
