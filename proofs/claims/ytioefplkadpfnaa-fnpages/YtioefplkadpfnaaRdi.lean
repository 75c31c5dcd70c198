/- An item that is being drawn: its box, its text, the cursor; what stays. No statement of its own; no conditions. -/
import Derived.Test.YtioefplkadpfnaaD3v
import Derived.Test.YtioefplkadpfnaaAr
namespace Go.Proofs.Ytioefplkadpfnaa
open Go.RowKit

/-- An item that is being drawn, in the box p; since the world w, nothing but the cursor and what is new has turned. -/
structure Bi (w : World) (g p : Nat) (ad : Option Addr) (n cap : Nat) (zs : List Int) (wr : World) (K N : Int) (f : Nat) (v : Value) (D : List Int) : Prop where
  gl : g < w.heap.size
  lo : w.heap.size ≤ p
  gr : w.grownBy wr (some g)
  cur : Cur wr g ad n cap zs
  box : wr.heap[p]? = some (.cells #[.int .i64 K, .int .i64 N, .float .f64 f, v] 63)
  own : wr.ownsRow w.heap.size 5 1 v D.length (bys D)
  bd : ∀ i, 0 ≤ D.getD i 0 ∧ D.getD i 0 ≤ 255
section
variable {w : World} {g p : Nat} {ad : Option Addr} {n cap : Nat} {zs : List Int} {wr w' : World} {K N : Int} {f : Nat} {v : Value} {D : List Int}
theorem Bi.size (h : Bi w g p ad n cap zs wr K N f v D) : w.heap.size ≤ wr.heap.size := h.gr.size
theorem Bi.plt (h : Bi w g p ad n cap zs wr K N f v D) : p < wr.heap.size := (Array.getElem?_eq_some_iff.1 h.box).1
theorem Bi.form0 (h : Bi w g p ad n cap zs wr K N f v D) : ∃ a m c, v = .slice a m c := by
  rcases h.own.2 with ⟨h1, _⟩ | ⟨g', cap', cur, h1, _⟩
  · exact ⟨_, _, _, h1⟩
  · exact ⟨_, _, _, h1⟩
theorem Bi.cells {a : Option Addr} {m c : Nat} (h : Bi w g p ad n cap zs wr K N f (.slice a m c) D) : Box wr p K N f a m c := by
  have t := h.box
  refine ⟨?_, ?_, ?_, ?_⟩ <;> (rw [cell_of_row _ _ _ _ _ _ t]; rfl)
theorem Bi.c3 {a : Option Addr} {m c : Nat} (h : Bi w g p ad n cap zs wr K N f (.slice a m c) D) : wr.cell? ⟨p, 3, none⟩ = some (.slice a m c) := h.cells.c3
theorem Bi.form (h : Bi w g p ad n cap zs wr K N f v D) : ∃ a c, v = .slice a D.length c ∧ (a = none → c = 0) := by
  rcases h.own.2 with ⟨h1, h2⟩ | ⟨g', cap', cur, h1, _⟩
  · exact ⟨none, 0, by rw [h1, h2], fun _ => rfl⟩
  · exact ⟨_, _, h1, fun hh => by cases hh⟩
theorem Bi.froz (h : Bi w g p ad n cap zs wr K N f v D) (i : Nat) : wr.frozen? ⟨p, i, none⟩ = false := frozen_of_row _ _ _ _ _ h.box
theorem Bi.still (h : Bi w g p ad n cap zs wr K N f v D) (hs : Still wr w') : Bi w g p ad n cap zs w' K N f v D :=
  ⟨h.gl, h.lo, grown_still h.gr hs, h.cur.still hs, by rw [hs.heap]; exact h.box, owns_agree (lo := 0) (hi := wr.heap.size) h.own (fun k _ _ => by rw [hs.heap]) (fun k hk => ⟨Nat.zero_le _, (h.own.lt k hk).2⟩), h.bd⟩
theorem Bi.drew (h : Bi w g p ad n cap zs wr K N f v D) : Bi w g p ad n cap zs wr.drew K N f v D := h.still (Still.drew wr)
theorem Bi.cursor (h : Bi w g p ad n cap zs wr K N f v D) (c' : Cur w' g ad n cap zs) (hg : wr.grownBy w' (some g)) : Bi w g p ad n cap zs w' K N f v D := by
  have hl := h.lo
  have hgl := h.gl
  refine ⟨h.gl, h.lo, grown_trans h.gr hg, c', (hg.block p h.plt (by simp; omega)).trans h.box, h.own.kept hg ?_, h.bd⟩
  cases hv : v.ownBlock with
  | none => exact .inl rfl
  | some k => exact .inr (by have := (h.own.lt k hv).1; simp; omega)
theorem Bi.alloc (h : Bi w g p ad n cap zs wr K N f v D) (o : Obj) : Bi w g p ad n cap zs (wr.alloc o) K N f v D := by
  have hg := World.grownBy_alloc wr o none
  exact ⟨h.gl, h.lo, grown_new h.gr hg (fun r hr => by cases hr), h.cur.alloc o, (hg.block p h.plt (by simp)).trans h.box, h.own.alloc o, h.bd⟩
theorem Bi.fresh (h : Bi w g p ad n cap zs wr K N f v D) (hg : wr.grownBy w' none) : Bi w g p ad n cap zs w' K N f v D :=
  ⟨h.gl, h.lo, grown_new h.gr hg (fun r hr => by cases hr), h.cur.other hg (fun r hr => by cases hr), (hg.block p h.plt (by simp)).trans h.box, h.own.kept hg (by cases hv : v.ownBlock <;> simp), h.bd⟩
theorem Bi.set (h : Bi w g p ad n cap zs wr K N f v D) (i : Nat) (u : Value) {K' N' : Int} {f' : Nat} {v' : Value} {D' : List Int} (hu : (#[.int .i64 K, .int .i64 N, .float .f64 f, v] : Array Value).setIfInBounds i u = #[.int .i64 K', .int .i64 N', .float .f64 f', v'])
    (o : wr.ownsRow w.heap.size 5 1 v' D'.length (bys D')) (hb : ∀ i, 0 ≤ D'.getD i 0 ∧ D'.getD i 0 ≤ 255) : Bi w g p ad n cap zs (wr.setCell ⟨p, i, none⟩ u) K' N' f' v' D' := by
  have hg := grown_setCell wr p i u
  have hl := h.lo
  have hgl := h.gl
  refine ⟨h.gl, h.lo, grown_new h.gr hg (fun q hq => by cases hq; exact hl), h.cur.other hg (fun q hq => by cases hq; omega), ?_, o.kept hg (oty_ne o h.box (by decide)), hb⟩
  rw [heap_setCell_same wr p i _ _ u h.box, hu]
theorem Bi.setK (h : Bi w g p ad n cap zs wr K N f v D) (x : Int) : Bi w g p ad n cap zs (wr.setCell ⟨p, 0, none⟩ (.int .i64 x)) x N f v D := h.set 0 _ rfl h.own h.bd
theorem Bi.setN (h : Bi w g p ad n cap zs wr K N f v D) (x : Int) : Bi w g p ad n cap zs (wr.setCell ⟨p, 1, none⟩ (.int .i64 x)) K x f v D := h.set 1 _ rfl h.own h.bd
theorem Bi.setF (h : Bi w g p ad n cap zs wr K N f v D) (x : Nat) : Bi w g p ad n cap zs (wr.setCell ⟨p, 2, none⟩ (.float .f64 x)) K N x v D := h.set 2 _ rfl h.own h.bd
theorem Bi.setV (h : Bi w g p ad n cap zs wr K N f v D) {v' : Value} {D' : List Int} (o : wr.ownsRow w.heap.size 5 1 v' D'.length (bys D')) (hb : ∀ i, 0 ≤ D'.getD i 0 ∧ D'.getD i 0 ≤ 255) : Bi w g p ad n cap zs (wr.setCell ⟨p, 3, none⟩ v') K N f v' D' := h.set 3 _ rfl o hb
/-- The whole box is written. -/
theorem Bi.row (h : Bi w g p ad n cap zs wr K N f v D) {K' N' : Int} {f' : Nat} {v' : Value} {D' : List Int} (o : wr.ownsRow w.heap.size 5 1 v' D'.length (bys D')) (hb : ∀ i, 0 ≤ D'.getD i 0 ∧ D'.getD i 0 ≤ 255) : Bi w g p ad n cap zs (wr.setRow p #[.int .i64 K', .int .i64 N', .float .f64 f', v']) K' N' f' v' D' := by
  have hg : wr.grownBy (wr.setRow p #[.int .i64 K', .int .i64 N', .float .f64 f', v']) (some p) := ⟨rfl, rfl, rfl, by simp, fun q _ hq => setRow_other _ _ _ _ (fun e => hq (by rw [e]))⟩
  have hl := h.lo
  have hgl := h.gl
  exact ⟨h.gl, h.lo, grown_new h.gr hg (fun q hq => by cases hq; exact hl), h.cur.other hg (fun q hq => by cases hq; omega), setRow_heap _ _ _ _ _ _ h.box, o.kept hg (oty_ne o h.box (by decide)), hb⟩
/-- The data's row is grown; then the box is told. -/
theorem Bi.grow (h : Bi w g p ad n cap zs wr K N f v D) (hg : wr.grownBy w' v.ownBlock) : w'.heap[p]? = some (.cells #[.int .i64 K, .int .i64 N, .float .f64 f, v] 63) ∧ Cur w' g ad n cap zs ∧ w.grownBy w' (some g) := by
  have hgl := h.gl
  refine ⟨(hg.block p h.plt (fun e => ?_)).trans h.box, h.cur.other hg (fun q hq => by have := (h.own.lt q hq).1; omega), grown_new h.gr hg (fun q hq => (h.own.lt q hq).1)⟩
  rcases oty_ne h.own h.box (by decide) with h1 | h1
  · rw [h1] at e; cases e
  · exact h1 e.symm
theorem Bi.app (h : Bi w g p ad n cap zs wr K N f v D) (hg : wr.grownBy w' v.ownBlock) {v' : Value} {D' : List Int} (o : w'.ownsRow w.heap.size 5 1 v' D'.length (bys D')) (hb : ∀ i, 0 ≤ D'.getD i 0 ∧ D'.getD i 0 ≤ 255) : Bi w g p ad n cap zs (w'.setCell ⟨p, 3, none⟩ v') K N f v' D' := by
  obtain ⟨hbox, hc, hgr⟩ := h.grow hg
  have hs := grown_setCell w' p 3 v'
  have hl := h.lo
  have hgl := h.gl
  refine ⟨h.gl, h.lo, grown_new hgr hs (fun q hq => by cases hq; exact hl), hc.other hs (fun q hq => by cases hq; omega), ?_, o.kept hs (oty_ne o hbox (by decide)), hb⟩
  rw [heap_setCell_same w' p 3 _ _ v' hbox]; rfl
theorem Bi.start {v : Value} {D : List Int} (hgl : g < w.heap.size) (hgr : w.grownBy wr (some g)) (hc : Cur wr g ad n cap zs) (o : wr.ownsRow w.heap.size 5 1 v D.length (bys D)) (hb : ∀ i, 0 ≤ D.getD i 0 ∧ D.getD i 0 ≤ 255) :
    Bi w g wr.heap.size ad n cap zs (wr.alloc (.cells #[.int .i64 K, .int .i64 N, .float .f64 f, v] 63)) K N f v D :=
  ⟨hgl, hgr.size, grown_new hgr (World.grownBy_alloc wr _ none) (fun r hr => by cases hr), hc.alloc _, heap_alloc_new wr _, o.alloc _, hb⟩
end
end Go.Proofs.Ytioefplkadpfnaa
