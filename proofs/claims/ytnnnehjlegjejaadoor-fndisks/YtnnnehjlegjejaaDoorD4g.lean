/- A disk that is being drawn: its box, its rows, the cursor; what stays while one of them is written. No statement of its own; no conditions. -/
import Derived.Test.YtnnnehjlegjejaaDoorD4s
import Derived.Test.YtnnnehjlegjejaaDoorDm
import Derived.Test.YtnnnehjlegjejaaDoorAl
namespace Go.Proofs.YtnnnehjlegjejaaDoor
open Go.RowKit

/-- A slice of bytes that reads as z, in a block of bytes. -/
structure Ry (w : World) (v : Value) (z : List Int) : Prop where
  row : Row w v z
  ty : ∀ a c, v = .slice (some a) z.length c → 0 < z.length → ∃ cs fz, w.heap[a.block]? = some (.cells cs 5 fz)
  cp : ∀ a m c, v = .slice a m c → m ≤ c

theorem Ry.grown {w w' : World} {v : Value} {z : List Int} (h : Ry w v z) {row : Option Nat} (hg : w.grownBy w' row) (hr : ∀ k, row = some k → ∃ cs t fz, w.heap[k]? = some (.cells cs t fz) ∧ t ≠ 5) : Ry w' v z := by
  obtain ⟨a, c, rfl, h2, h3⟩ := h.row
  have key : ∀ b, a = some b → 0 < z.length → some b.block ≠ row := by
    intro b hb hz e
    subst hb
    obtain ⟨cs, fz, h4⟩ := h.ty b c rfl hz
    obtain ⟨cs', t, fz', h5, h6⟩ := hr _ e.symm
    rw [h4] at h5
    simp only [Option.some.injEq, Obj.cells.injEq] at h5
    exact h6 h5.2.1.symm
  refine ⟨⟨a, c, rfl, ?_, h3⟩, ?_, h.cp⟩
  · by_cases h0 : z.length = 0
    · exact ⟨h2.len, .inl h0, h2.bd⟩
    · exact h2.other hg (fun b hb => key b hb (by omega))
  · intro b c' hb hz
    obtain ⟨cs, fz, h4⟩ := h.ty b c' hb hz
    exact ⟨cs, fz, by rw [hg.block b.block (Array.getElem?_eq_some_iff.1 h4).1 (key b (by simpa using (Value.slice.inj hb).1) hz)]; exact h4⟩

theorem Ry.own {w : World} {base n : Nat} {v : Value} {z : List Int} (h : w.ownsRow base 5 1 v n (bys z)) (hbd : ∀ i, 0 ≤ z.getD i 0 ∧ z.getD i 0 ≤ 255) : Ry w v z := by
  refine ⟨Row.own h hbd, fun a c hv _ => ?_, fun a m c hv => ?_⟩
  · rcases h.2 with ⟨h1, _⟩ | ⟨g, cap, cur, h1, _, hg, _⟩
    · rw [h1] at hv; exact absurd (Value.slice.inj hv).1 (by simp)
    · rw [h1] at hv
      have := (Value.slice.inj hv).1
      simp only [Option.some.injEq] at this
      subst this
      exact ⟨cur, _, hg⟩
  · rcases h.2 with ⟨h1, _⟩ | ⟨g, cap, cur, h1, _, hg, h2, _⟩
    · rw [h1] at hv; obtain ⟨_, rfl, rfl⟩ := Value.slice.inj hv; exact Nat.le_refl _
    · rw [h1] at hv; obtain ⟨_, rfl, rfl⟩ := Value.slice.inj hv; exact h2
theorem Ry.still {w w' : World} {v : Value} {z : List Int} (h : Ry w v z) (hs : Still w w') : Ry w' v z := by
  obtain ⟨a, c, rfl, h2, h3⟩ := h.row
  exact ⟨⟨a, c, rfl, hs.reads h2, h3⟩, fun b c' hb hz => by rw [hs.heap]; exact h.ty b c' hb hz, h.cp⟩
theorem Ry.tail {w : World} {ad : Option Addr} {m c : Nat} {z : List Int} (h : Ry w (.slice ad m c) z) (hz : 0 < z.length) : ∃ b off, ad = some ⟨b, off, none⟩ ∧ m = z.length ∧ Ry w (.slice (some ⟨b, off + 1, none⟩) (m - 1) (c - 1)) (z.drop 1) := by
  obtain ⟨a, c', e, h2, h3⟩ := h.row
  obtain ⟨rfl, rfl, rfl⟩ := Value.slice.inj e
  rcases h2.cells with h0 | ⟨b, off, rfl, hc⟩
  · omega
  · refine ⟨b, off, rfl, rfl, ⟨⟨_, _, by rw [List.length_drop], ⟨by simp, .inr ⟨b, off + 1, rfl, fun i hi => ?_⟩, fun i => ?_⟩, fun hh => by simp at hh, by rw [List.length_drop]; omega⟩, fun x y hx _ => ?_, fun x y q hx => ?_⟩⟩
    · have := hc (i + 1) (by simp at hi; omega)
      rw [show off + 1 + i = off + (i + 1) by omega, this]
      simp [List.getD_eq_getElem?_getD]
    · have := h2.bd (i + 1)
      simpa [List.getD_eq_getElem?_getD, Nat.add_comm] using this
    · have hx' := (Value.slice.inj hx).1
      simp only [Option.some.injEq] at hx'
      subst hx'
      exact h.ty ⟨b, off, none⟩ _ rfl hz
    · have := h.cp _ _ _ rfl
      obtain ⟨_, rfl, rfl⟩ := Value.slice.inj hx
      omega

theorem own_ty_ne {w : World} {B k : Nat} {e t : TypeId} {s : Nat} {v : Value} {n : Nat} {xs cs : _} {fz : _} (o : w.ownsRow B e s v n xs) (hk : w.heap[k]? = some (.cells cs t fz)) (ht : t ≠ e) : v.ownBlock = none ∨ v.ownBlock ≠ some k := by
  rcases o.2 with ⟨rfl, _⟩ | ⟨g, cap, cur, rfl, _, hg, _⟩
  · exact .inl rfl
  · right
    intro he
    simp only [Value.ownBlock, Option.some.injEq] at he
    subst he
    rw [hg] at hk
    simp only [Option.some.injEq, Obj.cells.injEq] at hk
    exact ht hk.2.1.symm

/-- The rows of a disk. -/
structure Rws (B : Nat) (wr : World) (vS vW : Value) (S : List (List Int)) (W : List (Int × List Int)) (xs ys : List Value) : Prop where
  lx : xs.length = S.length
  ly : ys.length = W.length
  oS : wr.ownsRow B 22 1 vS S.length xs
  oW : wr.ownsRow B 40 2 vW W.length (cellsW W ys)
  rS : ∀ i, i < S.length → Ry wr (xs.getD i nilS) (S.getD i [])
  rW : ∀ i, i < W.length → Ry wr (ys.getD i nilS) (W.getD i w0).2

/-- A disk that is being drawn, in the box p. -/
structure Gd (w : World) (g p : Nat) (ad : Option Addr) (n cap : Nat) (zs : List Int) (wr : World) (vS vW : Value) (S : List (List Int)) (W : List (Int × List Int)) (F : Int) (D : Bool) : Prop where
  gl : g < w.heap.size
  lo : w.heap.size ≤ p
  gr : w.grownBy wr (some g)
  cur : Cur wr g ad n cap zs
  box : wr.heap[p]? = some (.cells #[vS, vW, .int .i64 F, .bool D] 27)
  rows : ∃ xs ys, Rws w.heap.size wr vS vW S W xs ys

/-- A block that holds neither bytes, nor rows, nor writes is written. -/
theorem Rws.keep {B : Nat} {wr w' : World} {vS vW : Value} {S : List (List Int)} {W : List (Int × List Int)} {xs ys : List Value} (h : Rws B wr vS vW S W xs ys) {row : Option Nat} (hg : wr.grownBy w' row)
    (hr : ∀ k, row = some k → ∃ cs t fz, wr.heap[k]? = some (.cells cs t fz) ∧ t ≠ 5 ∧ t ≠ 22 ∧ t ≠ 40) : Rws B w' vS vW S W xs ys := by
  have hb : ∀ k, row = some k → ∃ cs t fz, wr.heap[k]? = some (.cells cs t fz) ∧ t ≠ 5 := fun k hk => by
    obtain ⟨cs, t, fz, h1, h2, _⟩ := hr k hk
    exact ⟨cs, t, fz, h1, h2⟩
  have hne : ∀ {e s v m} {zz : List Value}, wr.ownsRow B e s v m zz → (∀ k, row = some k → ∃ cs t fz, wr.heap[k]? = some (.cells cs t fz) ∧ t ≠ e) → v.ownBlock = none ∨ v.ownBlock ≠ row := by
    intro e s v m zz o hk
    cases hrow : row with
    | none => cases hv : v.ownBlock with
      | none => exact .inl rfl
      | some j => exact .inr (by simp)
    | some k =>
      obtain ⟨cs, t, fz, h1, h2⟩ := hk k hrow
      exact own_ty_ne o h1 h2
  refine ⟨h.lx, h.ly, h.oS.kept hg (hne h.oS fun k hk => ?_), h.oW.kept hg (hne h.oW fun k hk => ?_), fun i hi => (h.rS i hi).grown hg hb, fun i hi => (h.rW i hi).grown hg hb⟩
  · obtain ⟨cs, t, fz, h1, _, h2, _⟩ := hr k hk
    exact ⟨cs, t, fz, h1, h2⟩
  · obtain ⟨cs, t, fz, h1, _, _, h2⟩ := hr k hk
    exact ⟨cs, t, fz, h1, h2⟩
theorem Rws.still {B : Nat} {wr w' : World} {vS vW : Value} {S : List (List Int)} {W : List (Int × List Int)} {xs ys : List Value} (h : Rws B wr vS vW S W xs ys) (hs : Still wr w') : Rws B w' vS vW S W xs ys :=
  ⟨h.lx, h.ly, owns_agree (lo := 0) (hi := wr.heap.size) h.oS (fun k _ _ => by rw [hs.heap]) (fun g hg => ⟨Nat.zero_le _, (h.oS.lt g hg).2⟩), owns_agree (lo := 0) (hi := wr.heap.size) h.oW (fun k _ _ => by rw [hs.heap]) (fun g hg => ⟨Nat.zero_le _, (h.oW.lt g hg).2⟩), fun i hi => (h.rS i hi).still hs, fun i hi => (h.rW i hi).still hs⟩

section
variable {w : World} {g p : Nat} {ad : Option Addr} {n cap : Nat} {zs : List Int} {wr w' : World} {vS vW : Value} {S : List (List Int)} {W : List (Int × List Int)} {F : Int} {D : Bool}

theorem Gd.still (h : Gd w g p ad n cap zs wr vS vW S W F D) (hs : Still wr w') : Gd w g p ad n cap zs w' vS vW S W F D := by
  obtain ⟨xs, ys, r⟩ := h.rows
  exact ⟨h.gl, h.lo, grown_still h.gr hs, h.cur.still hs, by rw [hs.heap]; exact h.box, xs, ys, r.still hs⟩
theorem Gd.drew (h : Gd w g p ad n cap zs wr vS vW S W F D) : Gd w g p ad n cap zs wr.drew vS vW S W F D := h.still (Still.drew wr)
theorem Gd.cursor (h : Gd w g p ad n cap zs wr vS vW S W F D) (c' : Cur w' g ad n cap zs) (hg : wr.grownBy w' (some g)) : Gd w g p ad n cap zs w' vS vW S W F D := by
  obtain ⟨xs, ys, r⟩ := h.rows
  obtain ⟨i, hh, _, hrow⟩ := h.cur.row
  have hp := (Array.getElem?_eq_some_iff.1 h.box).1
  refine ⟨h.gl, h.lo, grown_trans h.gr hg, c', (hg.block p hp (by have := h.gl; have := h.lo; simp; omega)).trans h.box, xs, ys, r.keep hg fun k hk => ?_⟩
  obtain rfl := Option.some.inj hk
  exact ⟨_, _, _, hrow, by decide, by decide, by decide⟩
theorem Gd.alloc (h : Gd w g p ad n cap zs wr vS vW S W F D) (o : Obj) : Gd w g p ad n cap zs (wr.alloc o) vS vW S W F D := by
  obtain ⟨xs, ys, r⟩ := h.rows
  have hp := (Array.getElem?_eq_some_iff.1 h.box).1
  have hg := World.grownBy_alloc wr o none
  exact ⟨h.gl, h.lo, grown_new h.gr hg (fun r hr => by cases hr), h.cur.alloc o, (hg.block p hp (by simp)).trans h.box, xs, ys, r.keep hg fun k hk => by cases hk⟩
theorem Gd.size (h : Gd w g p ad n cap zs wr vS vW S W F D) : w.heap.size ≤ wr.heap.size := h.gr.size

/-- One of the box's cells is written; the rows stand. -/
theorem Gd.boxed (h : Gd w g p ad n cap zs wr vS vW S W F D) (i : Nat) (u : Value) {vS' vW' : Value} {S' : List (List Int)} {W' : List (Int × List Int)} {F' : Int} {D' : Bool} (hu : (#[vS, vW, .int .i64 F, .bool D] : Array Value).setIfInBounds i u = #[vS', vW', .int .i64 F', .bool D'])
    {xs ys : List Value} (r : Rws w.heap.size wr vS' vW' S' W' xs ys) : Gd w g p ad n cap zs (wr.setCell ⟨p, i, none⟩ u) vS' vW' S' W' F' D' := by
  have hg := grown_setCell wr p i u
  have hl := h.lo
  have hgl := h.gl
  refine ⟨h.gl, h.lo, grown_new h.gr hg (fun q hq => by cases hq; exact hl), h.cur.other hg (fun q hq => by cases hq; omega), ?_, xs, ys, r.keep hg fun k hk => ?_⟩
  · rw [heap_setCell_same wr p i _ _ u h.box, hu]
  · obtain rfl := Option.some.inj hk
    exact ⟨_, _, _, h.box, by decide, by decide, by decide⟩
theorem Gd.setF (h : Gd w g p ad n cap zs wr vS vW S W F D) (F' : Int) : Gd w g p ad n cap zs (wr.setCell ⟨p, 2, none⟩ (.int .i64 F')) vS vW S W F' D := by
  obtain ⟨xs, ys, r⟩ := h.rows
  exact h.boxed 2 _ rfl r
theorem Gd.setD (h : Gd w g p ad n cap zs wr vS vW S W F D) (D' : Bool) : Gd w g p ad n cap zs (wr.setCell ⟨p, 3, none⟩ (.bool D')) vS vW S W F D' := by
  obtain ⟨xs, ys, r⟩ := h.rows
  exact h.boxed 3 _ rfl r
theorem Gd.noS (h : Gd w g p ad n cap zs wr vS vW S W F D) : Gd w g p ad n cap zs (wr.setCell ⟨p, 0, none⟩ (.slice none 0 0)) (.slice none 0 0) vW [] W F D := by
  obtain ⟨xs, ys, r⟩ := h.rows
  exact h.boxed 0 _ rfl (xs := []) ⟨rfl, r.ly, World.ownsRow_nil _ _ _ _, r.oW, fun i hi => by simp at hi, r.rW⟩

/-- A row of sectors' cell is written. -/
theorem Gd.storeS {b c m : Nat} (h : Gd w g p ad n cap zs wr (.slice (some ⟨b, 0, none⟩) m c) vW S W F D) {i : Nat} (hi : i < S.length) {v : Value} {z : List Int} (hv : Ry wr v z) :
    wr.frozen? ⟨b, i, none⟩ = false ∧ Gd w g p ad n cap zs (wr.setCell ⟨b, i, none⟩ v) (.slice (some ⟨b, 0, none⟩) m c) vW (S.set i z) W F D := by
  obtain ⟨xs, ys, r⟩ := h.rows
  have hm : m = S.length := by
    rcases r.oS.2 with ⟨h1, _⟩ | ⟨g', cap', cur, h1, _⟩
    · exact absurd (Value.slice.inj h1).1 (by simp)
    · exact (Value.slice.inj h1).2.1
  subst hm
  obtain ⟨o, hg⟩ := r.oS.stored i v
  have hlt := r.oS.lt b rfl
  have hgl := h.gl
  obtain ⟨cs, hb⟩ : ∃ cs, wr.heap[b]? = some (.cells cs 22 (0, 0)) := by
    rcases r.oS.2 with ⟨h1, _⟩ | ⟨g', cap', cur, h1, _, h2, _⟩
    · exact absurd (Value.slice.inj h1).1 (by simp)
    · have := (Value.slice.inj h1).1
      simp only [Option.some.injEq, Addr.mk.injEq] at this
      obtain ⟨rfl, _⟩ := this
      exact ⟨_, h2⟩
  have nb : ∀ k, some b = some k → ∃ cs t fz, wr.heap[k]? = some (.cells cs t fz) ∧ t ≠ 5 := fun k hk => by
    obtain rfl := Option.some.inj hk
    exact ⟨_, _, _, hb, by decide⟩
  have hp := (Array.getElem?_eq_some_iff.1 h.box).1
  have hpb : p ≠ b := fun e => by
    subst e
    have := h.box
    rw [hb] at this
    simp only [Option.some.injEq, Obj.cells.injEq] at this
    exact absurd this.2.1 (by decide)
  refine ⟨r.oS.frozenAt i, h.gl, h.lo, grown_new h.gr hg (fun q hq => by cases hq; exact hlt.1), h.cur.other hg (fun q hq => by cases hq; omega), (hg.block p hp (by simpa using hpb)).trans h.box, xs.set i v, ys, ?_⟩
  refine ⟨by rw [List.length_set, List.length_set]; exact r.lx, r.ly, by rw [List.length_set]; exact o, r.oW.kept hg (own_ty_ne r.oW hb (by decide)), ?_, fun j hj => (r.rW j hj).grown hg nb⟩
  intro j hj
  rw [List.length_set] at hj
  rw [getD_set' xs i j v nilS (by have := r.lx; omega), getD_set' S i j z [] hi]
  split
  · exact hv.grown hg nb
  · exact (r.rS j hj).grown hg nb
theorem Gd.cellS {b c m : Nat} (h : Gd w g p ad n cap zs wr (.slice (some ⟨b, 0, none⟩) m c) vW S W F D) {i : Nat} (hi : i < S.length) : ∃ v, wr.cell? ⟨b, i, none⟩ = some v ∧ Ry wr v (S.getD i []) := by
  obtain ⟨xs, ys, r⟩ := h.rows
  have hm : m = S.length := by
    rcases r.oS.2 with ⟨h1, _⟩ | ⟨g', cap', cur, h1, _⟩
    · exact absurd (Value.slice.inj h1).1 (by simp)
    · exact (Value.slice.inj h1).2.1
  subst hm
  refine ⟨xs.getD i nilS, ?_, r.rS i hi⟩
  rw [r.oS.cellAt i (by omega), List.getD_eq_getElem?_getD, List.getElem?_eq_getElem (by have := r.lx; omega)]
  rfl
theorem Gd.form (h : Gd w g p ad n cap zs wr vS vW S W F D) (hS : 0 < S.length) : ∃ b c, vS = .slice (some ⟨b, 0, none⟩) S.length c := by
  obtain ⟨xs, ys, r⟩ := h.rows
  rcases r.oS.2 with ⟨_, h1⟩ | ⟨g', cap', cur, h1, _⟩
  · omega
  · exact ⟨g', cap', h1⟩
theorem Gd.forms (h : Gd w g p ad n cap zs wr vS vW S W F D) : ∃ a c a' c', vS = .slice a S.length c ∧ vW = .slice a' W.length c' := by
  obtain ⟨xs, ys, r⟩ := h.rows
  have f : ∀ {e s v m} {zz : List Value}, wr.ownsRow w.heap.size e s v m zz → ∃ a c, v = .slice a m c := by
    intro e s v m zz o
    rcases o.2 with ⟨h1, h2⟩ | ⟨g', cap', cur, h1, _⟩
    · exact ⟨none, 0, by rw [h1, h2]⟩
    · exact ⟨_, _, h1⟩
  obtain ⟨a, c, e1⟩ := f r.oS
  obtain ⟨a', c', e2⟩ := f r.oW
  exact ⟨a, c, a', c', e1, e2⟩

/-- While rows are grown the box stands. -/
theorem Gd.midS (h : Gd w g p ad n cap zs wr vS vW S W F D) {xs ys : List Value} (r : Rws w.heap.size wr vS vW S W xs ys) (hg : wr.grownBy w' vS.ownBlock) : w'.heap[p]? = some (.cells #[vS, vW, .int .i64 F, .bool D] 27) :=
  (hg.block p (Array.getElem?_eq_some_iff.1 h.box).1 (fun e => by
    rcases own_ty_ne r.oS h.box (by decide) with h1 | h1
    · rw [h1] at e; cases e
    · exact h1 e.symm)).trans h.box
theorem Gd.midW (h : Gd w g p ad n cap zs wr vS vW S W F D) {xs ys : List Value} (r : Rws w.heap.size wr vS vW S W xs ys) (hg : wr.grownBy w' vW.ownBlock) : w'.heap[p]? = some (.cells #[vS, vW, .int .i64 F, .bool D] 27) :=
  (hg.block p (Array.getElem?_eq_some_iff.1 h.box).1 (fun e => by
    rcases own_ty_ne r.oW h.box (by decide) with h1 | h1
    · rw [h1] at e; cases e
    · exact h1 e.symm)).trans h.box

theorem Rws.midW0 {b c m : Nat} {xs ys : List Value} (r : Rws w.heap.size wr (.slice (some ⟨b, 0, none⟩) m c) vW S W xs ys) (hg : wr.grownBy w' vW.ownBlock) (i : Nat) : w'.cell? ⟨b, i, none⟩ = wr.cell? ⟨b, i, none⟩ := by
  have hlt := r.oS.lt b rfl
  refine World.cell?_of_block (hg.block b hlt.2 (fun e => ?_))
  rcases r.oS.2 with ⟨h1, _⟩ | ⟨g', cap', cur, h1, _, h2, _⟩
  · exact absurd (Value.slice.inj h1).1 (by simp)
  · have := (Value.slice.inj h1).1
    simp only [Option.some.injEq, Addr.mk.injEq] at this
    obtain ⟨rfl, _⟩ := this
    rcases own_ty_ne r.oW h2 (by decide) with h3 | h3
    · rw [h3] at e; cases e
    · exact h3 e.symm
/-- Sectors are appended, and the box is told. -/
theorem Gd.appS (h : Gd w g p ad n cap zs wr vS vW S W F D) {xs ys : List Value} (r : Rws w.heap.size wr vS vW S W xs ys) {v : Value} {z : List Int} (hv : Ry wr v z) {vS' : Value} (o : w'.ownsRow w.heap.size 22 1 vS' (S.length + 1) (xs ++ [v])) (hg : wr.grownBy w' vS.ownBlock) :
    Gd w g p ad n cap zs (w'.setCell ⟨p, 0, none⟩ vS') vS' vW (S ++ [z]) W F D := by
  have hty : ∀ k, vS.ownBlock = some k → ∃ cs, wr.heap[k]? = some (.cells cs 22 (0, 0)) := fun k hk => by
    rcases r.oS.2 with ⟨h1, _⟩ | ⟨g', cap', cur, h1, _, h2, _⟩
    · rw [h1] at hk; cases hk
    · rw [h1] at hk
      obtain rfl := Option.some.inj hk
      exact ⟨_, h2⟩
  have nb : ∀ k, vS.ownBlock = some k → ∃ cs t fz, wr.heap[k]? = some (.cells cs t fz) ∧ t ≠ 5 := fun k hk => by
    obtain ⟨cs, h1⟩ := hty k hk
    exact ⟨_, _, _, h1, by decide⟩
  have hp := (Array.getElem?_eq_some_iff.1 h.box).1
  have hgl := h.gl
  have hbox : w'.heap[p]? = _ := (hg.block p hp (fun e => by
    obtain ⟨cs, h1⟩ := hty p e.symm
    rw [h.box] at h1
    simp only [Option.some.injEq, Obj.cells.injEq] at h1
    exact absurd h1.2.1 (by decide))).trans h.box
  have r' : Rws w.heap.size w' vS' vW (S ++ [z]) W (xs ++ [v]) ys := by
    refine ⟨by simp [r.lx], r.ly, by simpa using o, r.oW.kept hg ?_, ?_, fun j hj => (r.rW j hj).grown hg nb⟩
    · cases hv2 : vS.ownBlock with
      | none => cases h3 : vW.ownBlock with
        | none => exact .inl rfl
        | some j => exact .inr (by simp)
      | some k =>
        obtain ⟨cs, h1⟩ := hty k hv2
        exact own_ty_ne r.oW h1 (by decide)
    · intro j hj
      rw [getD_app, getD_app, r.lx]
      simp only [List.length_append, List.length_cons, List.length_nil] at hj
      split
      · rename_i hlt; exact (r.rS j hlt).grown hg nb
      · rw [show j - S.length = 0 by omega]; exact hv.grown hg nb
  have hgr : w.grownBy w' (some g) := grown_new h.gr hg (fun q hq => (r.oS.lt q hq).1)
  have hcur : Cur w' g ad n cap zs := h.cur.other hg (fun q hq => by have := (r.oS.lt q hq).1; omega)
  have hs := grown_setCell w' p 0 vS'
  have hl := h.lo
  refine ⟨h.gl, h.lo, grown_new hgr hs (fun q hq => by cases hq; exact hl), hcur.other hs (fun q hq => by cases hq; omega), ?_, _, _, r'.keep hs fun k hk => ?_⟩
  · rw [heap_setCell_same w' p 0 _ _ vS' hbox]; rfl
  · obtain rfl := Option.some.inj hk
    exact ⟨_, _, _, hbox, by decide, by decide, by decide⟩
/-- A write is appended, and the box is told. -/
theorem Gd.appW (h : Gd w g p ad n cap zs wr vS vW S W F D) {xs ys : List Value} (r : Rws w.heap.size wr vS vW S W xs ys) {v : Value} {x : Int} {z : List Int} (hv : Ry wr v z) {vW' : Value} (o : w'.ownsRow w.heap.size 40 2 vW' (W.length + 1) (cellsW W ys ++ [.int .i64 x, v])) (hg : wr.grownBy w' vW.ownBlock) :
    Gd w g p ad n cap zs (w'.setCell ⟨p, 1, none⟩ vW') vS vW' S (W ++ [(x, z)]) F D := by
  have hty : ∀ k, vW.ownBlock = some k → ∃ cs, wr.heap[k]? = some (.cells cs 40 (0, 0)) := fun k hk => by
    rcases r.oW.2 with ⟨h1, _⟩ | ⟨g', cap', cur, h1, _, h2, _⟩
    · rw [h1] at hk; cases hk
    · rw [h1] at hk
      obtain rfl := Option.some.inj hk
      exact ⟨_, h2⟩
  have nb : ∀ k, vW.ownBlock = some k → ∃ cs t fz, wr.heap[k]? = some (.cells cs t fz) ∧ t ≠ 5 := fun k hk => by
    obtain ⟨cs, h1⟩ := hty k hk
    exact ⟨_, _, _, h1, by decide⟩
  have hp := (Array.getElem?_eq_some_iff.1 h.box).1
  have hgl := h.gl
  have hbox : w'.heap[p]? = _ := (hg.block p hp (fun e => by
    obtain ⟨cs, h1⟩ := hty p e.symm
    rw [h.box] at h1
    simp only [Option.some.injEq, Obj.cells.injEq] at h1
    exact absurd h1.2.1 (by decide))).trans h.box
  have r' : Rws w.heap.size w' vS vW' S (W ++ [(x, z)]) xs (ys ++ [v]) := by
    refine ⟨r.lx, by simp [r.ly], r.oS.kept hg ?_, by rw [cellsW_snoc W ys (x, z) v r.ly]; simpa using o, fun j hj => (r.rS j hj).grown hg nb, ?_⟩
    · cases hv2 : vW.ownBlock with
      | none => cases h3 : vS.ownBlock with
        | none => exact .inl rfl
        | some j => exact .inr (by simp)
      | some k =>
        obtain ⟨cs, h1⟩ := hty k hv2
        exact own_ty_ne r.oS h1 (by decide)
    · intro j hj
      rw [getD_app, getD_app, r.ly]
      simp only [List.length_append, List.length_cons, List.length_nil] at hj
      split
      · rename_i hlt; exact (r.rW j hlt).grown hg nb
      · rw [show j - W.length = 0 by omega]; exact hv.grown hg nb
  have hgr : w.grownBy w' (some g) := grown_new h.gr hg (fun q hq => (r.oW.lt q hq).1)
  have hcur : Cur w' g ad n cap zs := h.cur.other hg (fun q hq => by have := (r.oW.lt q hq).1; omega)
  have hs := grown_setCell w' p 1 vW'
  have hl := h.lo
  refine ⟨h.gl, h.lo, grown_new hgr hs (fun q hq => by cases hq; exact hl), hcur.other hs (fun q hq => by cases hq; omega), ?_, _, _, r'.keep hs fun k hk => ?_⟩
  · rw [heap_setCell_same w' p 1 _ _ vW' hbox]; rfl
  · obtain rfl := Option.some.inj hk
    exact ⟨_, _, _, hbox, by decide, by decide, by decide⟩

theorem Rws.rd {B : Nat} {xs ys : List Value} (r : Rws B wr vS vW S W xs ys) : ∃ aS cS aW cW, vS = .slice aS S.length cS ∧ vW = .slice aW W.length cW ∧ ReadsD wr aS aW S W := by
  have h1 : ∃ aS cS, vS = .slice aS S.length cS ∧ ReadsS wr aS S := by
    have o := r.oS
    rcases o.2 with ⟨e, h0⟩ | ⟨b, c, cur, e, _⟩
    · exact ⟨none, 0, by rw [e, h0], ⟨.inl h0⟩⟩
    · subst e
      refine ⟨_, c, rfl, ⟨.inr ⟨b, 0, rfl, fun i hi => ⟨xs.getD i nilS, ?_, (r.rS i hi).row⟩⟩⟩⟩
      rw [Nat.zero_add, o.cellAt i (by omega), List.getD_eq_getElem?_getD, List.getElem?_eq_getElem (by have := r.lx; omega)]
      rfl
  have h2 : ∃ aW cW, vW = .slice aW W.length cW ∧ ReadsW wr aW W := by
    have o := r.oW
    rcases o.2 with ⟨e, h0⟩ | ⟨b, c, cur, e, _⟩
    · exact ⟨none, 0, by rw [e, h0], ⟨.inl h0⟩⟩
    · subst e
      refine ⟨_, c, rfl, ⟨.inr ⟨b, 0, rfl, fun i hi => ?_⟩⟩⟩
      have hc := cellsW_at W ys i r.ly hi
      refine ⟨?_, ys.getD i nilS, ?_, (r.rW i hi).row⟩
      · rw [Nat.zero_add, o.cellAt (i * 2) (by omega)]; exact hc.1
      · rw [Nat.zero_add, o.cellAt (i * 2 + 1) (by omega)]; exact hc.2
  obtain ⟨aS, cS, e1, r1⟩ := h1
  obtain ⟨aW, cW, e2, r2⟩ := h2
  exact ⟨aS, cS, aW, cW, e1, e2, r1, r2⟩

theorem Gd.final (h : Gd w g p ad n cap zs wr vS vW S W F D) {k : Nat} {cs : Array Value} (hk : wr.heap[k]? = some (.cells cs 27)) (hkg : g < k) (cs' : Array Value) : (∃ xs ys, Rws w.heap.size (wr.setRow k cs') vS vW S W xs ys) ∧ Cur (wr.setRow k cs') g ad n cap zs := by
  obtain ⟨xs, ys, r⟩ := h.rows
  have hg : wr.grownBy (wr.setRow k cs') (some k) := ⟨rfl, rfl, rfl, by simp, fun q _ hq => setRow_other _ _ _ _ (fun e => hq (by rw [e]))⟩
  exact ⟨⟨xs, ys, r.keep hg (fun q hq => by obtain rfl := Option.some.inj hq; exact ⟨_, _, _, hk, by decide, by decide, by decide⟩)⟩, h.cur.other hg (fun q hq => by cases hq; exact hkg)⟩
/-- The cursor is written, or new blocks are laid. -/
theorem Rws.cursor {B : Nat} {xs ys : List Value} (r : Rws B wr vS vW S W xs ys) (c : Cur wr g ad n cap zs) (hg : wr.grownBy w' (some g)) : Rws B w' vS vW S W xs ys := by
  obtain ⟨i, hh, _, hrow⟩ := c.row
  refine r.keep hg fun k hk => ?_
  obtain rfl := Option.some.inj hk
  exact ⟨_, _, _, hrow, by decide, by decide, by decide⟩
theorem Rws.alloc {B : Nat} {xs ys : List Value} (r : Rws B wr vS vW S W xs ys) (o : Obj) : Rws B (wr.alloc o) vS vW S W xs ys :=
  r.keep (World.grownBy_alloc wr o none) fun k hk => by cases hk
theorem Ry.cursor {v : Value} {z : List Int} (r : Ry wr v z) (c : Cur wr g ad n cap zs) (hg : wr.grownBy w' (some g)) : Ry w' v z := by
  obtain ⟨i, hh, _, hrow⟩ := c.row
  refine r.grown hg fun k hk => ?_
  obtain rfl := Option.some.inj hk
  exact ⟨_, _, _, hrow, by decide⟩

/-- A disk with memory of its own, in a new box. -/
theorem Gd.start {aS : Option Addr} {m c : Nat} (hgl : g < w.heap.size) (hgr : w.grownBy wr (some g)) (hc : Cur wr g ad n cap zs) {lo hi : Nat} (hlo : w.heap.size ≤ lo) (o : OwnD wr lo hi (.slice aS m c) (.slice none 0 0) S []) :
    Gd w g wr.heap.size ad n cap zs (wr.alloc (.cells #[.slice aS m c, .slice none 0 0, .int .i64 F, .bool D] 27)) (.slice aS m c) (.slice none 0 0) S [] F D := by
  obtain ⟨xs, ys, hx, hy, hB, oS, oW⟩ := o.own
  obtain rfl : ys = [] := List.eq_nil_of_length_eq_zero hy
  have hg := World.grownBy_alloc wr (.cells #[.slice aS m c, .slice none 0 0, .int .i64 F, .bool D] 27) none
  refine ⟨hgl, hgr.size, grown_new hgr hg (fun r hr => by cases hr), hc.alloc _, heap_alloc_new wr _, xs, [], ?_⟩
  have r : Rws w.heap.size wr (.slice aS m c) (.slice none 0 0) S [] xs [] := by
    refine ⟨hx, rfl, owns_lower oS hlo, World.ownsRow_nil _ _ _ _, fun i hi' => ?_, fun i hi' => by simp at hi'⟩
    have h1 := hB.own i
    have h2 := hB.bd i
    simp only [List.append_nil, List.map_nil] at h1 h2
    exact Ry.own h1 h2
  exact r.keep hg fun k hk => by cases hk
end
end Go.Proofs.YtnnnehjlegjejaaDoor
