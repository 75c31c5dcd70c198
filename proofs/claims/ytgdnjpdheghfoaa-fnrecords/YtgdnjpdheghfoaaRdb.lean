/- Byte rows told apart by their type; what stays while other blocks are written. No statement of its own; no conditions. -/
import Derived.Test.YtgdnjpdheghfoaaDrawf
import Derived.Test.YtgdnjpdheghfoaaRl
import Derived.Test.YtgdnjpdheghfoaaAl
namespace Go.Proofs.Ytgdnjpdheghfoaa
open Go.RowKit

theorem bd_set {L : List Int} {y : Int} (k : Nat) (hb : ∀ i, 0 ≤ L.getD i 0 ∧ L.getD i 0 ≤ 255) (h0 : 0 ≤ y) (h1 : y ≤ 255) : ∀ i, 0 ≤ (L.set k y).getD i 0 ∧ (L.set k y).getD i 0 ≤ 255 := by
  intro i
  by_cases h : k < L.length
  · rw [getD_set' L k i y 0 h]
    split
    · exact ⟨h0, h1⟩
    · exact hb i
  · rw [List.set_eq_of_length_le (by omega)]; exact hb i
theorem bys_set (L : List Int) (k : Nat) (y : Int) : (bys L).set k (.int .u8 y) = bys (L.set k y) := by
  unfold bys; rw [List.map_set]

/-- A slice of bytes that reads as z, in a block of bytes. -/
structure Ry (w : World) (v : Value) (z : List Int) : Prop where
  row : Row w v z
  ty : ∀ a c, v = .slice (some a) z.length c → 0 < z.length → ∃ cs fz, w.heap[a.block]? = some (.cells cs 5 fz)
  cp : ∀ a m c, v = .slice a m c → m ≤ c

theorem Ry.grown {w w' : World} {v : Value} {z : List Int} (h : Ry w v z) {row : Option Nat} (hg : w.grownBy w' row) (hr : ∀ k, row = some k → ∃ cs t fz, w.heap[k]? = some (.cells cs t fz) ∧ t ≠ 5) : Ry w' v z := by
  obtain ⟨a, c, rfl, h2, h3⟩ := h.row
  have key : ∀ b, a = some b → 0 < z.length → some b.block ≠ row := by
    intro b hb hz e
    subst hb
    obtain ⟨cs, fz, h4⟩ := h.ty b c rfl hz
    obtain ⟨cs', t, fz', h5, h6⟩ := hr _ e.symm
    rw [h4] at h5
    simp only [Option.some.injEq, Obj.cells.injEq] at h5
    exact h6 h5.2.1.symm
  refine ⟨⟨a, c, rfl, ?_, h3⟩, ?_, h.cp⟩
  · by_cases h0 : z.length = 0
    · exact ⟨h2.len, .inl h0, h2.bd⟩
    · exact h2.other hg (fun b hb => key b hb (by omega))
  · intro b c' hb hz
    obtain ⟨cs, fz, h4⟩ := h.ty b c' hb hz
    exact ⟨cs, fz, by rw [hg.block b.block (Array.getElem?_eq_some_iff.1 h4).1 (key b (by simpa using (Value.slice.inj hb).1) hz)]; exact h4⟩

theorem Ry.own {w : World} {base n : Nat} {v : Value} {z : List Int} (h : w.ownsRow base 5 1 v n (bys z)) (hbd : ∀ i, 0 ≤ z.getD i 0 ∧ z.getD i 0 ≤ 255) : Ry w v z := by
  refine ⟨Row.own h hbd, fun a c hv _ => ?_, fun a m c hv => ?_⟩
  · rcases h.2 with ⟨h1, _⟩ | ⟨g, cap, cur, h1, _, hg, _⟩
    · rw [h1] at hv; exact absurd (Value.slice.inj hv).1 (by simp)
    · rw [h1] at hv
      have := (Value.slice.inj hv).1
      simp only [Option.some.injEq] at this
      subst this
      exact ⟨cur, _, hg⟩
  · rcases h.2 with ⟨h1, _⟩ | ⟨g, cap, cur, h1, _, hg, h2, _⟩
    · rw [h1] at hv; obtain ⟨_, rfl, rfl⟩ := Value.slice.inj hv; exact Nat.le_refl _
    · rw [h1] at hv; obtain ⟨_, rfl, rfl⟩ := Value.slice.inj hv; exact h2
theorem Ry.still {w w' : World} {v : Value} {z : List Int} (h : Ry w v z) (hs : Still w w') : Ry w' v z := by
  obtain ⟨a, c, rfl, h2, h3⟩ := h.row
  exact ⟨⟨a, c, rfl, hs.reads h2, h3⟩, fun b c' hb hz => by rw [hs.heap]; exact h.ty b c' hb hz, h.cp⟩
theorem Ry.tail {w : World} {ad : Option Addr} {m c : Nat} {z : List Int} (h : Ry w (.slice ad m c) z) (hz : 0 < z.length) : ∃ b off, ad = some ⟨b, off, none⟩ ∧ m = z.length ∧ Ry w (.slice (some ⟨b, off + 1, none⟩) (m - 1) (c - 1)) (z.drop 1) := by
  obtain ⟨a, c', e, h2, h3⟩ := h.row
  obtain ⟨rfl, rfl, rfl⟩ := Value.slice.inj e
  rcases h2.cells with h0 | ⟨b, off, rfl, hc⟩
  · omega
  · refine ⟨b, off, rfl, rfl, ⟨⟨_, _, by rw [List.length_drop], ⟨by simp, .inr ⟨b, off + 1, rfl, fun i hi => ?_⟩, fun i => ?_⟩, fun hh => by simp at hh, by rw [List.length_drop]; omega⟩, fun x y hx _ => ?_, fun x y q hx => ?_⟩⟩
    · have := hc (i + 1) (by simp at hi; omega)
      rw [show off + 1 + i = off + (i + 1) by omega, this]
      simp [List.getD_eq_getElem?_getD]
    · have := h2.bd (i + 1)
      simpa [List.getD_eq_getElem?_getD, Nat.add_comm] using this
    · have hx' := (Value.slice.inj hx).1
      simp only [Option.some.injEq] at hx'
      subst hx'
      exact h.ty ⟨b, off, none⟩ _ rfl hz
    · have := h.cp _ _ _ rfl
      obtain ⟨_, rfl, rfl⟩ := Value.slice.inj hx
      omega

theorem own_ty_ne {w : World} {B k : Nat} {e t : TypeId} {s : Nat} {v : Value} {n : Nat} {xs cs : _} {fz : _} (o : w.ownsRow B e s v n xs) (hk : w.heap[k]? = some (.cells cs t fz)) (ht : t ≠ e) : v.ownBlock = none ∨ v.ownBlock ≠ some k := by
  rcases o.2 with ⟨rfl, _⟩ | ⟨g, cap, cur, rfl, _, hg, _⟩
  · exact .inl rfl
  · right
    intro he
    simp only [Value.ownBlock, Option.some.injEq] at he
    subst he
    rw [hg] at hk
    simp only [Option.some.injEq, Obj.cells.injEq] at hk
    exact ht hk.2.1.symm

section
variable {wr w' : World} {g : Nat} {ad : Option Addr} {n cap : Nat} {zs : List Int}
theorem Ry.cursor {v : Value} {z : List Int} (r : Ry wr v z) (c : Cur wr g ad n cap zs) (hg : wr.grownBy w' (some g)) : Ry w' v z := by
  obtain ⟨i, hh, _, hrow⟩ := c.row
  refine r.grown hg fun k hk => ?_
  obtain rfl := Option.some.inj hk
  exact ⟨_, _, _, hrow, by decide⟩
end

/-- A record that is being drawn, in the box p; since the world w, nothing but the cursor and what is new has turned. -/
structure Br (w : World) (g p : Nat) (ad : Option Addr) (n cap : Nat) (zs : List Int) (wr : World) (K L X P S : Int) (v : Value) (D : List Int) : Prop where
  gl : g < w.heap.size
  lo : w.heap.size ≤ p
  gr : w.grownBy wr (some g)
  cur : Cur wr g ad n cap zs
  box : wr.heap[p]? = some (.cells #[.int .i64 K, .int .i64 L, .int .i64 X, .int .i64 P, .int .i64 S, v] 36)
  own : wr.ownsRow w.heap.size 5 1 v D.length (bys D)
  bd : ∀ i, 0 ≤ D.getD i 0 ∧ D.getD i 0 ≤ 255
section
variable {w : World} {g p : Nat} {ad : Option Addr} {n cap : Nat} {zs : List Int} {wr w' : World} {K L X P S : Int} {v : Value} {D : List Int}
theorem Br.size (h : Br w g p ad n cap zs wr K L X P S v D) : w.heap.size ≤ wr.heap.size := h.gr.size
theorem Br.plt (h : Br w g p ad n cap zs wr K L X P S v D) : p < wr.heap.size := (Array.getElem?_eq_some_iff.1 h.box).1
theorem Br.cells (h : Br w g p ad n cap zs wr K L X P S v D) : BoxR wr p K L X P S (match v with | .slice a _ _ => a | _ => none) (match v with | .slice _ m _ => m | _ => 0) (match v with | .slice _ _ c => c | _ => 0) := by
  have hv : ∃ a m c, v = .slice a m c := by
    rcases h.own.2 with ⟨h1, _⟩ | ⟨g', cap', cur, h1, _⟩
    · exact ⟨_, _, _, h1⟩
    · exact ⟨_, _, _, h1⟩
  obtain ⟨a, m, c, rfl⟩ := hv
  have t := h.box
  refine ⟨?_, ?_, ?_, ?_, ?_, ?_⟩ <;> (rw [cell_of_row _ _ _ _ _ _ t]; rfl)
theorem Br.c5 {a : Option Addr} {m c : Nat} (h : Br w g p ad n cap zs wr K L X P S (.slice a m c) D) : wr.cell? ⟨p, 5, none⟩ = some (.slice a m c) := h.cells.c5
theorem Br.form (h : Br w g p ad n cap zs wr K L X P S v D) : ∃ a c, v = .slice a D.length c ∧ (a = none → c = 0) := by
  rcases h.own.2 with ⟨h1, h2⟩ | ⟨g', cap', cur, h1, _⟩
  · exact ⟨none, 0, by rw [h1, h2], fun _ => rfl⟩
  · exact ⟨_, _, h1, fun hh => by cases hh⟩
theorem Br.froz (h : Br w g p ad n cap zs wr K L X P S v D) (i : Nat) : wr.frozen? ⟨p, i, none⟩ = false := frozen_of_row _ _ _ _ _ h.box
theorem Br.still (h : Br w g p ad n cap zs wr K L X P S v D) (hs : Still wr w') : Br w g p ad n cap zs w' K L X P S v D :=
  ⟨h.gl, h.lo, grown_still h.gr hs, h.cur.still hs, by rw [hs.heap]; exact h.box, owns_agree (lo := 0) (hi := wr.heap.size) h.own (fun k _ _ => by rw [hs.heap]) (fun k hk => ⟨Nat.zero_le _, (h.own.lt k hk).2⟩), h.bd⟩
theorem Br.drew (h : Br w g p ad n cap zs wr K L X P S v D) : Br w g p ad n cap zs wr.drew K L X P S v D := h.still (Still.drew wr)
theorem Br.cursor (h : Br w g p ad n cap zs wr K L X P S v D) (c' : Cur w' g ad n cap zs) (hg : wr.grownBy w' (some g)) : Br w g p ad n cap zs w' K L X P S v D := by
  have hl := h.lo
  have hgl := h.gl
  refine ⟨h.gl, h.lo, grown_trans h.gr hg, c', (hg.block p h.plt (by simp; omega)).trans h.box, h.own.kept hg ?_, h.bd⟩
  cases hv : v.ownBlock with
  | none => exact .inl rfl
  | some k => exact .inr (by have := (h.own.lt k hv).1; simp; omega)
theorem Br.alloc (h : Br w g p ad n cap zs wr K L X P S v D) (o : Obj) : Br w g p ad n cap zs (wr.alloc o) K L X P S v D := by
  have hg := World.grownBy_alloc wr o none
  exact ⟨h.gl, h.lo, grown_new h.gr hg (fun r hr => by cases hr), h.cur.alloc o, (hg.block p h.plt (by simp)).trans h.box, h.own.alloc o, h.bd⟩
theorem Br.fresh (h : Br w g p ad n cap zs wr K L X P S v D) (hg : wr.grownBy w' none) : Br w g p ad n cap zs w' K L X P S v D :=
  ⟨h.gl, h.lo, grown_new h.gr hg (fun r hr => by cases hr), h.cur.other hg (fun r hr => by cases hr), (hg.block p h.plt (by simp)).trans h.box, h.own.kept hg (by cases hv : v.ownBlock <;> simp), h.bd⟩
theorem Br.set (h : Br w g p ad n cap zs wr K L X P S v D) (i : Nat) (u : Value) {K' L' X' P' S' : Int} {v' : Value} {D' : List Int} (hu : (#[.int .i64 K, .int .i64 L, .int .i64 X, .int .i64 P, .int .i64 S, v] : Array Value).setIfInBounds i u = #[.int .i64 K', .int .i64 L', .int .i64 X', .int .i64 P', .int .i64 S', v'])
    (o : wr.ownsRow w.heap.size 5 1 v' D'.length (bys D')) (hb : ∀ i, 0 ≤ D'.getD i 0 ∧ D'.getD i 0 ≤ 255) : Br w g p ad n cap zs (wr.setCell ⟨p, i, none⟩ u) K' L' X' P' S' v' D' := by
  have hg := grown_setCell wr p i u
  have hl := h.lo
  have hgl := h.gl
  refine ⟨h.gl, h.lo, grown_new h.gr hg (fun q hq => by cases hq; exact hl), h.cur.other hg (fun q hq => by cases hq; omega), ?_, o.kept hg (own_ty_ne o h.box (by decide)), hb⟩
  rw [heap_setCell_same wr p i _ _ u h.box, hu]
theorem Br.setK (h : Br w g p ad n cap zs wr K L X P S v D) (x : Int) : Br w g p ad n cap zs (wr.setCell ⟨p, 0, none⟩ (.int .i64 x)) x L X P S v D := h.set 0 _ rfl h.own h.bd
theorem Br.setL (h : Br w g p ad n cap zs wr K L X P S v D) (x : Int) : Br w g p ad n cap zs (wr.setCell ⟨p, 1, none⟩ (.int .i64 x)) K x X P S v D := h.set 1 _ rfl h.own h.bd
theorem Br.setX (h : Br w g p ad n cap zs wr K L X P S v D) (x : Int) : Br w g p ad n cap zs (wr.setCell ⟨p, 2, none⟩ (.int .i64 x)) K L x P S v D := h.set 2 _ rfl h.own h.bd
theorem Br.setP (h : Br w g p ad n cap zs wr K L X P S v D) (x : Int) : Br w g p ad n cap zs (wr.setCell ⟨p, 3, none⟩ (.int .i64 x)) K L X x S v D := h.set 3 _ rfl h.own h.bd
theorem Br.setS (h : Br w g p ad n cap zs wr K L X P S v D) (x : Int) : Br w g p ad n cap zs (wr.setCell ⟨p, 4, none⟩ (.int .i64 x)) K L X P x v D := h.set 4 _ rfl h.own h.bd
theorem Br.setV (h : Br w g p ad n cap zs wr K L X P S v D) {v' : Value} {D' : List Int} (o : wr.ownsRow w.heap.size 5 1 v' D'.length (bys D')) (hb : ∀ i, 0 ≤ D'.getD i 0 ∧ D'.getD i 0 ≤ 255) : Br w g p ad n cap zs (wr.setCell ⟨p, 5, none⟩ v') K L X P S v' D' := h.set 5 _ rfl o hb
/-- The data's row is grown; then the box is told. -/
theorem Br.grow (h : Br w g p ad n cap zs wr K L X P S v D) (hg : wr.grownBy w' v.ownBlock) : w'.heap[p]? = some (.cells #[.int .i64 K, .int .i64 L, .int .i64 X, .int .i64 P, .int .i64 S, v] 36) ∧ Cur w' g ad n cap zs ∧ w.grownBy w' (some g) := by
  have hgl := h.gl
  refine ⟨(hg.block p h.plt (fun e => ?_)).trans h.box, h.cur.other hg (fun q hq => by have := (h.own.lt q hq).1; omega), grown_new h.gr hg (fun q hq => (h.own.lt q hq).1)⟩
  rcases own_ty_ne h.own h.box (by decide) with h1 | h1
  · rw [h1] at e; cases e
  · exact h1 e.symm
theorem Br.app (h : Br w g p ad n cap zs wr K L X P S v D) (hg : wr.grownBy w' v.ownBlock) {v' : Value} {D' : List Int} (o : w'.ownsRow w.heap.size 5 1 v' D'.length (bys D')) (hb : ∀ i, 0 ≤ D'.getD i 0 ∧ D'.getD i 0 ≤ 255) : Br w g p ad n cap zs (w'.setCell ⟨p, 5, none⟩ v') K L X P S v' D' := by
  obtain ⟨hbox, hc, hgr⟩ := h.grow hg
  have hs := grown_setCell w' p 5 v'
  have hl := h.lo
  have hgl := h.gl
  refine ⟨h.gl, h.lo, grown_new hgr hs (fun q hq => by cases hq; exact hl), hc.other hs (fun q hq => by cases hq; omega), ?_, o.kept hs (own_ty_ne o hbox (by decide)), hb⟩
  rw [heap_setCell_same w' p 5 _ _ v' hbox]; rfl
/-- Another row of new bytes is grown. -/
theorem Br.beside (h : Br w g p ad n cap zs wr K L X P S (.slice none 0 0) []) {v' : Value} {m : Nat} {xs : List Value} (o : wr.ownsRow w.heap.size 5 1 v' m xs) (hg : wr.grownBy w' v'.ownBlock) : Br w g p ad n cap zs w' K L X P S (.slice none 0 0) [] := by
  have hgl := h.gl
  refine ⟨h.gl, h.lo, grown_new h.gr hg (fun q hq => (o.lt q hq).1), h.cur.other hg (fun q hq => by have := (o.lt q hq).1; omega), (hg.block p h.plt (fun e => ?_)).trans h.box, World.ownsRow_nil _ _ _ _, h.bd⟩
  rcases own_ty_ne o h.box (by decide) with h1 | h1
  · rw [h1] at e; cases e
  · exact h1 e.symm
/-- A byte of the data is written. -/
theorem Br.byte {m c k : Nat} (h : Br w g p ad n cap zs wr K L X P S (.slice (some ⟨k, 0, none⟩) m c) D) (y : Nat) (t : Int) (h0 : 0 ≤ t) (h1 : t ≤ 255) : Br w g p ad n cap zs (wr.setCell ⟨k, y, none⟩ (.int .u8 t)) K L X P S (.slice (some ⟨k, 0, none⟩) m c) (D.set y t) := by
  have hm : m = D.length := by
    rcases h.own.2 with ⟨h1, _⟩ | ⟨g', cap', cur, h1, _⟩
    · exact absurd (Value.slice.inj h1).1 (by simp)
    · exact (Value.slice.inj h1).2.1
  subst hm
  obtain ⟨o, hg⟩ := h.own.stored y (.int .u8 t)
  rw [bys_set] at o
  obtain ⟨hbox, hc, hgr⟩ := h.grow hg
  exact ⟨h.gl, h.lo, hgr, hc, hbox, by rw [List.length_set]; exact o, bd_set y h.bd h0 h1⟩
theorem Br.start {v : Value} {D : List Int} (hgl : g < w.heap.size) (hgr : w.grownBy wr (some g)) (hc : Cur wr g ad n cap zs) (o : wr.ownsRow w.heap.size 5 1 v D.length (bys D)) (hb : ∀ i, 0 ≤ D.getD i 0 ∧ D.getD i 0 ≤ 255) :
    Br w g wr.heap.size ad n cap zs (wr.alloc (.cells #[.int .i64 K, .int .i64 L, .int .i64 X, .int .i64 P, .int .i64 S, v] 36)) K L X P S v D :=
  ⟨hgl, hgr.size, grown_new hgr (World.grownBy_alloc wr _ none) (fun r hr => by cases hr), hc.alloc _, heap_alloc_new wr _, o.alloc _, hb⟩
end
end Go.Proofs.Ytgdnjpdheghfoaa
