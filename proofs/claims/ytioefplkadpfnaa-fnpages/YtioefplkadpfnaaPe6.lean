/- A drawn page that is spoilt: what is known of it and of memory. No conditions. -/
import Derived.Test.YtioefplkadpfnaaPd7
import Derived.Laws.MakeOwn
namespace Go.Proofs.Ytioefplkadpfnaa
open Go.RowKit
set_option maxRecDepth 100000

/-- Few and short slots. -/
structure Sm2 (ss : List (List Int)) : Prop where
  n : ss.length ≤ 40
  z : ∀ i, (ss.getD i []).length ≤ 200
theorem SmP.two {ss : List (List Int)} (h : SmP ss) : Sm2 ss := ⟨by have := h.n; omega, fun i => by have := h.z i; omega⟩
theorem Sm2.app {ss ts : List (List Int)} (h1 : ∀ i, (ss.getD i []).length ≤ 200) (h2 : ∀ i, (ts.getD i []).length ≤ 200) : ∀ i, ((ss ++ ts).getD i []).length ≤ 200 := by
  intro i
  rw [getD_app]
  split
  · exact h1 i
  · exact h2 _
theorem rep_bd (n : Nat) : ∀ i, 0 ≤ (List.replicate n (0 : Int)).getD i 0 ∧ (List.replicate n (0 : Int)).getD i 0 ≤ 255 := by
  intro j
  rw [List.getD_eq_getElem?_getD, List.getElem?_replicate]
  split <;> simp
theorem one_z (z : List Int) (h : z.length ≤ 200) : ∀ i, (([z] : List (List Int)).getD i []).length ≤ 200 := fun i => by
  match i with
  | 0 => exact h
  | i + 1 => simp
/-- A row of zeros. -/
theorem mkZ (m : Int) (h0 : 0 ≤ m) (h1 : m ≤ 1000) (w : World) : (Instr.makeSlice 22 (.int .i64 m) (.int .i64 m)).run Try.prog w = .ok (.slice (some ⟨w.heap.size, 0, none⟩) m.toNat m.toNat) (w.alloc (.cells (madeCells #[.int .u8 0] m.toNat) 5)) := by
  obtain ⟨i0, hi, hz0, hz1, hz2⟩ := info_parts Try.info5
  have := run_make (P := Try.prog) w 22 5 i0 (.int .u8 0) Try.underlying22 hi hz0 .i64 .i64 m m h0 (by omega) (by rw [hz2]; omega) (by omega)
  rw [this, hz1, Nat.mul_one]
  rfl
theorem ownZ (n : Nat) (hn : n ≤ 1000) (w : World) : (w.alloc (.cells (madeCells #[.int .u8 0] n) 5)).ownsRow w.heap.size 5 1 (.slice (some ⟨w.heap.size, 0, none⟩) n n) n (bys (List.replicate n 0)) := by
  have := World.ownsRow_lit (base := w.heap.size) (e := 5) (size := 1) w (madeCells #[.int .u8 0] n) n (Nat.le_refl _) (by unfold maxLen; omega) (by rw [size_madeCells, Nat.mul_one])
  rw [toList_madeCells_one] at this
  simpa [bys] using this

/-- A drawn page in a box, changed in place; the answer's box beside it. -/
structure PbS (w wr E : World) (pb rb g : Nat) (ad : Option Addr) (nn cap : Nat) (zs : List Int) (L : Int) (a : Option Addr) (k c : Nat) (xs : List Value) (ss : List (List Int)) : Prop where
  row : wr.heap[pb]? = some (.cells #[.int .i64 L, .slice a k c] 26 (0, 0))
  own : wr.ownsRow w.heap.size 22 1 (.slice a k c) k xs
  bands : Bands wr w.heap.size wr.heap.size xs ss
  len : ss.length = k
  res : wr.heap[rb]? = some (.cells #[.int .i64 0, .slice none 0 0] 26 (0, 0))
  cur : Cur wr g ad nn cap zs
  gr : w.grownBy wr (some g)
  pbl : w.heap.size ≤ pb
  rbl : w.heap.size ≤ rb
  ne : rb ≠ pb
  gl : g < w.heap.size
  keep : ∀ (q : Nat) (cs : Array Value), E.heap[q]? = some (.cells cs 26 (0, 0)) → q ≠ pb → q ≠ rb → wr.heap[q]? = some (.cells cs 26 (0, 0))
section
variable {w wr wr' X w5 E : World} {pb rb g : Nat} {ad : Option Addr} {nn cap : Nat} {zs : List Int} {L : Int} {a : Option Addr} {k c : Nat} {xs : List Value} {ss : List (List Int)}
theorem PbS.liv (h : PbS w wr E pb rb g ad nn cap zs L a k c xs ss) : Liv wr w.heap.size pb L a k c xs ss := ⟨h.row, h.own, h.bands, h.len⟩
theorem PbS.box (h : PbS w wr E pb rb g ad nn cap zs L a k c xs ss) : BoxP wr pb L a k c := BoxP.row h.row
theorem PbS.plt (h : PbS w wr E pb rb g ad nn cap zs L a k c xs ss) : pb < wr.heap.size := (Array.getElem?_eq_some_iff.1 h.row).1
theorem PbS.rlt (h : PbS w wr E pb rb g ad nn cap zs L a k c xs ss) : rb < wr.heap.size := (Array.getElem?_eq_some_iff.1 h.res).1
theorem PbS.below (h : PbS w wr E pb rb g ad nn cap zs L a k c xs ss) (b : Below wr.heap.size wr wr') : PbS w wr' E pb rb g ad nn cap zs L a k c xs ss :=
  have l := h.liv.below b (Nat.le_refl _)
  ⟨l.row, l.own, l.bands, h.len, (b.block _ h.rlt).trans h.res, h.cur.below b (Nat.le_refl _), grown_new h.gr (below_grown b) (fun r e => by cases e), h.pbl, h.rbl, h.ne, h.gl, fun q cs hq h1 h2 => have k := h.keep q cs hq h1 h2; (b.block q (Array.getElem?_eq_some_iff.1 k).1).trans k⟩
theorem PbS.go (h : PbS w wr E pb rb g ad nn cap zs L a k c xs ss) (c' : Cur wr' g ad nn cap zs) (hg : wr.grownBy wr' (some g)) : PbS w wr' E pb rb g ad nn cap zs L a k c xs ss := by
  have h1 := h.pbl
  have h2 := h.rbl
  have hl := h.gl
  obtain ⟨i, y, _, hr⟩ := h.cur.row
  exact ⟨(hg.block _ h.plt (by simp; omega)).trans h.row, h.own.kept hg (oty_ne h.own hr (by decide)), (h.bands.beside hg (fun i => oty_ne (h.bands.own i) hr (by decide))).mono (Nat.le_refl _) hg.size, h.len, (hg.block _ h.rlt (by simp; omega)).trans h.res, c', grown_trans h.gr hg, h.pbl, h.rbl, h.ne, h.gl, fun q cs hq h1 h2 => by
    have k := h.keep q cs hq h1 h2
    refine (hg.block q (Array.getElem?_eq_some_iff.1 k).1 ?_).trans k
    intro e
    have e2 := Option.some.inj e
    subst e2
    rw [k] at hr
    have := Option.some.inj hr
    simp at this⟩
theorem PbS.lsn (h : PbS w wr E pb rb g ad nn cap zs L a k c xs ss) (L2 : Int) : PbS w (wr.setCell ⟨pb, 0, none⟩ (.int .i64 L2)) E pb rb g ad nn cap zs L2 a k c xs ss := by
  have h1 := h.pbl
  have hl := h.gl
  have l := h.liv.lsn L2
  have g := grown_set7 wr pb 0 (.int .i64 L2)
  exact ⟨l.row, l.own, l.bands, h.len, (g.block _ h.rlt (fun e => h.ne (Option.some.inj e))).trans h.res, h.cur.other g (fun r e => by cases e; omega), grown_new h.gr g (fun r e => by cases e; omega), h.pbl, h.rbl, h.ne, h.gl, fun q cs hq h1 h2 => have k := h.keep q cs hq h1 h2; (g.block q (Array.getElem?_eq_some_iff.1 k).1 (fun e => h1 (Option.some.inj e))).trans k⟩
theorem PbS.grow (h : PbS w wr E pb rb g ad nn cap zs L a k c xs ss) (bX : Below wr.heap.size wr X) {vs : List Value} {ts : List (List Int)} (hBX : Bands X w.heap.size X.heap.size (xs ++ vs) (ss ++ ts)) {a2 : Option Addr} {K c2 : Nat} (o1 : w5.ownsRow w.heap.size 22 1 (.slice a2 K c2) K (xs ++ vs)) (hg : X.grownBy w5 (Value.slice a k c).ownBlock) (hK : (ss ++ ts).length = K) :
    PbS w (w5.setCell ⟨pb, 1, none⟩ (.slice a2 K c2)) E pb rb g ad nn cap zs L a2 K c2 (xs ++ vs) (ss ++ ts) := by
  have h1 := h.pbl
  have h2 := h.rbl
  have hl := h.gl
  have hX := h.below bX
  have n1 := own_nk hX.own hX.row (by decide)
  have n2 := own_nk hX.own hX.res (by decide)
  have r5 : w5.heap[pb]? = _ := (hg.block _ hX.plt n1).trans hX.row
  have s5 : w5.heap[rb]? = _ := (hg.block _ hX.rlt n2).trans hX.res
  have g2 := grown_set7 w5 pb 1 (.slice a2 K c2)
  have hb := (hBX.mono (Nat.le_refl _) hg.size).beside hg (fun i => owns_ne (hBX.own i) hX.own (by decide))
  have c5 := hX.cur.other hg (fun r e => by have := (hX.own.lt r e).1; omega)
  have e5 := grown_new hX.gr hg (fun r e => (hX.own.lt r e).1)
  exact ⟨heap_setCell_same w5 pb 1 _ 26 (.slice a2 K c2) r5, o1.kept g2 (oty_ne o1 r5 (by decide)), (hb.beside g2 (fun i => oty_ne (hb.own i) r5 (by decide))).mono (Nat.le_refl _) g2.size, hK, (g2.block _ (Array.getElem?_eq_some_iff.1 s5).1 (fun e => h.ne (Option.some.inj e))).trans s5, c5.other g2 (fun r e => by cases e; omega), grown_new e5 g2 (fun r e => by cases e; omega), h.pbl, h.rbl, h.ne, h.gl, fun q cs hq h1 h2 => by
    have k := hX.keep q cs hq h1 h2
    have k5 : w5.heap[q]? = _ := (hg.block q (Array.getElem?_eq_some_iff.1 k).1 (own_nk hX.own k (by decide))).trans k
    exact (g2.block q (Array.getElem?_eq_some_iff.1 k5).1 (fun e => h1 (Option.some.inj e))).trans k5⟩
end

set_option maxHeartbeats 1600000 in
theorem l1PickInt {w : World} {g q : Nat} {ad : Option Addr} {nn cap : Nat} {zs : List Int} (cu : Cur w g ad nn cap zs) (hn : nn ≤ 2097152) {p0 p1 p2 : Int} (hq : w.heap[q]? = some (.cells #[.int .i64 p0, .int .i64 p1, .int .i64 p2] 3 (0, 0))) (hgq : g < q) :
    Calls Try.prog 50 #[.pointer (some ⟨g, 0, none⟩), .slice (some ⟨q, 0, none⟩) 3 3] w fun e w' => ∃ y : Int, e = .returned (.int .i64 y) ∧ (y = p0 ∨ y = p1 ∨ y = p2) ∧ Cur w' g ad nn cap zs ∧ w.grownBy w' (some g) := by
  go_enter Try.func50, Try.ntmps50
  go_wp2_with fail
  refine (l1Below cu hn 3 (by omega) (by omega)).mono ?_
  rintro e w1 ⟨x, rfl, x0, x1, c', gg⟩
  have hr := tup_cur hq hgq gg
  have c0 : w1.cell? ⟨q, 0, none⟩ = some (.int .i64 p0) := cell_of_row _ _ 0 _ _ _ hr
  have c1 : w1.cell? ⟨q, 1, none⟩ = some (.int .i64 p1) := cell_of_row _ _ 1 _ _ _ hr
  have c2 : w1.cell? ⟨q, 2, none⟩ = some (.int .i64 p2) := cell_of_row _ _ 2 _ _ _ hr
  have HC := hid c'
  have HG := hid gg
  clear c' gg hr cu hq
  rcases (show x = 0 ∨ x = 1 ∨ x = 2 by omega) with rfl | rfl | rfl
  · go_wp2_with fail
    go_ret
    exact ⟨p0, rfl, .inl rfl, HC.out, HG.out⟩
  · go_wp2_with fail
    go_ret
    exact ⟨p1, rfl, .inr (.inl rfl), HC.out, HG.out⟩
  · go_wp2_with fail
    go_ret
    exact ⟨p2, rfl, .inr (.inr rfl), HC.out, HG.out⟩
end Go.Proofs.Ytioefplkadpfnaa
