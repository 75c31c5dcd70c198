/- A page in a box whose slots are changed in place. No statement of its own; no conditions. -/
import Derived.Test.YtebhipicfgnajaaGreatMga
namespace Go.Proofs.YtebhipicfgnajaaGreat
open Go.RowKit

theorem own_nk {w : World} {B k : Nat} {e t : TypeId} {s : Nat} {v : Value} {n : Nat} {xs : List Value} {cs : Array Value} {fz : Nat × Nat} (o : w.ownsRow B e s v n xs) (hk : w.heap[k]? = some (.cells cs t fz)) (ht : t ≠ e) : some k ≠ v.ownBlock := by
  rcases oty_ne o hk ht with h | h
  · rw [h]; exact fun e => by cases e
  · exact fun e => h e.symm
theorem grown_set7 (w : World) (g j : Nat) (v : Value) : w.grownBy (w.setCell ⟨g, j, none⟩ v) (some g) :=
  ⟨rfl, rfl, rfl, by rw [set_size]; exact Nat.le_refl _, fun k _ hk => heap_set_ne w g j k v (fun e => hk (by rw [e]))⟩
theorem grown_row7 (w : World) (g : Nat) (cs : Array Value) : w.grownBy (w.setRow g cs) (some g) :=
  ⟨rfl, rfl, rfl, by simp [World.setRow], fun k _ hk => setRow_other w g k cs (fun e => hk (by rw [e]))⟩

structure Liv (w : World) (lo g : Nat) (L : Int) (a : Option Addr) (k c : Nat) (xs : List Value) (ts : List (List Int)) : Prop where
  row : w.heap[g]? = some (.cells #[.int .i64 L, .slice a k c] 97 (0, 0))
  own : w.ownsRow lo 22 1 (.slice a k c) k xs
  bands : Bands w lo w.heap.size xs ts
  len : ts.length = k
section
variable {w w' : World} {lo g : Nat} {L : Int} {a : Option Addr} {k c : Nat} {xs : List Value} {ts : List (List Int)}
theorem Liv.box (h : Liv w lo g L a k c xs ts) : BoxP w g L a k c := BoxP.row h.row
theorem Liv.fz (h : Liv w lo g L a k c xs ts) (i : Nat) : w.frozen? ⟨g, i, none⟩ = false := frozen_of_row _ _ _ _ _ h.row
theorem Liv.lt (h : Liv w lo g L a k c xs ts) : g < w.heap.size := (Array.getElem?_eq_some_iff.1 h.row).1
theorem Liv.below (h : Liv w lo g L a k c xs ts) {B : Nat} (b : Below B w w') (hB : w.heap.size ≤ B) : Liv w' lo g L a k c xs ts := by
  have hs := b.size
  exact ⟨(b.block g (Nat.lt_of_lt_of_le h.lt hB)).trans h.row, owns_below b hB h.own, (h.bands.agree (Agree.below b hB)).mono (Nat.le_refl _) hs, h.len⟩
theorem Liv.ownP (h : Liv w lo g L a k c xs ts) : OwnP w lo w.heap.size (.slice a k c) ts := ⟨⟨xs, by rw [h.len]; exact h.own, h.bands⟩, fun q hq => (h.own.lt q hq).2⟩
theorem Liv.reads (h : Liv w lo g L a k c xs ts) : ReadsS w a ts := h.ownP.rd
/-- A block of another kind is written. -/
theorem Liv.beside (h : Liv w lo g L a k c xs ts) {r : Nat} {cs : Array Value} {t : TypeId} {fz : Nat × Nat} (hr : w.heap[r]? = some (.cells cs t fz)) (h22 : t ≠ 22) (h5 : t ≠ 5) (hg : w.grownBy w' (some r)) (hne : r ≠ g) : Liv w' lo g L a k c xs ts :=
  ⟨(hg.block g h.lt (fun e => hne (by cases e; rfl))).trans h.row, h.own.kept hg (oty_ne h.own hr h22), (h.bands.beside hg (fun i => oty_ne (h.bands.own i) hr h5)).mono (Nat.le_refl _) hg.size, h.len⟩
/-- The number of the page is laid anew. -/
theorem Liv.lsn (h : Liv w lo g L a k c xs ts) (L' : Int) : Liv (w.setCell ⟨g, 0, none⟩ (.int .i64 L')) lo g L' a k c xs ts := by
  have hg := grown_set7 w g 0 (.int .i64 L')
  exact ⟨heap_setCell_same w g 0 _ 97 (.int .i64 L') h.row, h.own.kept hg (oty_ne h.own h.row (by decide)), (h.bands.beside hg (fun i => oty_ne (h.bands.own i) h.row (by decide))).mono (Nat.le_refl _) hg.size, h.len⟩
/-- A row of the call's own is appended. -/
theorem Liv.grow {X w5 : World} {v : Value} {z : List Int} {a2 : Option Addr} {c2 : Nat} (h : Liv w lo g L a k c xs ts) (bX : Below w.heap.size w X) (hlo : lo ≤ w.heap.size) (oX : X.ownsRow w.heap.size 5 1 v z.length (bys z)) (bd : ∀ j, 0 ≤ z.getD j 0 ∧ z.getD j 0 ≤ 255)
    (o1 : w5.ownsRow lo 22 1 (.slice a2 (k + 1) c2) (k + 1) (xs ++ [v])) (hg : X.grownBy w5 (Value.slice a k c).ownBlock) : Liv (w5.setCell ⟨g, 1, none⟩ (.slice a2 (k + 1) c2)) lo g L a2 (k + 1) c2 (xs ++ [v]) (ts ++ [z]) := by
  have hB1 := h.bands.grow hlo bX oX bd (owns_below bX (Nat.le_refl _) h.own) (by decide) hg
  have V2 : w5.heap[g]? = _ := (hg.block g (Nat.lt_of_lt_of_le h.lt bX.size) (own_nk h.own h.row (by decide))).trans ((bX.block g h.lt).trans h.row)
  have hs := grown_set7 w5 g 1 (.slice a2 (k + 1) c2)
  exact ⟨heap_setCell_same w5 g 1 _ 97 (.slice a2 (k + 1) c2) V2, o1.kept hs (oty_ne o1 V2 (by decide)), (hB1.beside hs (fun i => oty_ne (hB1.own i) V2 (by decide))).mono (Nat.le_refl _) hs.size, by simp [h.len]⟩
/-- Another block than the list's and the box's is as it was behind that. -/
theorem Liv.grow_at {X w5 : World} {a2 : Option Addr} {c2 r : Nat} {o : Obj} (_h : Liv w lo g L a k c xs ts) (bX : Below w.heap.size w X) (hg : X.grownBy w5 (Value.slice a k c).ownBlock) (hr : w.heap[r]? = some o) (hne : some r ≠ (Value.slice a k c).ownBlock) (hrg : r ≠ g) : (w5.setCell ⟨g, 1, none⟩ (.slice a2 (k + 1) c2)).heap[r]? = some o := by
  have hl := (Array.getElem?_eq_some_iff.1 hr).1
  exact (heap_set_ne _ _ _ _ _ hrg).trans ((hg.block r (Nat.lt_of_lt_of_le hl bX.size) hne).trans ((bX.block r hl).trans hr))
/-- A slot is laid anew. -/
theorem Liv.put {gl : Nat} {X : World} {v : Value} {z : List Int} {i : Nat} (h : Liv w lo g L (some ⟨gl, 0, none⟩) k c xs ts) (bX : Below w.heap.size w X) (hlo : lo ≤ w.heap.size) (oX : X.ownsRow w.heap.size 5 1 v z.length (bys z)) (bd : ∀ j, 0 ≤ z.getD j 0 ∧ z.getD j 0 ≤ 255) (hi : i < k) :
    Liv (X.setCell ⟨gl, i, none⟩ v) lo g L (some ⟨gl, 0, none⟩) k c (xs.set i v) (ts.set i z) := by
  have hX := h.below bX (Nat.le_refl _)
  have st := hX.own.stored i v
  have B1 := (h.bands.agree (Agree.below bX (Nat.le_refl _))).swap hlo bX.size (i := i) (by rw [h.len]; exact hi) oX bd (Nat.le_refl _)
  refine ⟨(st.2.block g hX.lt (own_nk hX.own hX.row (by decide))).trans hX.row, st.1, ?_, by rw [List.length_set]; exact h.len⟩
  exact (B1.beside st.2 (fun q => owns_ne (B1.own q) hX.own (by decide))).mono (Nat.le_refl _) st.2.size
theorem Liv.put_at {gl : Nat} {X : World} {v : Value} {i r : Nat} {o : Obj} (bX : Below w.heap.size w X) (hr : w.heap[r]? = some o) (hne : r ≠ gl) : (X.setCell ⟨gl, i, none⟩ v).heap[r]? = some o :=
  (heap_set_ne _ _ _ _ _ hne).trans ((bX.block r (Array.getElem?_eq_some_iff.1 hr).1).trans hr)
/-- The list is cut. -/
theorem Liv.cut {gl j : Nat} (h : Liv w lo g L (some ⟨gl, 0, none⟩) k c xs ts) (hj : j ≤ k) : Liv (w.setCell ⟨g, 1, none⟩ (.slice (some ⟨gl, 0, none⟩) j c)) lo g L (some ⟨gl, 0, none⟩) j c (xs.take j) (ts.take j) := by
  have hs := grown_set7 w g 1 (.slice (some ⟨gl, 0, none⟩) j c)
  have o1 : w.ownsRow lo 22 1 (.slice (some ⟨gl, 0, none⟩) j c) j (xs.take j) := by
    have hxl := h.own.1
    refine ⟨by simp; omega, .inr ?_⟩
    rcases h.own.2 with ⟨e, _⟩ | ⟨g', cap, cur, e, hb, hgg, hnc, hcm, hcs, ht⟩
    · cases e
    · obtain ⟨e1, _, rfl⟩ := Value.slice.inj e
      obtain rfl : gl = g' := by cases e1; rfl
      refine ⟨gl, c, cur, rfl, hb, hgg, by omega, hcm, hcs, ?_⟩
      have : (cur.toList.take (k * 1)).take (j * 1) = xs.take (j * 1) := by rw [ht]
      rw [List.take_take, Nat.min_eq_left (by omega)] at this
      simpa using this
  have b1 : Bands w lo w.heap.size (xs.take j) (ts.take j) := by
    have := h.bands
    rw [← List.take_append_drop j xs, ← List.take_append_drop j ts] at this
    have hl := h.bands.len
    exact this.left (by simp; omega)
  exact ⟨heap_setCell_same w g 1 _ 97 (.slice (some ⟨gl, 0, none⟩) j c) h.row, o1.kept hs (oty_ne o1 h.row (by decide)), (b1.beside hs (fun i => oty_ne (b1.own i) h.row (by decide))).mono (Nat.le_refl _) hs.size, by simp [h.len]; omega⟩
end
end Go.Proofs.YtebhipicfgnajaaGreat
