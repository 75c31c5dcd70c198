/- A tree in a block; texts of a tree that measures little. No statement of its own; no conditions. -/
import Derived.Test.YtlkoghdajpbffaaGreatMgt
namespace Go.Proofs.YtlkoghdajpbffaaGreat
open Go.RowKit
set_option maxRecDepth 100000
structure BoxTr (w : World) (g : Nat) (v : Value) (rt : Int) : Prop where
 c0 : w.cell? ⟨g, 0, none⟩ = some v
 c1 : w.cell? ⟨g, 1, none⟩ = some (.int .i64 rt)
structure ArgTr (w : World) (g : Nat) (ad : Option Addr) (n c : Nat) (rt : Int) (ds : List Nd) : Prop where
 box : BoxTr w g (.slice ad n c) rt
 reads : ReadsD w ad ds
theorem BoxTr.lt {w : World} {g : Nat} {v : Value} {rt : Int} (h : BoxTr w g v rt) : g < w.heap.size := World.block_lt_of_cell? w _ h.c0
theorem BoxTr.below {w w' : World} {g : Nat} {v : Value} {rt : Int} (h : BoxTr w g v rt) {B : Nat} (hb : Below B w w') (hB : w.heap.size ≤ B) : BoxTr w' g v rt := by
 have hlt := h.lt
 exact ⟨by rw [hb.cell (p := ⟨g, 0, none⟩) (by simp; omega)]; exact h.c0, by rw [hb.cell (p := ⟨g, 1, none⟩) (by simp; omega)]; exact h.c1⟩
theorem BoxTr.within {w w' : World} {g : Nat} {v : Value} {rt : Int} (h : BoxTr w g v rt) {lo hi : Nat} (hb : Within lo hi w w') (ho : g < lo ∨ hi ≤ g) : BoxTr w' g v rt := by
 refine ⟨?_, ?_⟩
 · rw [show w'.cell? ⟨g, 0, none⟩ = w.cell? ⟨g, 0, none⟩ by simp only [World.cell?]; rw [hb.block g h.lt ho]]
   exact h.c0
 · rw [show w'.cell? ⟨g, 1, none⟩ = w.cell? ⟨g, 1, none⟩ by simp only [World.cell?]; rw [hb.block g h.lt ho]]
   exact h.c1
theorem BoxTr.new (w : World) (v : Value) (rt : Int) (t : TypeId) : BoxTr (w.alloc (.cells #[v, .int .i64 rt] t)) w.heap.size v rt := by
 have hR := heap_alloc_new w (.cells #[v, .int .i64 rt] t)
 exact ⟨qC hR, qC hR⟩
theorem ArgTr.below {w w' : World} {g : Nat} {ad : Option Addr} {n c : Nat} {rt : Int} {ds : List Nd} (h : ArgTr w g ad n c rt ds) {B : Nat} (hb : Below B w w') (hB : w.heap.size ≤ B) : ArgTr w' g ad n c rt ds := ⟨h.box.below hb hB, h.reads.below hb hB⟩
theorem ArgTr.new {w : World} {ad : Option Addr} (n c : Nat) (rt : Int) {ds : List Nd} (h : ReadsD w ad ds) (t : TypeId) (g : Nat) (hg : g = w.heap.size) : ArgTr (w.alloc (.cells #[.slice ad n c, .int .i64 rt] t)) g ad n c rt ds := by
 subst hg
 exact ⟨BoxTr.new w _ _ _, h.below (Below.alloc1 w _) qN⟩
theorem texts_small {ds : List Nd} {B : Nat} (h : sumD szD ds ≤ B) (i j : Nat) : ((ds.getD i nd0).es.getD j en0).Z.length ≤ B := by
 by_cases hi : i < ds.length
 · by_cases hj : j < (ds.getD i nd0).es.length
   · have h1 := sumD_at szD ds i hi
     have h2 := sumE_at _ j hj
     have h3 : szD (ds.getD i nd0) = (ds.getD i nd0).es.length + sumE (ds.getD i nd0).es + (ds.getD i nd0).ks.length := rfl
     omega
   · rw [List.getD_eq_getElem?_getD, List.getElem?_eq_none (Nat.le_of_not_lt hj)]
     simp [en0]
 · rw [show ds.getD i nd0 = nd0 by rw [List.getD_eq_getElem?_getD, List.getElem?_eq_none (Nat.le_of_not_lt hi)]; rfl]
   simp [nd0, en0]
end Go.Proofs.YtlkoghdajpbffaaGreat
