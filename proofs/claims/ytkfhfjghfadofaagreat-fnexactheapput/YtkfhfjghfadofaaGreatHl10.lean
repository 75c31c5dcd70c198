/- Rows in memory, read; the contracts of the laws' eqRow and eqRowS. Conditions: texts of at most 2^21 bytes. -/
import Derived.Test.YtkfhfjghfadofaaGreatHj10
import Derived.Test.YtkfhfjghfadofaaGreatTh
import Derived.Test.YtkfhfjghfadofaaGreatMga
import Derived.Deep.RegionHeld3
namespace Go.Proofs.YtkfhfjghfadofaaGreat
open Go.RowKit
set_option maxRecDepth 100000
structure ReadsRw (w : World) (ad : Option Addr) (rs : List Rw) : Prop where
 cells : rs.length = 0 ∨ ∃ b off, ad = some ⟨b, off, none⟩ ∧ ∀ i, i < rs.length → ∃ (f : Nat × Nat) (x y : Value), SameR (rs.getD i rw0) f ∧ (∀ j, j < 12 → w.cell? ⟨b, off + i * 12 + j, none⟩ = (cellsOne (rs.getD i rw0) f x y)[j]?) ∧ Row w x (rs.getD i rw0).t.Z ∧ Row w y (rs.getD i rw0).t.Y
theorem ReadsRw.below {w w' : World} {ad : Option Addr} {rs : List Rw} (h : ReadsRw w ad rs) {B : Nat} (hb : Below B w w') (hB : w.heap.size ≤ B) : ReadsRw w' ad rs := by
 refine ⟨?_⟩
 rcases h.cells with h0 | ⟨b, off, rfl, hc⟩
 · exact .inl h0
 · refine .inr ⟨b, off, rfl, fun i hi => ?_⟩
   obtain ⟨f, x, y, h1, h2, h3, h4⟩ := hc i hi
   refine ⟨f, x, y, h1, fun j hj => ?_, h3.below hb hB, h4.below hb hB⟩
   have h5 := h2 0 (by omega)
   have hlt : b < w.heap.size := World.block_lt_of_cell? w ⟨b, off + i * 12 + 0, none⟩ (h5.trans (show _ = some (Value.int .i64 (rs.getD i rw0).p) from rfl))
   rw [hb.cell (p := ⟨b, off + i * 12 + j, none⟩) (by simp; omega)]
   exact h2 j hj
theorem OwnRw.rd {w : World} {lo hi : Nat} {a : Option Addr} {n c : Nat} {rs : List Rw} (h : OwnRw w lo hi (.slice a n c) rs) : ReadsRw w a rs := by
 obtain ⟨fs, xs, o, hf, hB, hq⟩ := h.own
 have hxl : xs.length = rs.length * 2 := by rw [hB.len, textsR_len]
 rcases o.2 with ⟨e, h0⟩ | ⟨g, cap, cur, e, _⟩
 · cases e; exact ⟨.inl h0⟩
 · cases e
   refine ⟨.inr ⟨g, 0, rfl, fun i hi => ⟨fs.getD i (0, 0), xs.getD (i * 2) nilS, xs.getD (i * 2 + 1) nilS, hq i hi, fun j hj => ?_, ?_, ?_⟩⟩⟩
   · rw [Nat.zero_add, o.cellAt (i * 12 + j) (by omega), cellsRw_at _ _ _ _ _ hf hxl hi hj]
   · have := hB.row (i * 2); rw [(textsR_at rs i).1] at this; exact this
   · have := hB.row (i * 2 + 1); rw [(textsR_at rs i).2] at this; exact this
structure Box12 (w : World) (b o : Nat) (P S A B K N : Int) (f : Nat) (x : Value) (L M : Int) (h : Nat) (y : Value) : Prop where
 c0 : w.cell? ⟨b, o, none⟩ = some (.int .i64 P)
 c1 : w.cell? ⟨b, o + 1, none⟩ = some (.int .i64 S)
 c2 : w.cell? ⟨b, o + 2, none⟩ = some (.int .i64 A)
 c3 : w.cell? ⟨b, o + 3, none⟩ = some (.int .i64 B)
 c4 : w.cell? ⟨b, o + 4, none⟩ = some (.int .i64 K)
 c5 : w.cell? ⟨b, o + 5, none⟩ = some (.int .i64 N)
 c6 : w.cell? ⟨b, o + 6, none⟩ = some (.float .f64 f)
 c7 : w.cell? ⟨b, o + 7, none⟩ = some (x)
 c8 : w.cell? ⟨b, o + 8, none⟩ = some (.int .i64 L)
 c9 : w.cell? ⟨b, o + 9, none⟩ = some (.int .i64 M)
 c10 : w.cell? ⟨b, o + 10, none⟩ = some (.float .f64 h)
 c11 : w.cell? ⟨b, o + 11, none⟩ = some (y)
theorem Box12.lt {w : World} {b o : Nat} {P S A B K N : Int} {f : Nat} {x : Value} {L M : Int} {h : Nat} {y : Value} (q : Box12 w b o P S A B K N f x L M h y) : b < w.heap.size := World.block_lt_of_cell? w _ q.c0
theorem Box12.below {w w' : World} {b o : Nat} {P S A B K N : Int} {f : Nat} {x : Value} {L M : Int} {h : Nat} {y : Value} (q : Box12 w b o P S A B K N f x L M h y) {B0 : Nat} (hb : Below B0 w w') (hB : w.heap.size ≤ B0) : Box12 w' b o P S A B K N f x L M h y := by
 have hlt := q.lt
 exact ⟨(hb.cell (p := ⟨b, o, none⟩) (by simp; omega)).trans q.c0, (hb.cell (p := ⟨b, o + 1, none⟩) (by simp; omega)).trans q.c1, (hb.cell (p := ⟨b, o + 2, none⟩) (by simp; omega)).trans q.c2, (hb.cell (p := ⟨b, o + 3, none⟩) (by simp; omega)).trans q.c3, (hb.cell (p := ⟨b, o + 4, none⟩) (by simp; omega)).trans q.c4, (hb.cell (p := ⟨b, o + 5, none⟩) (by simp; omega)).trans q.c5, (hb.cell (p := ⟨b, o + 6, none⟩) (by simp; omega)).trans q.c6, (hb.cell (p := ⟨b, o + 7, none⟩) (by simp; omega)).trans q.c7, (hb.cell (p := ⟨b, o + 8, none⟩) (by simp; omega)).trans q.c8, (hb.cell (p := ⟨b, o + 9, none⟩) (by simp; omega)).trans q.c9, (hb.cell (p := ⟨b, o + 10, none⟩) (by simp; omega)).trans q.c10, (hb.cell (p := ⟨b, o + 11, none⟩) (by simp; omega)).trans q.c11⟩
theorem ReadsRw.at {w : World} {ad : Option Addr} {rs : List Rw} (h : ReadsRw w ad rs) {k : Nat} (hk : k < rs.length) : ∃ b off f1 f2 a1 c1 a2 c2, ad = some ⟨b, off, none⟩ ∧ Box12 w b (off + k * 12) (rs.getD k rw0).p (rs.getD k rw0).s (rs.getD k rw0).t.A (rs.getD k rw0).t.B (rs.getD k rw0).t.K (rs.getD k rw0).t.N f1 (.slice a1 (rs.getD k rw0).t.Z.length c1) (rs.getD k rw0).t.L (rs.getD k rw0).t.M f2 (.slice a2 (rs.getD k rw0).t.Y.length c2) ∧ SameR (rs.getD k rw0) (f1, f2) ∧ Reads w a1 (rs.getD k rw0).t.Z.length (rs.getD k rw0).t.Z ∧ Reads w a2 (rs.getD k rw0).t.Y.length (rs.getD k rw0).t.Y := by
 rcases h.cells with h0 | ⟨b, off, rfl, hc⟩
 · omega
 · obtain ⟨f, x, y, h1, h2, ⟨a1, c1, e1, h3, _⟩, ⟨a2, c2, e2, h4, _⟩⟩ := hc k hk
   subst e1
   subst e2
   exact ⟨b, off, f.1, f.2, a1, c1, a2, c2, rfl, ⟨h2 0 (by omega), h2 1 (by omega), h2 2 (by omega), h2 3 (by omega), h2 4 (by omega), h2 5 (by omega), h2 6 (by omega), h2 7 (by omega), h2 8 (by omega), h2 9 (by omega), h2 10 (by omega), h2 11 (by omega)⟩, h1, h3, h4⟩
end Go.Proofs.YtkfhfjghfadofaaGreat
