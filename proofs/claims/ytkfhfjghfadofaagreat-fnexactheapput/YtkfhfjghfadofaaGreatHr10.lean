/- A tuple that was answered, in its block, with texts of its own. No statement of its own; no conditions. -/
import Derived.Test.YtkfhfjghfadofaaGreatHq10
import Derived.Test.YtkfhfjghfadofaaGreatTh
namespace Go.Proofs.YtkfhfjghfadofaaGreat
open Go.RowKit
set_option maxRecDepth 100000
structure BoxTu (w : World) (lo g : Nat) (A B K N : Int) (f1 : Nat) (a1 : Option Addr) (c1 : Nat) (L M : Int) (f2 : Nat) (a2 : Option Addr) (c2 : Nat) (Z Y : List Int) : Prop where
 box : BoxT w g A B K N f1 a1 Z.length c1 L M f2 a2 Y.length c2
 o1 : w.ownsRow lo 5 1 (.slice a1 Z.length c1) Z.length (bys Z)
 o2 : w.ownsRow lo 5 1 (.slice a2 Y.length c2) Y.length (bys Y)
 t1 : ∀ b, (Value.slice a1 Z.length c1).ownBlock = some b → b < g
 t2 : ∀ b, (Value.slice a2 Y.length c2).ownBlock = some b → b < g
 ap : Apart (.slice a1 Z.length c1) (.slice a2 Y.length c2)
 bz : ∀ i, 0 ≤ Z.getD i 0 ∧ Z.getD i 0 ≤ 255
 bY : ∀ i, 0 ≤ Y.getD i 0 ∧ Y.getD i 0 ≤ 255
section
variable {w w' : World} {lo g : Nat} {A B K N : Int} {f1 : Nat} {a1 : Option Addr} {c1 : Nat} {L M : Int} {f2 : Nat} {a2 : Option Addr} {c2 : Nat} {Z Y : List Int}
theorem BoxTu.agree (h : BoxTu w lo g A B K N f1 a1 c1 L M f2 a2 c2 Z Y) (ha : Agree lo (g + 1) w w') (hl : lo ≤ g) : BoxTu w' lo g A B K N f1 a1 c1 L M f2 a2 c2 Z Y :=
 ⟨h.box.agree (ha g hl (by omega)), owns_agree h.o1 ha (fun b hb => ⟨(h.o1.lt b hb).1, by have := h.t1 b hb; omega⟩), owns_agree h.o2 ha (fun b hb => ⟨(h.o2.lt b hb).1, by have := h.t2 b hb; omega⟩), h.t1, h.t2, h.ap, h.bz, h.bY⟩
theorem BoxTu.below (h : BoxTu w lo g A B K N f1 a1 c1 L M f2 a2 c2 Z Y) {B0 : Nat} (hb : Below B0 w w') (hB : w.heap.size ≤ B0) : BoxTu w' lo g A B K N f1 a1 c1 L M f2 a2 c2 Z Y := by
 have hlt := h.box.lt
 exact ⟨h.box.below hb hB, owns_below hb hB h.o1, owns_below hb hB h.o2, h.t1, h.t2, h.ap, h.bz, h.bY⟩
theorem BoxTu.rk (h : BoxTu w lo g A B K N f1 a1 c1 L M f2 a2 c2 Z Y) : Reads w a1 Z.length Z := by
 obtain ⟨_, _, e1, p, _⟩ := Reads.own h.o1 h.bz
 obtain ⟨rfl, _, rfl⟩ := Value.slice.inj e1
 exact p
theorem BoxTu.rv (h : BoxTu w lo g A B K N f1 a1 c1 L M f2 a2 c2 Z Y) : Reads w a2 Y.length Y := by
 obtain ⟨_, _, e1, p, _⟩ := Reads.own h.o2 h.bY
 obtain ⟨rfl, _, rfl⟩ := Value.slice.inj e1
 exact p
theorem BoxTu.new {n1 n2 : Nat} (h1 : w.ownsRow lo 5 1 (.slice a1 n1 c1) n1 (bys Z)) (h2 : w.ownsRow lo 5 1 (.slice a2 n2 c2) n2 (bys Y)) (ha : Apart (.slice a1 n1 c1) (.slice a2 n2 c2)) (hz : ∀ i, 0 ≤ Z.getD i 0 ∧ Z.getD i 0 ≤ 255) (hy : ∀ i, 0 ≤ Y.getD i 0 ∧ Y.getD i 0 ≤ 255) (hn1 : n1 = Z.length) (hn2 : n2 = Y.length) (A B K N : Int) (f1 : Nat) (L M : Int) (f2 : Nat) (t : TypeId) :
 BoxTu (w.alloc (.cells #[.int .i64 A, .int .i64 B, .int .i64 K, .int .i64 N, .float .f64 f1, .slice a1 n1 c1, .int .i64 L, .int .i64 M, .float .f64 f2, .slice a2 n2 c2] t)) lo w.heap.size A B K N f1 a1 c1 L M f2 a2 c2 Z Y := by
 subst hn1
 subst hn2
 exact ⟨BoxT.new w A B K N f1 a1 _ c1 L M f2 a2 _ c2 t, h1.alloc _, h2.alloc _, fun b hb => (h1.lt b hb).2, fun b hb => (h2.lt b hb).2, ha, hz, hy⟩
theorem BoxTu.marked (h : BoxTu w lo g A B K N f1 a1 c1 L M f2 a2 c2 Z Y) (k : Int) {wm : World} (g1 : w.grownBy wm (Value.slice a1 Z.length c1).ownBlock) (g2 : wm.grownBy w' (Value.slice a2 Y.length c2).ownBlock) (p1 : w'.ownsRow lo 5 1 (.slice a1 Z.length c1) Z.length (bys (marks k Z.length))) (p2 : w'.ownsRow lo 5 1 (.slice a2 Y.length c2) Y.length (bys (marks (k + Z.length) Y.length))) :
 BoxTu w' lo g A B K N f1 a1 c1 L M f2 a2 c2 (marks k Z.length) (marks (k + Z.length) Y.length) ∧ Within lo g w w' := by
 have e1 := marks_length k Z.length
 have e2 := marks_length (k + Z.length) Y.length
 refine ⟨⟨?_, by rw [e1]; exact p1, by rw [e2]; exact p2, by rw [e1]; exact h.t1, by rw [e2]; exact h.t2, by rw [e1, e2]; exact h.ap, marks_bd _ _, marks_bd _ _⟩, (Within.grown g1 (fun b hb => ⟨(h.o1.lt b hb).1, h.t1 b hb⟩)).trans (Within.grown g2 (fun b hb => ⟨(h.o2.lt b hb).1, h.t2 b hb⟩))⟩
 rw [e1, e2]
 exact (h.box.other g1 (fun e => by have := h.t1 _ e.symm; omega)).other g2 (fun e => by have := h.t2 _ e.symm; omega)
end
def byteG (ps : List Pg) : Prop := ∀ i k j, 0 ≤ (((ps.getD i pg0).2.getD k []).getD j 0) ∧ (((ps.getD i pg0).2.getD k []).getD j 0) ≤ 255
theorem ReadsG.bytes {w : World} {ad : Option Addr} {ps : List Pg} (h : ReadsG w ad ps) : byteG ps := by
 intro i k j
 by_cases hi : i < ps.length
 · obtain ⟨b, off, a, c, _, _, _, hr, _⟩ := h.at hi
   by_cases hk : k < (ps.getD i pg0).2.length
   · obtain ⟨_, _, _, _, _, _, hrd, _⟩ := hr.at hk
     exact hrd.bd j
   · rw [List.getD_eq_getElem?_getD (l := (ps.getD i pg0).2), List.getElem?_eq_none (by omega)]; simp
 · rw [List.getD_eq_getElem?_getD (l := ps), List.getElem?_eq_none (by omega)]; simp [pg0]
end Go.Proofs.YtkfhfjghfadofaaGreat
