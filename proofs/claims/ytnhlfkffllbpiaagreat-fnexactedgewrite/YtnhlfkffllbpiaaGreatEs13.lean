/- Tracks copied without their memory; EdgeEnd, plain. No statement of its own; no conditions. -/
import Derived.Test.YtnhlfkffllbpiaaGreatEr13
namespace Go.Proofs.YtnhlfkffllbpiaaGreat
open Go.RowKit
set_option maxRecDepth 100000
structure PartT (w : World) (m : Mt) (t : Tk) : Prop where
 ex : ∃ a c a' c', m.y = .slice a t.rs.length c ∧ m.z = .slice a' t.ws.length c' ∧ ReadsM w a (fl2 t.rs) ∧ t.rs.length ≤ maxLen ∧ ReadsM w a' t.ws ∧ t.ws.length ≤ maxLen
structure ShT (w0 w : World) (lo : Nat) (v : Value) (n : Nat) (L : List Tk) : Prop where
 ex : ∃ ms : List Mt, ms.length = L.length ∧ w.ownsRow lo 52 8 v n (cellsT L ms) ∧ ∀ i, i < L.length → PartT w0 (ms.getD i mt0) (L.getD i tk0)
 len : L.length = n
section
variable {w0 w w' : World} {lo : Nat} {v : Value} {n : Nat} {L : List Tk}
theorem ShT.slice (h : ShT w0 w lo v n L) : ∃ a c, v = .slice a n c := by
 obtain ⟨ms, _, o, _⟩ := h.ex
 exact own_sl o
theorem ShT.below (h : ShT w0 w lo v n L) {B : Nat} (hb : Below B w w') (hB : w.heap.size ≤ B) : ShT w0 w' lo v n L := by
 obtain ⟨ms, hm, o, hp⟩ := h.ex
 exact ⟨⟨ms, hm, owns_below hb hB o, hp⟩, h.len⟩
theorem ShT.at (h : ShT w0 w lo v n L) {i : Nat} (hi : i < n) : ∃ g c a1 c1 a2 c2, v = .slice (some ⟨g, 0, none⟩) n c ∧ lo ≤ g ∧ g < w.heap.size ∧ Box8 w g (i * 8) (L.getD i tk0) (.slice a1 (L.getD i tk0).rs.length c1) (.slice a2 (L.getD i tk0).ws.length c2) ∧ PartT w0 ⟨.slice a1 (L.getD i tk0).rs.length c1, [], .slice a2 (L.getD i tk0).ws.length c2, []⟩ (L.getD i tk0) := by
 obtain ⟨ms, hm, o, hp⟩ := h.ex
 have hl := h.len
 obtain ⟨a1, c1, a2, c2, e1, e2, r⟩ := (hp i (by omega)).ex
 rcases o.2 with ⟨_, h0⟩ | ⟨g, cap, cur, e, _⟩
 · omega
 · subst e
   have hc := fun j (hj : j < 8) => (o.cellAt (i * 8 + j) (by omega)).trans (cellsT_at L ms i j hm (by omega) hj)
   refine ⟨g, cap, a1, c1, a2, c2, rfl, (o.lt g rfl).1, (o.lt g rfl).2, ⟨hc 0 (by omega), hc 1 (by omega), hc 2 (by omega), hc 3 (by omega), ?_, ?_, hc 6 (by omega), hc 7 (by omega)⟩, ⟨a1, c1, a2, c2, rfl, rfl, r⟩⟩
   · have := hc 4 (by omega); simp only [cellsT1, e1] at this; exact this
   · have := hc 5 (by omega); simp only [cellsT1, e2] at this; exact this
theorem ShT.rd {a : Option Addr} {c : Nat} (h : ShT w0 w lo (.slice a n c) n L) (hb : Below w0.heap.size w0 w) : ReadsT w a L := by
 have hl := h.len
 by_cases h0 : n = 0
 · exact ⟨.inl (by omega)⟩
 · obtain ⟨g, _, _, _, _, _, e, _⟩ := h.at (i := 0) (by omega)
   injection e with e1
   subst e1
   refine ⟨.inr ⟨g, 0, rfl, fun i hi => ?_⟩⟩
   obtain ⟨g', _, a1, c1, a2, c2, e', _, _, bx, hp⟩ := h.at (i := i) (by omega)
   injection e' with e1
   injection e1 with e1
   injection e1 with e1
   subst e1
   obtain ⟨b1, d1, b2, d2, q1, q2, r1, m1, r2, m2⟩ := hp.ex
   injection q1 with q1
   injection q2 with q2
   subst q1 q2
   rw [Nat.zero_add]
   exact ⟨a1, c1, a2, c2, ⟨bx.c0, bx.c1, bx.c2, bx.c3, bx.c4, bx.c5, bx.c6, bx.c7⟩, r1.below hb (Nat.le_refl _), m1, r2.below hb (Nat.le_refl _), m2⟩
end
theorem PartT.of {w : World} {a1 a2 : Option Addr} {c1 c2 : Nat} {t : Tk} (r1 : ReadsM w a1 (fl2 t.rs)) (m1 : t.rs.length ≤ maxLen) (r2 : ReadsM w a2 t.ws) (m2 : t.ws.length ≤ maxLen) : PartT w ⟨.slice a1 t.rs.length c1, [], .slice a2 t.ws.length c2, []⟩ t := ⟨a1, c1, a2, c2, rfl, rfl, r1, m1, r2, m2⟩
end Go.Proofs.YtnhlfkffllbpiaaGreat
