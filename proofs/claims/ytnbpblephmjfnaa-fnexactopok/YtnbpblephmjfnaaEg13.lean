/- The contracts of the laws' markItemS, heldItemS, markSpanS, heldSpanS, markSpan, heldSpan. Conditions: items of at most 2^21 bytes together. -/
import Derived.Test.YtnbpblephmjfnaaEf13
import Derived.Test.YtnbpblephmjfnaaMga
namespace Go.Proofs.Ytnbpblephmjfnaa
open Go.RowKit
set_option maxRecDepth 100000
section
variable {t : TypeId} {s : Nat} {w w' : World} {lo hi g c : Nat} {n : Nat} {es : List Im} {xs : List Value} {i : Nat}
theorem OwnX.box {v : Value} (h : OwnX t s w lo hi v n es xs) (hi' : i < es.length) : ∃ g c a1 c1, v = .slice (some ⟨g, 0, none⟩) n c ∧ xs.getD i nilS = .slice a1 (es.getD i im0).Z.length c1 ∧ Box4 w g (i * 4) (es.getD i im0).K (es.getD i im0).N (es.getD i im0).F (.slice a1 (es.getD i im0).Z.length c1) ∧ w.ownsRow lo 5 1 (.slice a1 (es.getD i im0).Z.length c1) (es.getD i im0).Z.length (bys (es.getD i im0).Z) ∧ ∀ q, w.frozen? ⟨g, q, none⟩ = false := by
 have hl := h.len
 have hxl : xs.length = es.length := by rw [h.txt.len, textsI_len]
 have o := h.row
 have hr := h.txt.own i
 rw [textsI_at] at hr
 obtain ⟨a1, c1, e1⟩ := own_sl hr
 rcases o.2 with ⟨_, h0⟩ | ⟨g, cap, cur, e, _⟩
 · subst h0; omega
 · subst e
   have hc := fun j (hj : j < 4) => (o.cellAt (i * 4 + j) (by omega)).trans (cellsI_at es xs i j hxl hi' hj)
   refine ⟨g, cap, a1, c1, rfl, e1, ⟨hc 0 (by omega), hc 1 (by omega), hc 2 (by omega), ?_⟩, by rw [← e1]; exact hr, fun q => o.frozenAt q⟩
   have := hc 3 (by omega); simp only [cellsI1, e1] at this; exact this
end
end Go.Proofs.Ytnbpblephmjfnaa