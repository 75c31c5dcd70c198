/- What FnExactTreeDrop's walk rests on: sizes behind a drop, the room of lists, nodes told by types. No statement of its own; no conditions. -/
import Derived.Test.YtphmlndkjgldkaaOe11
import Derived.Test.YtphmlndkjgldkaaKh11
namespace Go.Proofs.Ytphmlndkjgldkaa
open Go.RowKit
set_option maxRecDepth 100000
theorem sumE_filter (p : En → Bool) : ∀ es : List En, sumE (es.filter p) ≤ sumE es
 | [] => Nat.le_refl _
 | e :: es => by
  have := sumE_filter p es
  rw [List.filter_cons]
  split
  · simp only [sumE]; omega
  · simp only [sumE]; omega
theorem szD_out (q : En) (d : Nd) : szD (outD q d) ≤ szD d := by
 unfold outD
 split
 · have := sumE_filter (offE q) d.es
   have := List.length_filter_le (offE q) d.es
   unfold szD
   dsimp only
   omega
 · exact Nat.le_refl _
theorem sumD_drop (q : En) : ∀ ns : List Nd, sumD szD (dropN ns q) ≤ sumD szD ns
 | [] => Nat.le_refl _
 | d :: ns => by
  have := sumD_drop q ns
  have := szD_out q d
  unfold dropN at *
  simp only [List.map_cons, sumD]
  omega
theorem dropT_small (ns : List Nd) (root : Int) (q : En) : (dropT ns root q).1.length ≤ ns.length ∧ sumD szD (dropT ns root q).1 ≤ sumD szD ns := by
 unfold dropT
 split
 · exact ⟨by simp [dropN], sumD_drop q ns⟩
 · exact ⟨Nat.zero_le _, Nat.zero_le _⟩
section
variable {w w' : World} {ad : Option Addr} {N : Nat} {ds : List Nd}
theorem CapD.below (h : CapD w ad N) (hr : ReadsD w ad ds) (hl : ds.length = N) (hb : Below w.heap.size w w') : CapD w' ad N := fun k hk b off n c a e hc => by
 obtain ⟨b', off', a', c', a2, c2, e', h0, h1, h2, _⟩ := hr.at (k := k) (by omega)
 rw [e] at e'
 cases e'
 exact h k hk e ((hb.cell (p := ⟨b, off + k * 3 + 1, none⟩) (World.block_lt_of_cell? w _ h1)).symm.trans hc)
theorem KapD.below (h : KapD w ad N) (hr : ReadsD w ad ds) (hl : ds.length = N) (hb : Below w.heap.size w w') : KapD w' ad N := fun k hk b off n c a e hc => by
 obtain ⟨b', off', a', c', a2, c2, e', h0, h1, h2, _⟩ := hr.at (k := k) (by omega)
 rw [e] at e'
 cases e'
 exact h k hk e ((hb.cell (p := ⟨b, off + k * 3 + 2, none⟩) (World.block_lt_of_cell? w _ h2)).symm.trans hc)
theorem OwnD.nsr {lo hi : Nat} {v : Value} (h : OwnD w lo hi v ds) : ∃ ys, NsR w lo v ds ys := by
 obtain ⟨ys, bs, o, hB, _⟩ := h.own
 refine ⟨ys, hB.len, o, fun i hi => ?_⟩
 obtain ⟨m, _, _, oE, oK⟩ := (hB.own i hi).ex
 obtain ⟨xs, he⟩ := oE.enr
 exact ⟨⟨_, xs, he⟩, ⟨⟨_, oK.own⟩, oK.bd⟩⟩
theorem NsR.cap {b n c : Nat} {a : Option Addr} {ys : List (Value × Value)} (h : NsR w b (.slice a n c) ds ys) (hl : ds.length = n) : CapD w a n ∧ KapD w a n := by
 have o := h.own
 rw [hl] at o
 have key : ∀ k, k < n → ∀ {b1 off : Nat}, a = some ⟨b1, off, none⟩ → ∀ j, j < 3 → w.cell? ⟨b1, off + k * 3 + j, none⟩ = (cellsD1 (ds.getD k nd0) (ys.getD k nilP))[j]? := fun k hk b1 off e j hj => by
  subst e
  rcases o.2 with ⟨e2, hz⟩ | ⟨g, cp, cu, e2, _⟩
  · omega
  · cases e2
    rw [Nat.zero_add]
    exact (o.cellAt (k * 3 + j) (by omega)).trans (cellsD_at ds ys k j h.len (by omega) hj)
 refine ⟨fun k hk b1 off n1 c1 a1 e hc => ?_, fun k hk b1 off n1 c1 a1 e hc hn => ?_⟩
 · have h1 := key k hk e 1 (by omega)
   obtain ⟨b2, xs, oE⟩ := (h.nd k (by omega)).es
   have h2 : (ys.getD k nilP).1 = .slice a1 n1 c1 := by
    rw [hc] at h1
    exact (Option.some.inj h1).symm
   have oo := oE.own
   rw [h2] at oo
   rcases oo.2 with ⟨e3, hz⟩ | ⟨g, cp, cu, e3, _, _, q1, q2, _⟩
   · cases e3; exact ⟨Nat.le_refl _, Nat.zero_le _⟩
   · cases e3; exact ⟨q1, q2⟩
 · have h1 := key k hk e 2 (by omega)
   obtain ⟨b2, oK⟩ := (h.nd k (by omega)).ks.own
   have h2 : (ys.getD k nilP).2 = .slice a1 n1 c1 := by
    rw [hc] at h1
    exact (Option.some.inj h1).symm
   rw [h2] at oK
   rcases oK.2 with ⟨e3, hz⟩ | ⟨g, cp, cu, e3, _⟩
   · cases e3; rfl
   · cases e3; cases hn
theorem NsR.row {b p : Nat} {v : Value} {ys : List (Value × Value)} {cs cs' : Array Value} {fz : Nat × Nat} (h : NsR w b v ds ys) (hp : w.heap[p]? = some (.cells cs 26 fz)) : NsR (w.setRow p cs') b v ds ys := by
 have g2 := row_grown11 w p cs'
 refine ⟨h.len, h.own.kept g2 (.inr (fun e => ?_)), fun i hi => (h.nd i hi).kn (KN.grown g2 (fun q hq => by obtain rfl := Option.some.inj hq; exact ⟨_, _, _, hp, .inr rfl⟩))⟩
 rcases h.own.2 with ⟨e2, _⟩ | ⟨g, cp, cu, e2, _, hg, _⟩
 · rw [e2] at e; cases e
 · rw [e2] at e
   have e3 : g = p := by first | exact Option.some.inj e | exact (Option.some.inj e).symm
   rw [e3, hp] at hg
   simp only [Option.some.injEq, Obj.cells.injEq] at hg
   exact absurd hg.2.1 (by decide)
end
end Go.Proofs.Ytphmlndkjgldkaa
