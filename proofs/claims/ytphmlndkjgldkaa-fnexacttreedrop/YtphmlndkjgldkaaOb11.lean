/- Entries, numbers and nodes of the call's own, told by the types of their blocks: they stay where blocks of other types turn. No statement of its own; no conditions. -/
import Derived.Test.YtphmlndkjgldkaaMb11
import Derived.Test.YtphmlndkjgldkaaNe11
namespace Go.Proofs.Ytphmlndkjgldkaa
open Go.RowKit
set_option maxRecDepth 100000
def NTy (w : World) (k : Nat) : Prop := ∃ cs t fz, w.heap[k]? = some (.cells cs t fz) ∧ (t = 67 ∨ t = 26)
def KN (w w' : World) : Prop := Kept (NTy w) w w'
theorem KN.trans {a b c : World} (h : KN a b) (k : KN b c) : KN a c := by
 refine Kept.trans h k (fun i hi hx => ?_)
 by_cases hn : NTy a i
 · exact hn
 · obtain ⟨cs, t, fz, e, ht⟩ := hx
   exact ⟨cs, t, fz, (h.block i hi hn).symm.trans e, ht⟩
theorem KN.below {w w' : World} (h : Below w.heap.size w w') : KN w w' := Kept.of_below h
theorem KN.set {w : World} {p : Addr} {cs : Array Value} {t : TypeId} {fz : Nat × Nat} (h : w.heap[p.block]? = some (.cells cs t fz)) (ht : t = 67 ∨ t = 26) (u : Value) : KN w (w.setCell p u) := Kept.set w ⟨cs, t, fz, h, ht⟩ u
theorem KN.grown {w w' : World} {row : Option Nat} (h : w.grownBy w' row) (hr : ∀ k, row = some k → NTy w k) : KN w w' := (Kept.of_grown h).mono (fun k _ e => hr k e.symm)
theorem own_KN {w w' : World} {b : Nat} {e : TypeId} {s n : Nat} {v : Value} {xs : List Value} (h : w.ownsRow b e s v n xs) (he : e ≠ 67 ∧ e ≠ 26) (k : KN w w') : w'.ownsRow b e s v n xs := by
 refine ⟨h.1, ?_⟩
 rcases h.2 with hn | ⟨g, cap, cur, rfl, hb, hg, rest⟩
 · exact .inl hn
 · refine .inr ⟨g, cap, cur, rfl, hb, (k.block g (Array.getElem?_eq_some_iff.1 hg).1 ?_).trans hg, rest⟩
   rintro ⟨cs, t, fz, e2, ht⟩
   rw [hg] at e2
   simp only [Option.some.injEq, Obj.cells.injEq] at e2
   rcases ht with ht | ht
   · exact he.1 (e2.2.1.trans ht)
   · exact he.2 (e2.2.1.trans ht)
structure TxR (w : World) (x : Value) (Z : List Int) : Prop where
 own : ∃ b, w.ownsRow b 5 1 x Z.length (bys Z)
 bd : ∀ i, 0 ≤ Z.getD i 0 ∧ Z.getD i 0 ≤ 255
theorem TxR.kn {w w' : World} {x : Value} {Z : List Int} (h : TxR w x Z) (k : KN w w') : TxR w' x Z := by
 obtain ⟨b, o⟩ := h.own
 exact ⟨⟨b, own_KN o ⟨by decide, by decide⟩ k⟩, h.bd⟩
theorem TxR.row {w : World} {x : Value} {Z : List Int} (h : TxR w x Z) : Row w x Z := by
 obtain ⟨b, o⟩ := h.own
 exact Row.own o h.bd
structure EnR (w : World) (b : Nat) (v : Value) (es : List En) (xs : List Value) : Prop where
 len : xs.length = es.length
 own : w.ownsRow b 35 5 v es.length (cellsE es xs)
 tx : ∀ i, i < es.length → TxR w (xs.getD i nilS) (es.getD i en0).Z ∧ (es.getD i en0).F < 18446744073709551616
theorem EnR.kn {w w' : World} {b : Nat} {v : Value} {es : List En} {xs : List Value} (h : EnR w b v es xs) (k : KN w w') : EnR w' b v es xs :=
 ⟨h.len, own_KN h.own ⟨by decide, by decide⟩ k, fun i hi => ⟨(h.tx i hi).1.kn k, (h.tx i hi).2⟩⟩
theorem EnR.rd {w : World} {b : Nat} {a : Option Addr} {n c : Nat} {es : List En} {xs : List Value} (h : EnR w b (.slice a n c) es xs) : ReadsE w a es := by
 have o := h.own
 rcases o.2 with ⟨e, h0⟩ | ⟨g, cap, cur, e, _⟩
 · cases e; exact ⟨.inl h0⟩
 · cases e
   refine ⟨.inr ⟨g, 0, rfl, fun i hi => ⟨xs.getD i nilS, ?_, (h.tx i hi).1.row, (h.tx i hi).2⟩⟩⟩
   have hc := fun j (hj : j < 5) => (o.cellAt (i * 5 + j) (by omega)).trans (cellsE_at es xs i j h.len hi hj)
   rw [Nat.zero_add]
   exact ⟨hc 0 (by omega), hc 1 (by omega), hc 2 (by omega), hc 3 (by omega), hc 4 (by omega)⟩
theorem OwnE.enr {w : World} {lo hi : Nat} {v : Value} {es : List En} (h : OwnE w lo hi v es) : ∃ xs, EnR w lo v es xs := by
 obtain ⟨xs, o, hB⟩ := h.own
 refine ⟨xs, by rw [hB.len, textsE_len], o, fun i hi => ⟨⟨⟨lo, ?_⟩, fun j => ?_⟩, h.fl i⟩⟩
 · have := hB.own i; rw [textsE_at] at this; exact this
 · have := hB.bd i j; rw [textsE_at] at this; exact this
structure InR (w : World) (v : Value) (ks : List Int) : Prop where
 own : ∃ b, w.ownsRow b 3 1 v ks.length (ins ks)
 bd : ∀ i, -9223372036854775808 ≤ ks.getD i 0 ∧ ks.getD i 0 ≤ 9223372036854775807
theorem InR.kn {w w' : World} {v : Value} {ks : List Int} (h : InR w v ks) (k : KN w w') : InR w' v ks := by
 obtain ⟨b, o⟩ := h.own
 exact ⟨⟨b, own_KN o ⟨by decide, by decide⟩ k⟩, h.bd⟩
theorem InR.rd {w : World} {a : Option Addr} {n c : Nat} {ks : List Int} (h : InR w (.slice a n c) ks) : ReadsI w a ks.length ks := by
 obtain ⟨b, o⟩ := h.own
 obtain ⟨a', c', e, r, _⟩ := ReadsI.own o h.bd
 obtain ⟨rfl, _, _⟩ := Value.slice.inj e
 exact r
structure NdR (w : World) (y : Value × Value) (d : Nd) : Prop where
 es : ∃ b xs, EnR w b y.1 d.es xs
 ks : InR w y.2 d.ks
theorem NdR.kn {w w' : World} {y : Value × Value} {d : Nd} (h : NdR w y d) (k : KN w w') : NdR w' y d := by
 obtain ⟨b, xs, h1⟩ := h.es
 exact ⟨⟨b, xs, h1.kn k⟩, h.ks.kn k⟩
structure NsR (w : World) (b : Nat) (v : Value) (ds : List Nd) (ys : List (Value × Value)) : Prop where
 len : ys.length = ds.length
 own : w.ownsRow b 67 3 v ds.length (cellsD ds ys)
 nd : ∀ i, i < ds.length → NdR w (ys.getD i nilP) (ds.getD i nd0)
theorem NsR.below {w w' : World} {b : Nat} {v : Value} {ds : List Nd} {ys : List (Value × Value)} (h : NsR w b v ds ys) (hb : Below w.heap.size w w') : NsR w' b v ds ys :=
 ⟨h.len, owns_below hb (Nat.le_refl _) h.own, fun i hi => (h.nd i hi).kn (KN.below hb)⟩
theorem NsR.rd {w : World} {b : Nat} {a : Option Addr} {n c : Nat} {ds : List Nd} {ys : List (Value × Value)} (h : NsR w b (.slice a n c) ds ys) : ReadsD w a ds := by
 have o := h.own
 rcases o.2 with ⟨e, h0⟩ | ⟨g, cap, cur, e, _⟩
 · cases e; exact ⟨.inl h0⟩
 · cases e
   refine ⟨.inr ⟨g, 0, rfl, fun i hi => ?_⟩⟩
   have hc := fun j (hj : j < 3) => (o.cellAt (i * 3 + j) (by omega)).trans (cellsD_at ds ys i j h.len hi hj)
   obtain ⟨b1, xs, oE⟩ := (h.nd i hi).es
   have oK := (h.nd i hi).ks
   obtain ⟨b2, o2⟩ := oK.own
   obtain ⟨a1, c1, e1⟩ := own_sl oE.own
   obtain ⟨a2, c2, e2⟩ := own_sl o2
   have hx0 := hc 0 (by omega)
   have hx1 := hc 1 (by omega)
   have hx2 := hc 2 (by omega)
   rw [show (cellsD1 (ds.getD i nd0) (ys.getD i nilP))[1]? = some (ys.getD i nilP).1 from rfl, e1] at hx1
   rw [show (cellsD1 (ds.getD i nd0) (ys.getD i nilP))[2]? = some (ys.getD i nilP).2 from rfl, e2] at hx2
   rw [e1] at oE
   rw [e2] at oK o2
   refine ⟨a1, c1, a2, c2, ?_, ?_, ?_, oE.rd, own_max oE.own, oK.rd, own_max o2⟩
   · rw [Nat.zero_add]; exact hx0
   · rw [Nat.zero_add]; exact hx1
   · rw [Nat.zero_add]; exact hx2
theorem NsR.push {w w' : World} {b : Nat} {v v' : Value} {ds : List Nd} {ys : List (Value × Value)} (h : NsR w b v ds ys) {y : Value × Value} {d : Nd} (hn : NdR w y d) (o : w'.ownsRow b 67 3 v' (ds.length + 1) (cellsD ds ys ++ cellsD1 d y)) (hg : w.grownBy w' v.ownBlock) : NsR w' b v' (ds ++ [d]) (ys ++ [y]) := by
 have kn : KN w w' := KN.grown hg (fun k hk => by
  rcases h.own.2 with ⟨e, _⟩ | ⟨g', cp, cu, e, _, hh, _⟩
  · rw [e] at hk; cases hk
  · rw [e] at hk
    have : g' = k := by simpa [Value.ownBlock] using hk
    subst this
    exact ⟨_, _, _, hh, .inl rfl⟩)
 refine ⟨by simp [h.len], ?_, fun i hi => ?_⟩
 · rw [cellsD_app ds [d] ys [y] h.len, List.length_append, List.length_singleton, cellsD_cons, cellsD_nil, List.append_nil]
   exact o
 · rw [List.length_append, List.length_singleton] at hi
   by_cases hc : i < ds.length
   · rw [getD_app, getD_app, if_pos (by rw [h.len]; exact hc), if_pos hc]; exact (h.nd i hc).kn kn
   · rw [getD_app, getD_app, if_neg (by rw [h.len]; omega), if_neg hc, h.len, show i - ds.length = 0 by omega]
     exact hn.kn kn
end Go.Proofs.Ytphmlndkjgldkaa
