/- Texts of this proof in one: Uw11 Uh11. -/
import Derived.Test.YtlkoghdajpbffaaGreatMgA
import Derived.Test.YtlkoghdajpbffaaGreatMgs
import Derived.Test.YtlkoghdajpbffaaGreatMgw
/- What stands in memory while the specification takes an entry into a tree: the tree's box, its nodes, a node that is being made. No conditions. -/


namespace Go.Proofs.YtlkoghdajpbffaaGreat
open Go.RowKit
set_option maxRecDepth 100000
theorem EnR.pt {w : World} {b : Nat} {a : Option Addr} {n c : Nat} {es : List En} {xs : List Value} (h : EnR w b (.slice a n c) es xs) : Pt w 5 a n c (cellsE es xs) ∧ (n ≤ c ∧ c ≤ maxLen) ∧ (a = none ∨ ∃ b off, a = some ⟨b, off, none⟩) ∧ es.length = n := by
 have o := h.own
 obtain ⟨a', c', e⟩ := own_sl o
 have hn := (Value.slice.inj e).2.1
 rw [← hn] at o
 clear e
 refine ⟨⟨o.1, ?_, ?_⟩, ?_, ?_, hn.symm⟩
 · rcases o.2 with ⟨e, h0⟩ | ⟨g, cap, cur, e, _⟩
   · obtain ⟨e1, _, e3⟩ := Value.slice.inj e; exact .inl ⟨e1, e3⟩
   · cases e
     refine .inr ⟨_, rfl, fun j u hu => ?_⟩
     have hj := (List.getElem?_eq_some_iff.1 hu).1
     rw [Addr.add_lit, Nat.zero_add]
     exact (o.cellAt j (by have := o.1; omega)).trans hu
 · rcases o.2 with ⟨e, h0⟩ | ⟨g, cap, cur, e, _⟩
   · intro _; exact h0
   · cases e; intro hh; cases hh
 · rcases o.2 with ⟨e, h0⟩ | ⟨g, cap, cur, e, _, _, h1, h2, _⟩
   · obtain ⟨_, e2, e3⟩ := Value.slice.inj e; unfold maxLen; omega
   · cases e; exact ⟨h1, h2⟩
 · rcases o.2 with ⟨e, h0⟩ | ⟨g, cap, cur, e, _⟩
   · exact .inl (Value.slice.inj e).1
   · cases e; exact .inr ⟨_, _, rfl⟩
theorem TxR.one {w : World} {x : Value} {Z : List Int} (h : TxR w x Z) : x.oneCell' = true := row_one h.row
theorem EnR.ones {w : World} {b : Nat} {v : Value} {es : List En} {xs : List Value} (h : EnR w b v es xs) : ∀ u ∈ cellsE es xs, u.oneCell' = true := by
 have key : ∀ (es : List En) (xs : List Value), xs.length = es.length → (∀ i, i < es.length → (xs.getD i nilS).oneCell' = true) → ∀ u ∈ cellsE es xs, u.oneCell' = true := by
  intro es
  induction es with
  | nil => intro xs hl _ u hu; cases xs with
   | nil => simp [cellsE] at hu
   | cons x xs => simp at hl
  | cons e es ih =>
   intro xs hl hx u hu
   cases xs with
   | nil => simp at hl
   | cons x xs =>
    rw [cellsE_cons] at hu
    rcases List.mem_append.1 hu with hu | hu
    · have := hx 0 (by simp)
      simp only [cellsE1, List.mem_cons, List.not_mem_nil, or_false] at hu
      rcases hu with rfl | rfl | rfl | rfl | rfl
      · rfl
      · rfl
      · rfl
      · exact this
      · rfl
    · exact ih xs (by simpa using hl) (fun i hi => hx (i + 1) (by simpa using hi)) u hu
 exact key es xs h.len (fun i hi => (h.tx i hi).1.one)
theorem getD_put {α : Type} (l : List α) (i : Nat) (x : α) (d : α) (hi : i ≤ l.length) (j : Nat) : (putL l i x).getD j d = if j < i then l.getD j d else if j = i then x else l.getD (j - 1) d := by
 unfold putL
 rw [getD_app]
 have hl : (l.take i).length = i := by rw [List.length_take]; omega
 rw [hl]
 split
 · rename_i h; simp [List.getD, h]
 · rename_i h
   split
   · rename_i h2; subst h2; simp
   · rename_i h2
     obtain ⟨k, hk⟩ : ∃ k, j - i = k + 1 := ⟨j - i - 1, by omega⟩
     rw [hk, List.getD_cons_succ]
     simp only [List.getD, List.getElem?_drop]
     congr 2
     omega
theorem EnR.put {w w' : World} {b b' : Nat} {v v' : Value} {es : List En} {xs : List Value} (h : EnR w b v es xs) {e : En} {x : Value} (hx : TxR w x e.Z) (hF : e.F < 18446744073709551616) {i : Nat} (hi : i ≤ es.length) (o : w'.ownsRow b' 48 5 v' (es.length + 1) (cellsE (putL es i e) (putL xs i x))) (hb : Below w.heap.size w w') : EnR w' b' v' (putL es i e) (putL xs i x) := by
 refine ⟨by rw [putL_len, putL_len, h.len], by rw [putL_len]; exact o, fun j hj => ?_⟩
 rw [putL_len] at hj
 rw [getD_put _ _ _ _ (by rw [h.len]; exact hi), getD_put _ _ _ _ hi]
 split
 · exact ⟨(h.tx j (by omega)).1.kn (KN.below hb), (h.tx j (by omega)).2⟩
 · split
   · exact ⟨hx.kn (KN.below hb), hF⟩
   · exact ⟨(h.tx (j - 1) (by omega)).1.kn (KN.below hb), (h.tx (j - 1) (by omega)).2⟩
theorem ReadsE.take {w : World} {a : Option Addr} {es : List En} (h : ReadsE w a es) (k : Nat) : ReadsE w a (es.take k) := by
 refine ⟨?_⟩
 rcases h.cells with h0 | ⟨b, off, e, hc⟩
 · exact .inl (by rw [List.length_take]; omega)
 · refine .inr ⟨b, off, e, fun i hi => ?_⟩
   rw [List.length_take] at hi
   have := hc i (by omega)
   rw [show (es.take k).getD i en0 = es.getD i en0 by simp [List.getD, show i < k by omega]]
   exact this
theorem ReadsE.drop {w : World} {b off : Nat} {es : List En} (h : ReadsE w (some ⟨b, off, none⟩) es) (k : Nat) : ReadsE w (some ⟨b, off + k * 5, none⟩) (es.drop k) := by
 refine ⟨?_⟩
 rcases h.cells with h0 | ⟨b', off', e, hc⟩
 · exact .inl (by rw [List.length_drop]; omega)
 · cases e
   refine .inr ⟨b, off + k * 5, rfl, fun i hi => ?_⟩
   rw [List.length_drop] at hi
   have := hc (k + i) (by omega)
   rw [show off + k * 5 + i * 5 = off + (k + i) * 5 by omega, show (es.drop k).getD i en0 = es.getD (k + i) en0 by simp [List.getD, List.getElem?_drop]]
   exact this
def Shuns (A : Nat → Prop) (v : Value) : Prop := ∀ g, v.ownBlock = some g → ¬ A g
def ShunsD (A : Nat → Prop) (ys : List (Value × Value)) (n : Nat) : Prop := ∀ i, i < n → Shuns A (ys.getD i nilP).1
structure DS (A : Nat → Prop) (w : World) (b pT G0 p5 p6 p8 : Nat) (E Z : Array Value) (root : Int) (G N c : Nat) (ds : List Nd) (ys : List (Value × Value)) (y : Value × Value) (d : Nd) (W : World) : Prop where
 tr : W.heap[pT]? = some (.cells #[.slice (some ⟨G, 0, none⟩) N c, .int .i64 root] 33)
 len : ds.length = N
 nsr : NsR W b (.slice (some ⟨G, 0, none⟩) N c) ds ys
 r5 : W.heap[p5]? = some (.cells E 48)
 r6 : W.heap[p6]? = some (.cells Z 48)
 r8 : W.heap[p8]? = some (.cells #[.bool d.leaf, y.1, y.2] 61)
 nd : NdR W y d
 kp : Kept (fun k => k = pT ∨ k = G0) w W
 pos : w.heap.size ≤ p5 ∧ p5 < p6 ∧ p6 < p8 ∧ p8 < W.heap.size ∧ pT < w.heap.size ∧ b ≤ w.heap.size
 gg : (G = G0 ∧ G0 < w.heap.size) ∨ p8 < G
 av : ShunsD A ys ds.length
 ay : Shuns A y.1
section
variable {A : Nat → Prop} {w W W' : World} {b pT G0 p5 p6 p8 : Nat} {E Z : Array Value} {root : Int} {G N c : Nat} {ds : List Nd} {ys : List (Value × Value)} {y : Value × Value} {d : Nd}
theorem DS.gty (h : DS A w b pT G0 p5 p6 p8 E Z root G N c ds ys y d W) : ∃ cs fz, W.heap[G]? = some (.cells cs 61 fz) := by
 rcases h.nsr.own.2 with ⟨e, _⟩ | ⟨g, cp, cu, e, _, hg, _⟩
 · cases e
 · cases e; exact ⟨_, _, hg⟩
theorem DS.gne (h : DS A w b pT G0 p5 p6 p8 E Z root G N c ds ys y d W) : G ≠ p5 ∧ G ≠ p6 ∧ G ≠ p8 ∧ G ≠ pT ∧ G < W.heap.size := by
 have hp := h.pos
 have hg := h.gg
 obtain ⟨cs, fz, e⟩ := h.gty
 refine ⟨by omega, by omega, by omega, fun e2 => ?_, (qL e)⟩
 subst e2
 rw [h.tr] at e
 simp only [Option.some.injEq, Obj.cells.injEq] at e
 exact absurd e.2.1 (by decide)
theorem DS.below (h : DS A w b pT G0 p5 p6 p8 E Z root G N c ds ys y d W) (hb : Below W.heap.size W W') : DS A w b pT G0 p5 p6 p8 E Z root G N c ds ys y d W' := by
 have hp := h.pos
 have key : ∀ {k : Nat} {o : Obj}, W.heap[k]? = some o → W'.heap[k]? = some o := fun e => (hb.block _ (qL e)).trans e
 exact ⟨key h.tr, h.len, h.nsr.below hb, key h.r5, key h.r6, key h.r8, h.nd.kn (KN.below hb), h.kp.trans (Kept.of_below (X := fun _ => False) hb) (fun _ _ f => f.elim), ⟨hp.1, hp.2.1, hp.2.2.1, by have := hb.size; omega, hp.2.2.2.2⟩, h.gg, h.av, h.ay⟩
def set3 (W : World) (G x : Nat) (lf : Bool) (y : Value × Value) : World := ((W.setCell ⟨G, x * 3, none⟩ (.bool lf)).setCell ⟨G, x * 3 + 1, none⟩ y.1).setCell ⟨G, x * 3 + 2, none⟩ y.2
theorem set3_heap (W : World) (G x : Nat) (lf : Bool) (y : Value × Value) {k : Nat} (h : k ≠ G) : (set3 W G x lf y).heap[k]? = W.heap[k]? :=
 (heap_set_ne _ G _ k _ h).trans ((heap_set_ne _ G _ k _ h).trans (heap_set_ne _ G _ k _ h))
theorem set3_size (W : World) (G x : Nat) (lf : Bool) (y : Value × Value) : (set3 W G x lf y).heap.size = W.heap.size := by unfold set3; rw [set_size, set_size, set_size]
theorem set3_kept (W : World) (G x : Nat) (lf : Bool) (y : Value × Value) : Kept (fun k => k = G) W (set3 W G x lf y) :=
 ((Kept.set (X := fun k => k = G) W (p := ⟨G, x * 3, none⟩) rfl _).trans (Kept.set (X := fun k => k = G) _ (p := ⟨G, x * 3 + 1, none⟩) rfl _) (fun _ _ q => q)).trans (Kept.set (X := fun k => k = G) _ (p := ⟨G, x * 3 + 2, none⟩) rfl _) (fun _ _ q => q)
theorem DS.put (h : DS A w b pT G0 p5 p6 p8 E Z root G N c ds ys y d W) {x : Nat} (hx : x < N) : DS A w b pT G0 p5 p6 p8 E Z root G N c (ds.set x d) (ys.set x y) y d (set3 W G x d.leaf y) := by
 obtain ⟨g1, g2, g3, g4, g5⟩ := h.gne
 obtain ⟨cs, fz, e⟩ := h.gty
 have hp := h.pos
 have hk := set3_kept W G x d.leaf y
 have kn : KN W (set3 W G x d.leaf y) := hk.mono (fun k _ q => by subst q; exact ⟨_, _, _, e, .inl rfl⟩)
 refine ⟨(set3_heap W G x _ _ (Ne.symm g4)).trans h.tr, by rw [List.length_set]; exact h.len, h.nsr.put h.len (by rw [h.len]; exact hx) h.nd, (set3_heap W G x _ _ (Ne.symm g1)).trans h.r5, (set3_heap W G x _ _ (Ne.symm g2)).trans h.r6, (set3_heap W G x _ _ (Ne.symm g3)).trans h.r8, h.nd.kn kn, h.kp.trans hk (fun k hk q => ?_), ⟨hp.1, hp.2.1, hp.2.2.1, by rw [set3_size]; exact hp.2.2.2.1, hp.2.2.2.2⟩, h.gg, fun i hi => ?_, h.ay⟩
 · rcases h.gg with ⟨q1, _⟩ | q1
   · exact .inr (q.trans q1)
   · omega
 · rw [List.length_set] at hi
   rw [getD_set' ys x i y nilP (by rw [h.nsr.len, h.len]; exact hx)]
   split
   · exact h.ay
   · exact h.av i hi
theorem DS.es (h : DS A w b pT G0 p5 p6 p8 E Z root G N c ds ys y d W) {v : Value} {es : List En} (he : ∃ b xs, EnR W b v es xs) (hv : Shuns A v) : DS A w b pT G0 p5 p6 p8 E Z root G N c ds ys (v, y.2) ⟨d.leaf, es, d.ks⟩ (W.setCell ⟨p8, 1, none⟩ v) := by
 obtain ⟨g1, g2, g3, g4, g5⟩ := h.gne
 have hp := h.pos
 have kn : KN W (W.setCell ⟨p8, 1, none⟩ v) := KN.set (p := ⟨p8, 1, none⟩) h.r8 (.inl rfl) v
 obtain ⟨b', xs, o⟩ := he
 refine ⟨(heap_set_ne W p8 1 pT v (by omega)).trans h.tr, h.len, h.nsr.other h.r8 (fun e => g3 (Option.some.inj e)) v, (heap_set_ne W p8 1 p5 v (by omega)).trans h.r5, (heap_set_ne W p8 1 p6 v (by omega)).trans h.r6, by rw [heap_setCell_same _ _ _ _ _ _ h.r8]; rfl, ⟨⟨b', xs, o.kn kn⟩, h.nd.ks.kn kn⟩, h.kp.trans (Kept.set (X := fun k => k = p8) W (p := ⟨p8, 1, none⟩) rfl v) (fun k hk q => by omega), ⟨hp.1, hp.2.1, hp.2.2.1, by rw [set_size]; exact hp.2.2.2.1, hp.2.2.2.2⟩, h.gg, h.av, hv⟩
theorem DS.ks (h : DS A w b pT G0 p5 p6 p8 E Z root G N c ds ys y d W) {v : Value} {ks : List Int} (he : InR W v ks) : DS A w b pT G0 p5 p6 p8 E Z root G N c ds ys (y.1, v) ⟨d.leaf, d.es, ks⟩ (W.setCell ⟨p8, 2, none⟩ v) := by
 obtain ⟨g1, g2, g3, g4, g5⟩ := h.gne
 have hp := h.pos
 have kn : KN W (W.setCell ⟨p8, 2, none⟩ v) := KN.set (p := ⟨p8, 2, none⟩) h.r8 (.inl rfl) v
 obtain ⟨b', xs, o⟩ := h.nd.es
 refine ⟨(heap_set_ne W p8 2 pT v (by omega)).trans h.tr, h.len, h.nsr.other h.r8 (fun e => g3 (Option.some.inj e)) v, (heap_set_ne W p8 2 p5 v (by omega)).trans h.r5, (heap_set_ne W p8 2 p6 v (by omega)).trans h.r6, by rw [heap_setCell_same _ _ _ _ _ _ h.r8]; rfl, ⟨⟨b', xs, o.kn kn⟩, he.kn kn⟩, h.kp.trans (Kept.set (X := fun k => k = p8) W (p := ⟨p8, 2, none⟩) rfl v) (fun k hk q => by omega), ⟨hp.1, hp.2.1, hp.2.2.1, by rw [set_size]; exact hp.2.2.2.1, hp.2.2.2.2⟩, h.gg, h.av, h.ay⟩
theorem DS.app (h : DS A w b pT G0 p5 p6 p8 E Z root G N c ds ys y d W) {y1 : Value × Value} {d1 : Nd} (hn : NdR W y1 d1) (hv : Shuns A y1.1) {a' : Option Addr} {cap : Nat} (o : W'.ownsRow b 61 3 (.slice a' (N + 1) cap) (N + 1) (cellsD ds ys ++ cellsD1 d1 y1)) (hg : W.grownBy W' (some G)) (hh : (Value.slice a' (N + 1) cap).ownBlock = some G ∨ (Value.slice a' (N + 1) cap).ownBlock = some W.heap.size) : ∃ G', a' = some ⟨G', 0, none⟩ ∧ (G' = G ∨ G' = W.heap.size) ∧ DS A w b pT G0 p5 p6 p8 E Z root G' (N + 1) cap (ds ++ [d1]) (ys ++ [y1]) y d (W'.setCell ⟨pT, 0, none⟩ (.slice a' (N + 1) cap)) := by
 obtain ⟨g1, g2, g3, g4, g5⟩ := h.gne
 have hp := h.pos
 have hl := h.len
 obtain ⟨cs, fz, e⟩ := h.gty
 have kn : KN W W' := KN.grown hg (fun k q => by obtain rfl := Option.some.inj q; exact ⟨_, _, _, e, .inl rfl⟩)
 have key : ∀ {k : Nat} {ob : Obj}, W.heap[k]? = some ob → k ≠ G → W'.heap[k]? = some ob := fun e1 hne => (hg.block _ (qL e1) (fun q => hne (Option.some.inj q))).trans e1
 have t1 := key h.tr (Ne.symm g4)
 have t5 := key h.r5 (Ne.symm g1)
 have t6 := key h.r6 (Ne.symm g2)
 have t8 := key h.r8 (Ne.symm g3)
 have n1 : NsR W' b (.slice a' (N + 1) cap) (ds ++ [d1]) (ys ++ [y1]) := h.nsr.push hn (by rw [hl]; exact o) hg
 obtain ⟨G', rfl⟩ : ∃ G', a' = some ⟨G', 0, none⟩ := by
  rcases o.2 with ⟨_, q⟩ | ⟨g, cp, cu, e2, _⟩
  · omega
  · cases e2; exact ⟨g, rfl⟩
 have hG : G' = G ∨ G' = W.heap.size := by
  rcases hh with q | q
  · exact .inl (Option.some.inj q)
  · exact .inr (Option.some.inj q)
 have kn2 : KN W' (W'.setCell ⟨pT, 0, none⟩ (.slice (some ⟨G', 0, none⟩) (N + 1) cap)) := KN.set (p := ⟨pT, 0, none⟩) t1 (.inr rfl) _
 refine ⟨G', rfl, hG, by rw [heap_setCell_same _ _ _ _ _ _ t1]; rfl, by rw [List.length_append, hl]; rfl, n1.tree t1 _, (heap_set_ne W' pT 0 p5 _ (by omega)).trans t5, (heap_set_ne W' pT 0 p6 _ (by omega)).trans t6, (heap_set_ne W' pT 0 p8 _ (by omega)).trans t8, (h.nd.kn kn).kn kn2, (h.kp.trans (Kept.of_grown hg) (fun k hk q => ?_)).trans (Kept.set (X := fun k => k = pT) W' (p := ⟨pT, 0, none⟩) rfl _) (fun k _ q => .inl q), ⟨hp.1, hp.2.1, hp.2.2.1, by rw [set_size]; have := hg.size; omega, hp.2.2.2.2⟩, ?_, fun i hi => ?_, h.ay⟩
 · have q := Option.some.inj q
   rcases h.gg with ⟨q1, _⟩ | q1
   · exact .inr (q.trans q1)
   · omega
 · rcases hG with rfl | rfl
   · exact h.gg
   · exact .inr hp.2.2.2.1
 · rw [List.length_append, List.length_singleton] at hi
   have hyl := h.nsr.len
   rw [getD_app]
   split
   · exact h.av i (by omega)
   · rw [show i - ys.length = 0 by omega]; exact hv
theorem own_box {e t : TypeId} {s n p b : Nat} {v : Value} {xs : List Value} {cu : Array Value} {fz : Nat × Nat} (o : W.ownsRow b e s v n xs) (hp : W.heap[p]? = some (.cells cu t fz)) (ht : e ≠ t ∨ v.ownBlock ≠ some p) (g : W.grownBy W' (some p)) : W'.ownsRow b e s v n xs := by
 refine o.kept g (.inr (fun q => ?_))
 rcases o.2 with ⟨e2, _⟩ | ⟨g', cp, cu', e2, _, hg, _⟩
 · rw [e2] at q; cases q
 · rcases ht with ht | ht
   · rw [e2] at q
     have e3 : g' = p := by first | exact Option.some.inj q | exact (Option.some.inj q).symm
     subst e3
     rw [hg] at hp
     simp only [Option.some.injEq, Obj.cells.injEq] at hp
     exact ht hp.2.1
   · first | exact ht q | exact ht q.symm
theorem TxR.box {p : Nat} {cu : Array Value} {t : TypeId} {fz : Nat × Nat} {x : Value} {Z : List Int} (h : TxR W x Z) (hp : W.heap[p]? = some (.cells cu t fz)) (ht : (5 : TypeId) ≠ t) (g : W.grownBy W' (some p)) : TxR W' x Z := by
 obtain ⟨b, o⟩ := h.own
 exact ⟨⟨b, own_box o hp (.inl ht) g⟩, h.bd⟩
theorem NdR.box {p : Nat} {cu : Array Value} {fz : Nat × Nat} {y : Value × Value} {d : Nd} (h : NdR W y d) (hp : W.heap[p]? = some (.cells cu 48 fz)) (hs : y.1.ownBlock ≠ some p) (g : W.grownBy W' (some p)) : NdR W' y d := by
 obtain ⟨b, xs, o⟩ := h.es
 obtain ⟨b2, o2⟩ := h.ks.own
 exact ⟨⟨b, xs, o.len, own_box o.own hp (.inr hs) g, fun i hi => ⟨(o.tx i hi).1.box hp (by decide) g, (o.tx i hi).2⟩⟩, ⟨⟨b2, own_box o2 hp (.inl (by decide)) g⟩, h.ks.bd⟩⟩
theorem DS.fin (h : DS A w b pT G0 p5 p6 p8 E Z root G N c ds ys y d W) (h6 : A p6) (cs : Array Value) : NsR (W.setRow p6 cs) b (.slice (some ⟨G, 0, none⟩) N c) ds ys ∧ (W.setRow p6 cs).heap[pT]? = some (.cells #[.slice (some ⟨G, 0, none⟩) N c, .int .i64 root] 33) ∧ Kept (fun k => k = pT ∨ k = G0) w (W.setRow p6 cs) ∧ ∀ {x : Value} {Z : List Int}, TxR W x Z → TxR (W.setRow p6 cs) x Z := by
 have g := row_grown11 W p6 cs
 have hp := h.pos
 refine ⟨⟨h.nsr.len, own_box h.nsr.own h.r6 (.inl (by decide)) g, fun i hi => (h.nsr.nd i hi).box h.r6 (fun e => h.av i hi p6 e h6) g⟩, (g.block pT (qL h.tr) (fun e => by have := Option.some.inj e; omega)).trans h.tr, h.kp.trans (Kept.of_grown g) (fun k hk q => by have := Option.some.inj q; omega), fun t => t.box h.r6 (by decide) g⟩
end
theorem Shuns.own {A : Nat → Prop} {W : World} {base st n : Nat} {t : TypeId} {v : Value} {xs : List Value} (o : W.ownsRow base t st v n xs) (hA : ∀ g, A g → g < base) : Shuns A v := fun g e h => by
 have := (o.lt g e).1
 have := hA g h
 omega
structure DownR (A : Nat → Prop) (w W : World) (pT b : Nat) (root : Int) (G : Nat) (r : List Nd × Option (En × Int)) (e : Ending) : Prop where
 ex : ∃ G' c' ys', W.heap[pT]? = some (.cells #[.slice (some ⟨G', 0, none⟩) r.1.length c', .int .i64 root] 33) ∧ NsR W b (.slice (some ⟨G', 0, none⟩) r.1.length c') r.1 ys' ∧ ShunsD A ys' r.1.length ∧ (G' = G ∨ w.heap.size ≤ G')
 kp : Kept (fun k => k = pT ∨ k = G) w W
 no : r.2 = none → e = .returned (.tuple #[.agg #[.int .i64 0, .int .i64 0, .float .f64 0, .slice none 0 0, .int .i64 0], .int .i64 (-1)])
 yes : ∀ up k, r.2 = some (up, k) → ∃ ax nx cx, e = .returned (.tuple #[.agg #[.int .i64 up.K, .int .i64 up.N, .float .f64 up.F, .slice ax nx cx, .int .i64 up.id], .int .i64 k]) ∧ TxR W (.slice ax nx cx) up.Z ∧ up.F < 18446744073709551616
theorem DS.down {A A' : Nat → Prop} {w W : World} {b pT p5 p6 p8 : Nat} {E Z : Array Value} {root : Int} {G G' N c : Nat} {ds : List Nd} {ys : List (Value × Value)} {y : Value × Value} {d : Nd} (h : DS A' w b pT G p5 p6 p8 E Z root G' N c ds ys y d W) (h6 : A' p6) (hA : ∀ g, A g → A' g) (cs : Array Value) {o : Option (En × Int)} {e : Ending}
 (hno : o = none → e = .returned (.tuple #[.agg #[.int .i64 0, .int .i64 0, .float .f64 0, .slice none 0 0, .int .i64 0], .int .i64 (-1)]))
 (hyes : ∀ up k, o = some (up, k) → ∃ ax nx cx, e = .returned (.tuple #[.agg #[.int .i64 up.K, .int .i64 up.N, .float .f64 up.F, .slice ax nx cx, .int .i64 up.id], .int .i64 k]) ∧ TxR W (.slice ax nx cx) up.Z ∧ up.F < 18446744073709551616) : DownR A w (W.setRow p6 cs) pT b root G (ds, o) e := by
 obtain ⟨f1, f2, f3, f4⟩ := h.fin h6 cs
 have hp := h.pos
 refine ⟨⟨G', c, ys, by rw [show (ds, o).1.length = N from h.len]; exact f2, by rw [show (ds, o).1.length = N from h.len]; exact f1, fun i hi g hg ha => h.av i hi g hg (hA g ha), ?_⟩, f3, hno, fun up k q => ?_⟩
 · rcases h.gg with ⟨q, _⟩ | q
   · exact .inl q
   · exact .inr (by omega)
 · obtain ⟨ax, nx, cx, e1, e2, e3⟩ := hyes up k q
   exact ⟨ax, nx, cx, e1, f4 e2, e3⟩
end Go.Proofs.YtlkoghdajpbffaaGreat
/- The specification's l11put: a list of entries with one more. Conditions: at most five entries before. -/

namespace Go.Proofs.YtlkoghdajpbffaaGreat
open Go.RowKit
set_option maxRecDepth 100000
set_option maxHeartbeats 6400000 in
theorem spec_l11put {es : List En} {xs : List Value} {a : Option Addr} {n c i : Nat} {e : En} {ax : Option Addr} {nx cx : Nat} {w : World} (hp : Pt w 5 a n c (cellsE es xs)) (ha : a = none ∨ ∃ b off, a = some ⟨b, off, none⟩) (hx : xs.length = es.length) (hn : es.length = n) (hn4 : n ≤ 5) (hk : i ≤ n) (hc : n ≤ c ∧ c ≤ maxLen) (h1 : ∀ u ∈ cellsE es xs, u.oneCell' = true) (he : ∀ u ∈ cellsE1 e (.slice ax nx cx), u.oneCell' = true) :
 Calls Tryz.prog 45 #[.slice a n c, .int .i64 i, .agg #[.int .i64 e.K, .int .i64 e.N, .float .f64 e.F, .slice ax nx cx, .int .i64 e.id]] w fun r w' => ∃ a' c', r = .returned (.slice a' (n + 1) c') ∧ w'.ownsRow w.heap.size 48 5 (.slice a' (n + 1) c') (n + 1) (cellsE (putL es i e) (putL xs i (.slice ax nx cx))) ∧ Below w.heap.size w w' := by
 obtain ⟨i0, hi, hz0, hz1, hz2⟩ := info_parts Tryz.infoEn
 have hst := fun w a m => run_store Tryz.prog w a (.float .f64 e.F) m rfl
 have HP := hid hp
 have HX := hid hx
 have HN := hid hn
 obtain ⟨LE, hLE⟩ : ∃ L, cellsE1 e (.slice ax nx cx) = L := ⟨_, rfl⟩
 have HLE := hid hLE
 have HOe := hid (show ∀ u ∈ LE, u.oneCell' = true from hLE ▸ he)
 have HO1 := hid (show ∀ k, ∀ u ∈ cellsE (es.take k) (xs.take k), u.oneCell' = true from fun k u hu => h1 u (by rw [cellsE_split es xs k hx]; exact List.mem_append_left _ hu))
 have HO3 := hid (show ∀ k, ∀ u ∈ cellsE (es.drop k) (xs.drop k), u.oneCell' = true from fun k u hu => h1 u (by rw [cellsE_split es xs k hx]; exact List.mem_append_right _ hu))
 have HBB := hid (Below.alloc1 w (.cells #[.int .i64 e.K, .int .i64 e.N, .float .f64 e.F, .slice ax nx cx, .int .i64 e.id] 48))
 have HR0 := hid (heap_alloc_new w (.cells #[.int .i64 e.K, .int .i64 e.N, .float .f64 e.F, .slice ax nx cx, .int .i64 e.id] 48))
 have HZu := hid (show w.heap.size ≤ (w.alloc (.cells #[.int .i64 e.K, .int .i64 e.N, .float .f64 e.F, .slice ax nx cx, .int .i64 e.id] 48)).heap.size by rw [alloc_size]; omega)
 have hmx := hc.2
 have hnc := hc.1
 unfold maxLen at hmx
 clear hp hx hn he h1 hLE
 go_enter Tryz.func45, Tryz.ntmps45
 go_upto_region 1 with fail
 generalize w.alloc (.cells #[.int .i64 e.K, .int .i64 e.N, .float .f64 e.F, .slice ax nx cx, .int .i64 e.id] 48) = u at *
 obtain ⟨g0, hg0⟩ : ∃ g0, w.heap.size = g0 := ⟨_, rfl⟩
 have HG0 := hid hg0
 rw [hg0] at HR0
 try simp only [hg0]
 clear hg0
 rcases ha with rfl | ⟨b, off, rfl⟩
 · obtain ⟨q1, q2, q3⟩ := HP.out
   have hn0 := q3 rfl
   subst hn0
   obtain rfl : i = 0 := by omega
   obtain rfl : c = 0 := by
    rcases q2 with ⟨_, e0⟩ | ⟨p, e0, _⟩
    · exact e0
    · cases e0
   clear q1 q2 q3
   obtain ⟨L1, hL1⟩ : ∃ L, cellsE (es.take 0) (xs.take 0) = L := ⟨_, rfl⟩
   obtain ⟨L3, hL3⟩ : ∃ L, cellsE (es.drop 0) (xs.drop 0) = L := ⟨_, rfl⟩
   have HL1 := hid (show ∀ u ∈ L1, u.oneCell' = true from hL1 ▸ HO1.out 0)
   have HL3 := hid (show ∀ u ∈ L3, u.oneCell' = true from hL3 ▸ HO3.out 0)
   have HPut := hid (show L1 ++ LE ++ L3 = cellsE (putL es 0 e) (putL xs 0 (.slice ax nx cx)) by rw [← hL1, ← hL3, ← HLE.out]; exact cellsE_put es xs 0 e _ HX.out)
   have HP1 := hid (show Pt u 5 none 0 0 L1 from hL1 ▸ show Pt u 5 none 0 0 (cellsE (es.take 0) (xs.take 0)) from ⟨by rw [List.take_zero, List.take_zero, cellsE_nil]; rfl, .inl ⟨rfl, rfl⟩, fun _ => rfl⟩)
   have HPB := hid (show Pt w 5 none 0 0 L3 from hL3 ▸ show Pt w 5 none 0 0 (cellsE (es.drop 0) (xs.drop 0)) from HP.out)
   clear hL1 hL3
   go_upto_region 2 with fail
   go_wp2_with (at_builtin; refine wpList_append_row rfl _ _ 52 rfl w.heap.size 48 i0 (.agg #[.int .i64 0, .int .i64 0, .float .f64 0, .slice none 0 0, .int .i64 0]) 5 56 Tryz.underlying52 hi hz0 hz1 hz2 rfl (by decide) _ 0 [] rfl (World.ownsRow_nil _ _ _ _) none 0 0 L1 rfl HP1.out.1 HP1.out.2.1 HP1.out.2.2 HL1.out (by unfold maxLen; omega) (by omega) ?q1a ?_)
   case q1a => exact HZu.out
   intro a1 c1 u1 o1 g1
   have HOw1 := hid (show u1.ownsRow w.heap.size 48 5 (.slice a1 0 c1) 0 L1 by simpa using o1)
   have HB1 := hid (HBB.out.grown g1 HBB.out.size (fun k hk => by cases hk))
   have HRu1 := hid ((g1.block g0 (qL HR0.out) (fun e => by cases e)).trans HR0.out)
   clear o1 g1
   have d0 : u1.cell? ⟨g0, 0, none⟩ = some (.int .i64 e.K) := qC HRu1.out
   have d1 : u1.cell? ⟨g0, 1, none⟩ = some (.int .i64 e.N) := qC HRu1.out
   have d2 : u1.cell? ⟨g0, 2, none⟩ = some (.float .f64 e.F) := qC HRu1.out
   have d3 : u1.cell? ⟨g0, 3, none⟩ = some (.slice ax nx cx) := qC HRu1.out
   have d4 : u1.cell? ⟨g0, 4, none⟩ = some (.int .i64 e.id) := qC HRu1.out
   have HBA := hid (Below.alloc1 u1 (.cells #[.int .i64 e.K, .int .i64 e.N, .float .f64 e.F, .slice ax nx cx, .int .i64 e.id] 48))
   have HN1 := hid (heap_alloc_new u1 (.cells #[.int .i64 e.K, .int .i64 e.N, .float .f64 e.F, .slice ax nx cx, .int .i64 e.id] 48))
   have HZ1 := hid (alloc_size u1 (.cells #[.int .i64 e.K, .int .i64 e.N, .float .f64 e.F, .slice ax nx cx, .int .i64 e.id] 48))
   have HOw2 := hid (HOw1.out.alloc (.cells #[.int .i64 e.K, .int .i64 e.N, .float .f64 e.F, .slice ax nx cx, .int .i64 e.id] 48))
   have HM := hid (show Pt (u1.alloc (.cells #[.int .i64 e.K, .int .i64 e.N, .float .f64 e.F, .slice ax nx cx, .int .i64 e.id] 48)) 5 (some ⟨u1.heap.size, 0, none⟩) 1 1 LE from by rw [← HLE.out]; exact ⟨rfl, .inr ⟨_, rfl, fun j u hu => by
    rw [Addr.add_lit, Nat.zero_add, cell_of_row _ _ _ _ _ _ HN1.out]
    rw [← hu]
    simp [cellsE1]⟩, fun q => by cases q⟩)
   go_wp2_with (at_builtin; refine wpList_append_row rfl _ _ 52 rfl w.heap.size 48 i0 (.agg #[.int .i64 0, .int .i64 0, .float .f64 0, .slice none 0 0, .int .i64 0]) 5 56 Tryz.underlying52 hi hz0 hz1 hz2 rfl (by decide) _ 0 L1 rfl HOw2.out (some ⟨u1.heap.size, 0, none⟩) 1 1 LE rfl HM.out.1 HM.out.2.1 HM.out.2.2 HOe.out (by unfold maxLen; omega) (by omega) ?q2a ?_)
   case q2a => have := HB1.out.size; have := HZ1.out; omega
   intro a2 c2 u2 o2 g2
   have HOw3 := hid o2
   have HB1' := hid (HB1.out.trans (HBA.out.mono HB1.out.size))
   have HB2 := hid (HB1'.out.grown g2 HB1'.out.size (fun k hk => (HOw1.out.lt k hk).1))
   clear o2 g2 d0 d1 d2 d3 d4
   have HP3 := hid (HPB.out.below HB2.out)
   go_wp2_with (first | (at_builtin; refine wpList_append_row rfl _ _ 52 rfl w.heap.size 48 i0 (.agg #[.int .i64 0, .int .i64 0, .float .f64 0, .slice none 0 0, .int .i64 0]) 5 56 Tryz.underlying52 hi hz0 hz1 hz2 rfl (by decide) _ (0 + 1) (L1 ++ LE) rfl HOw3.out none 0 0 L3 rfl HP3.out.1 HP3.out.2.1 HP3.out.2.2 HL3.out (by unfold maxLen; omega) (by omega) ?q3a ?_))
   case q3a => exact HB2.out.size
   intro a4 c4 u4 o4 g4
   have ez : 0 + 1 + 0 = 0 + 1 := by omega
   have HO4 := hid (show u4.ownsRow w.heap.size 48 5 (.slice a4 (0 + 1) c4) (0 + 1) (cellsE (putL es 0 e) (putL xs 0 (.slice ax nx cx))) from by
    rw [← HPut.out, ← ez]
    simpa using o4)
   try rw [ez]
   clear ez
   have HB4 := hid (HB2.out.grown g4 HB2.out.size (fun k hk => (HOw3.out.lt k hk).1))
   clear o4 g4
   go_wp2_with fail
   go_ret
   exact ⟨a4, c4, rfl, HO4.out, HB4.out⟩
 · have hs := HP.out
   rw [cellsE_split es xs i HX.out] at hs
   obtain ⟨hA, hB⟩ := hs.split (k := i) (c1 := c) (c2 := c - i) (by rw [cellsE_len _ _ (by simp [HX.out])]; have := HN.out; rw [List.length_take, Nat.min_eq_left (by omega)])
   obtain ⟨L1, hL1⟩ : ∃ L, cellsE (es.take i) (xs.take i) = L := ⟨_, rfl⟩
   obtain ⟨L3, hL3⟩ : ∃ L, cellsE (es.drop i) (xs.drop i) = L := ⟨_, rfl⟩
   have HL1 := hid (show ∀ u ∈ L1, u.oneCell' = true from hL1 ▸ HO1.out i)
   have HL3 := hid (show ∀ u ∈ L3, u.oneCell' = true from hL3 ▸ HO3.out i)
   have HPut := hid (show L1 ++ LE ++ L3 = cellsE (putL es i e) (putL xs i (.slice ax nx cx)) by rw [← hL1, ← hL3, ← HLE.out]; exact cellsE_put es xs i e _ HX.out)
   rw [hL1] at hA
   rw [hL3] at hB
   have HP1 := hid (hA.below HBB.out)
   obtain ⟨a3, ha3, hB3⟩ : ∃ a3, (if c = i then some (⟨b, off, none⟩ : Addr) else some ⟨b, off + i * 5, none⟩) = a3 ∧ Pt w 5 a3 (n - i) (c - i) L3 := by
    by_cases ec : c = i
    · rw [if_pos ec]
      obtain ⟨b1, b2, b3⟩ := hB
      refine ⟨_, rfl, b1, .inr ⟨_, rfl, fun j u hu => ?_⟩, fun q => by cases q⟩
      have := (List.getElem?_eq_some_iff.1 hu).1
      rw [b1] at this
      omega
    · rw [if_neg ec]
      exact ⟨_, rfl, hB⟩
   have HA3 := hid ha3
   have HPB := hid hB3
   have hkc : (i : Int) ≤ (c : Int) := by omega
   have hkn : (i : Int) ≤ (n : Int) := by omega
   have hk0 : (0 : Int) ≤ (i : Int) := by omega
   have hnc' : (n : Int) ≤ (c : Int) := by omega
   clear hs hA hB hB3 ha3 hL1 hL3
   go_upto_region 2 with fail
   go_wp2_with (at_builtin; refine wpList_append_row rfl _ _ 52 rfl w.heap.size 48 i0 (.agg #[.int .i64 0, .int .i64 0, .float .f64 0, .slice none 0 0, .int .i64 0]) 5 56 Tryz.underlying52 hi hz0 hz1 hz2 rfl (by decide) _ 0 [] rfl (World.ownsRow_nil _ _ _ _) (some ⟨b, off, none⟩) i c L1 rfl HP1.out.1 HP1.out.2.1 HP1.out.2.2 HL1.out (by unfold maxLen; omega) (by omega) ?q1b ?_)
   case q1b => exact HZu.out
   intro a1 c1 u1 o1 g1
   have HOw1 := hid (show u1.ownsRow w.heap.size 48 5 (.slice a1 i c1) i L1 by simpa using o1)
   have HB1 := hid (HBB.out.grown g1 HBB.out.size (fun k hk => by cases hk))
   have HRu1 := hid ((g1.block g0 (qL HR0.out) (fun e => by cases e)).trans HR0.out)
   clear o1 g1
   have d0 : u1.cell? ⟨g0, 0, none⟩ = some (.int .i64 e.K) := qC HRu1.out
   have d1 : u1.cell? ⟨g0, 1, none⟩ = some (.int .i64 e.N) := qC HRu1.out
   have d2 : u1.cell? ⟨g0, 2, none⟩ = some (.float .f64 e.F) := qC HRu1.out
   have d3 : u1.cell? ⟨g0, 3, none⟩ = some (.slice ax nx cx) := qC HRu1.out
   have d4 : u1.cell? ⟨g0, 4, none⟩ = some (.int .i64 e.id) := qC HRu1.out
   have HBA := hid (Below.alloc1 u1 (.cells #[.int .i64 e.K, .int .i64 e.N, .float .f64 e.F, .slice ax nx cx, .int .i64 e.id] 48))
   have HN1 := hid (heap_alloc_new u1 (.cells #[.int .i64 e.K, .int .i64 e.N, .float .f64 e.F, .slice ax nx cx, .int .i64 e.id] 48))
   have HZ1 := hid (alloc_size u1 (.cells #[.int .i64 e.K, .int .i64 e.N, .float .f64 e.F, .slice ax nx cx, .int .i64 e.id] 48))
   have HOw2 := hid (HOw1.out.alloc (.cells #[.int .i64 e.K, .int .i64 e.N, .float .f64 e.F, .slice ax nx cx, .int .i64 e.id] 48))
   have HM := hid (show Pt (u1.alloc (.cells #[.int .i64 e.K, .int .i64 e.N, .float .f64 e.F, .slice ax nx cx, .int .i64 e.id] 48)) 5 (some ⟨u1.heap.size, 0, none⟩) 1 1 LE from by rw [← HLE.out]; exact ⟨rfl, .inr ⟨_, rfl, fun j u hu => by
    rw [Addr.add_lit, Nat.zero_add, cell_of_row _ _ _ _ _ _ HN1.out]
    rw [← hu]
    simp [cellsE1]⟩, fun q => by cases q⟩)
   go_wp2_with (at_builtin; refine wpList_append_row rfl _ _ 52 rfl w.heap.size 48 i0 (.agg #[.int .i64 0, .int .i64 0, .float .f64 0, .slice none 0 0, .int .i64 0]) 5 56 Tryz.underlying52 hi hz0 hz1 hz2 rfl (by decide) _ i L1 rfl HOw2.out (some ⟨u1.heap.size, 0, none⟩) 1 1 LE rfl HM.out.1 HM.out.2.1 HM.out.2.2 HOe.out (by unfold maxLen; omega) (by omega) ?q2b ?_)
   case q2b => have := HB1.out.size; have := HZ1.out; omega
   intro a2 c2 u2 o2 g2
   have HOw3 := hid o2
   have HB1' := hid (HB1.out.trans (HBA.out.mono HB1.out.size))
   have HB2 := hid (HB1'.out.grown g2 HB1'.out.size (fun k hk => (HOw1.out.lt k hk).1))
   clear o2 g2 d0 d1 d2 d3 d4
   have HP3 := hid (HPB.out.below HB2.out)
   go_wp2_with (first | (rw [HA3.out]) | (at_builtin; refine wpList_append_row rfl _ _ 52 rfl w.heap.size 48 i0 (.agg #[.int .i64 0, .int .i64 0, .float .f64 0, .slice none 0 0, .int .i64 0]) 5 56 Tryz.underlying52 hi hz0 hz1 hz2 rfl (by decide) _ (i + 1) (L1 ++ LE) rfl HOw3.out a3 (n - i) (c - i) L3 rfl HP3.out.1 HP3.out.2.1 HP3.out.2.2 HL3.out (by unfold maxLen; omega) (by omega) ?q3b ?_))
   case q3b => exact HB2.out.size
   intro a4 c4 u4 o4 g4
   have ez : i + 1 + (n - i) = n + 1 := by omega
   have HO4 := hid (show u4.ownsRow w.heap.size 48 5 (.slice a4 (n + 1) c4) (n + 1) (cellsE (putL es i e) (putL xs i (.slice ax nx cx))) from by
    rw [← HPut.out, ← ez]
    simpa using o4)
   try rw [ez]
   clear ez
   have HB4 := hid (HB2.out.grown g4 HB2.out.size (fun k hk => (HOw3.out.lt k hk).1))
   clear o4 g4
   go_wp2_with fail
   go_ret
   exact ⟨a4, c4, rfl, HO4.out, HB4.out⟩
end Go.Proofs.YtlkoghdajpbffaaGreat
