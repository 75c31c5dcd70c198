/- Texts of this proof in one: Ul11 Um11 Un11. -/
import Derived.Test.YtlkoghdajpbffaaGreatUf11
import Derived.Test.YtlkoghdajpbffaaGreatMgw
/- The table of nodes of a linked tree that grows. No statement of its own; no conditions. -/



namespace Go.Proofs.YtlkoghdajpbffaaGreat
open Go.RowKit
set_option maxRecDepth 100000
def Lies (A : Nat → Prop) (W0 W : World) (st : Nat) (ty : TypeId) (a : Option Addr) (n c : Nat) (L : List Value) : Prop :=
 Pt W0 st a n c L ∨ ∃ b off cs fz, a = some ⟨b, off, none⟩ ∧ W.heap[b]? = some (.cells cs ty fz) ∧ ¬ A b ∧ Pt W st a n c L
section
variable {A : Nat → Prop} {W0 W W' : World} {st : Nat} {ty : TypeId} {a : Option Addr} {n c : Nat} {L : List Value}
theorem Pt.old (h : Pt W0 st a n c L) (hb : Below W0.heap.size W0 W) : Pt W st a n c L := h.below hb
theorem Lies.pt (h : Lies A W0 W st ty a n c L) (hb : Below W0.heap.size W0 W) : Pt W st a n c L := by
 rcases h with h | ⟨_, _, _, _, _, _, _, h⟩
 · exact h.old hb
 · exact h
theorem Pt.block {b off : Nat} (h : Pt W st (some ⟨b, off, none⟩) n c L) (e : W'.heap[b]? = W.heap[b]?) : Pt W' st (some ⟨b, off, none⟩) n c L := by
 refine ⟨h.1, ?_, h.2.2⟩
 rcases h.2.1 with ⟨q, _⟩ | ⟨p, q, hc⟩
 · cases q
 · cases q
   refine .inr ⟨_, rfl, fun j u hu => ?_⟩
   have := hc j u hu
   rw [Addr.add_lit] at this ⊢
   exact (World.cell?_of_block (w := W) (a := ⟨b, off + j, none⟩) e).trans this
theorem Lies.kept {X : Nat → Prop} (h : Lies A W0 W st ty a n c L) (k : Kept X W W') (hX : ∀ b cs fz, W.heap[b]? = some (.cells cs ty fz) → ¬ A b → ¬ X b) : Lies A W0 W' st ty a n c L := by
 rcases h with h | ⟨b, off, cs, fz, rfl, hb, hA, h⟩
 · exact .inl h
 · have e := k.block b (qL hb) (hX b cs fz hb hA)
   exact .inr ⟨b, off, cs, fz, rfl, e.trans hb, hA, h.block e⟩
theorem Lies.own {lo : Nat} {v : Value} (hA : ∀ b, lo ≤ b → ¬ A b) (hn : 0 < n) (o : W.ownsRow lo ty st v n L) : ∃ b c, v = .slice (some ⟨b, 0, none⟩) n c ∧ lo ≤ b ∧ (n ≤ c ∧ c ≤ maxLen) ∧ Lies A W0 W st ty (some ⟨b, 0, none⟩) n c L ∧ Pt W st (some ⟨b, 0, none⟩) n c L ∧ ∃ cs fz, W.heap[b]? = some (.cells cs ty fz) := by
 rcases o.2 with ⟨_, e⟩ | ⟨g, cp, cu, e, hb, hg, q1, q2, _⟩
 · omega
 · have hp : Pt W st (some ⟨g, 0, none⟩) n cp L := by
    refine ⟨o.1, .inr ⟨_, rfl, fun j u hu => ?_⟩, fun q => by cases q⟩
    rw [Addr.add_lit, Nat.zero_add]
    subst e
    exact (o.cellAt j (by have := (List.getElem?_eq_some_iff.1 hu).1; rw [o.1] at this; exact this)).trans hu
   exact ⟨g, cp, e, hb, ⟨q1, q2⟩, .inr ⟨g, 0, _, _, rfl, hg, hA g hb, hp⟩, hp, _, _, hg⟩
theorem Lies.split {b off k c1 c2 : Nat} {Y Z : List Value} (h : Lies A W0 W st ty (some ⟨b, off, none⟩) n c (Y ++ Z)) (hA : Y.length = k * st) : Lies A W0 W st ty (some ⟨b, off, none⟩) k c1 Y ∧ Lies A W0 W st ty (some ⟨b, off + k * st, none⟩) (n - k) c2 Z := by
 rcases h with h | ⟨b', off', cs, fz, e, hb, hA', h⟩
 · obtain ⟨h1, h2⟩ := h.split (c1 := c1) (c2 := c2) hA
   exact ⟨.inl h1, .inl h2⟩
 · cases e
   obtain ⟨h1, h2⟩ := h.split (c1 := c1) (c2 := c2) hA
   exact ⟨.inr ⟨_, _, _, _, rfl, hb, hA', h1⟩, .inr ⟨_, _, _, _, rfl, hb, hA', h2⟩⟩
end
def ptrG (gs : List Nat) (k : Int) : Value := .pointer (some ⟨gs.getD k.toNat 0, 0, none⟩)
structure EsT (W0 : World) (es : List En) (xs : List Value) : Prop where
 len : xs.length = es.length
 row : ∀ j, j < es.length → Row W0 (xs.getD j nilS) (es.getD j en0).Z
 fl : ∀ j, (es.getD j en0).F < 18446744073709551616
 sm : ∀ j, (es.getD j en0).Z.length ≤ 2097152
structure NdT (A : Nat → Prop) (W0 W : World) (gs : List Nat) (nb : Option Nat) (i : Nat) (d : Nd) : Prop where
 ex : ∃ (a : Option Addr) (c : Nat) (ka : Option Addr) (kc : Nat) (xs : List Value),
  W.heap[gs.getD i 0]? = some (.cells #[.int .i64 (i : Int), .bool d.leaf, .slice a d.es.length c, .slice ka d.ks.length kc] 112) ∧
  (d.es.length ≤ c ∧ c ≤ maxLen) ∧ (a = none ∨ ∃ b off, a = some ⟨b, off, none⟩) ∧ Lies A W0 W 5 48 a d.es.length c (cellsE d.es xs) ∧ EsT W0 d.es xs ∧
  (d.leaf = false → ∃ kb ko cs fz, ka = some ⟨kb, ko, none⟩ ∧ (d.ks.length ≤ kc ∧ kc ≤ maxLen) ∧ Pt W 1 (some ⟨kb, ko, none⟩) d.ks.length kc (d.ks.map (ptrG gs)) ∧ (nb ≠ some kb ∧ ¬ A kb) ∧ W.heap[kb]? = some (.cells cs 70 fz))
 closed : ∀ k ∈ d.ks, 0 ≤ k ∧ k.toNat < gs.length
section
variable {A : Nat → Prop} {W0 W W' : World} {gs : List Nat} {nb nb' : Option Nat} {i : Nat} {d : Nd}
theorem NdT.kept {X : Nat → Prop} (h : NdT A W0 W gs nb i d) (k : Kept X W W') (h1 : ¬ X (gs.getD i 0)) (hE : ∀ b cs fz, W.heap[b]? = some (.cells cs 48 fz) → ¬ A b → ¬ X b) (hP : ∀ b cs fz, W.heap[b]? = some (.cells cs 70 fz) → nb ≠ some b → ¬ A b → ¬ X b) (hn : nb' = nb ∨ ∀ b, nb' = some b → W.heap.size ≤ b) : NdT A W0 W' gs nb' i d := by
 obtain ⟨⟨a, c, ka, kc, xs, e1, e2, e3, e4, e5, e6⟩, cl⟩ := h
 refine ⟨⟨a, c, ka, kc, xs, (k.block _ (qL e1) h1).trans e1, e2, e3, e4.kept k hE, e5, fun hl => ?_⟩, cl⟩
 obtain ⟨kb, ko, cs, fz, f1, f2, f3, f4, f5⟩ := e6 hl
 have e := k.block kb (qL f5) (hP kb cs fz f5 f4.1 f4.2)
 refine ⟨kb, ko, cs, fz, f1, f2, f3.block e, ⟨fun q => ?_, f4.2⟩, e.trans f5⟩
 rcases hn with hn | hn
 · exact f4.1 (hn ▸ q)
 · have := hn kb q
   have := (qL f5)
   omega
theorem NdT.more (h : NdT A W0 W gs nb i d) (hi : i < gs.length) (g : Nat) : NdT A W0 W (gs ++ [g]) nb i d := by
 obtain ⟨⟨a, c, ka, kc, xs, e1, e2, e3, e4, e5, e6⟩, cl⟩ := h
 have hg : ∀ j, j < gs.length → (gs ++ [g]).getD j 0 = gs.getD j 0 := fun j hj => by rw [List.getD_eq_getElem?_getD, List.getElem?_append_left hj, ← List.getD_eq_getElem?_getD]
 have hm : d.ks.map (ptrG (gs ++ [g])) = d.ks.map (ptrG gs) := List.map_congr_left (fun k hk => by unfold ptrG; rw [hg _ (cl k hk).2])
 refine ⟨⟨a, c, ka, kc, xs, by rw [hg i hi]; exact e1, e2, e3, e4, e5, fun hl => by rw [hm]; exact e6 hl⟩, fun k hk => ⟨(cl k hk).1, by have := (cl k hk).2; simp; omega⟩⟩
theorem NdT.num (h : NdT A W0 W gs nb i d) : ∃ l y z, W.heap[gs.getD i 0]? = some (.cells #[.int .i64 (i : Int), l, y, z] 112) := by
 obtain ⟨⟨a, c, ka, kc, xs, e1, _⟩, _⟩ := h
 exact ⟨_, _, _, e1⟩
theorem NdT.apart {j : Nat} {d' : Nd} (h : NdT A W0 W gs nb i d) (h' : NdT A W0 W gs nb' j d') (hij : i ≠ j) : gs.getD i 0 ≠ gs.getD j 0 := fun e => by
 obtain ⟨_, _, _, e1⟩ := h.num
 obtain ⟨_, _, _, e2⟩ := h'.num
 rw [e, e2] at e1
 simp only [Option.some.injEq, Obj.cells.injEq] at e1
 have := e1.1
 simp at this
 omega
end
theorem type_ne {W : World} {b b' : Nat} {cs cs' : Array Value} {t t' : TypeId} {fz fz' : Nat × Nat} (h : W.heap[b]? = some (.cells cs t fz)) (h' : W.heap[b']? = some (.cells cs' t' fz')) (ht : t ≠ t') : b ≠ b' := fun e => by
 rw [e, h'] at h
 simp only [Option.some.injEq, Obj.cells.injEq] at h
 exact ht h.2.1.symm
structure Tab (A : Nat → Prop) (W0 W : World) (q : Nat) (gp : Value) (gs : List Nat) (ns : List Nd) : Prop where
 bel : Below W0.heap.size W0 W
 len : gs.length = ns.length
 ex : ∃ nv lo, W.heap[q]? = some (.cells #[nv, gp] 77) ∧ W.ownsRow lo 70 1 nv ns.length (ptrs gs) ∧ lo ≤ W.heap.size ∧ ∀ i, i < ns.length → NdT A W0 W gs nv.ownBlock i (ns.getD i nd0)
 qlo : W0.heap.size ≤ q
 nlo : ∀ nv cs fz, W.heap[q]? = some (.cells #[nv, gp] cs fz) → ∀ b, nv.ownBlock = some b → W0.heap.size ≤ b
 low : ∀ i, i < ns.length → W0.heap.size ≤ gs.getD i 0
section
variable {A : Nat → Prop} {W0 W W' : World} {q : Nat} {gp : Value} {gs : List Nat} {ns : List Nd}
theorem Tab.set (h : Tab A W0 W q gp gs ns) {x : Nat} (hx : x < ns.length) {d' : Nd} (k : Kept (fun b => b = gs.getD x 0) W W') (hn : ∀ nv, W.heap[q]? = some (.cells #[nv, gp] 77) → W'.heap[q]? = W.heap[q]? → NdT A W0 W' gs nv.ownBlock x d') : Tab A W0 W' q gp gs (ns.set x d') := by
 obtain ⟨nv, lo, e1, e2, e3, e4⟩ := h.ex
 obtain ⟨l, y, z, ex⟩ := (e4 x hx).num
 have hq := k.block q (qL e1) (type_ne e1 ex (by decide))
 have hb : Below W0.heap.size W W' := k.below h.bel.size (fun b hb e => by have := h.low x hx; omega)
 refine ⟨h.bel.trans hb, by rw [List.length_set]; exact h.len, ⟨nv, lo, hq.trans e1, ?_, Nat.le_trans e3 k.size, fun i hi => ?_⟩, h.qlo, fun nv' cs fz e => h.nlo nv' cs fz (hq ▸ e), fun i hi => h.low i (by simpa using hi)⟩
 · rw [List.length_set]
   refine ⟨e2.1, ?_⟩
   rcases e2.2 with hh | ⟨g, cap, cur, r1, r2, r3, r4⟩
   · exact .inl hh
   · exact .inr ⟨g, cap, cur, r1, r2, (k.block g (qL r3) (type_ne r3 ex (by decide))).trans r3, r4⟩
 · rw [List.length_set] at hi
   rw [getD_set11 _ _ _ _ hx]
   split
   · rename_i e; subst e; exact hn nv e1 hq
   · rename_i e
     exact (e4 i hi).kept k ((e4 i hi).apart (e4 x hx) (fun q => e q.symm)) (fun b cs fz hh _ => type_ne hh ex (by decide)) (fun b cs fz hh _ _ => type_ne hh ex (by decide)) (.inl rfl)
theorem Tab.grow (h : Tab A W0 W q gp gs ns) {x gn : Nat} {dl dm : Nd} {nv nv' : Value} {lo : Nat} (hq : W.heap[q]? = some (.cells #[nv, gp] 77)) (hlo : lo ≤ W.heap.size)
 (hq' : W'.heap[q]? = some (.cells #[nv', gp] 77)) (ho : W'.ownsRow lo 70 1 nv' (ns.length + 1) (ptrs gs ++ [.pointer (some ⟨gn, 0, none⟩)])) (hb : nv'.ownBlock = nv.ownBlock ∨ ∀ b, nv'.ownBlock = some b → W.heap.size ≤ b)
 (hgn : W.heap.size ≤ gn) (k : Kept (fun b => b = q ∨ nv.ownBlock = some b ∨ (x < ns.length ∧ b = gs.getD x 0)) W W') (hl : x < ns.length → NdT A W0 W' (gs ++ [gn]) nv'.ownBlock x dl) (hm : NdT A W0 W' (gs ++ [gn]) nv'.ownBlock ns.length dm) : Tab A W0 W' q gp (gs ++ [gn]) (ns.set x dl ++ [dm]) := by
 obtain ⟨nv1, lo1, e1, e2, e3, e4⟩ := h.ex
 have : nv1 = nv := by
  rw [hq] at e1
  simp only [Option.some.injEq, Obj.cells.injEq] at e1
  have := e1.1
  simp at this
  exact this.symm
 subst this
 have tb : ∀ {b : Nat} {cs : Array Value} {t : TypeId} {fz : Nat × Nat}, W.heap[b]? = some (.cells cs t fz) → t ≠ 70 → nv1.ownBlock ≠ some b := fun hh ht => owns_block_ne e2 hh ht
 have tx : ∀ {b : Nat} {cs : Array Value} {t : TypeId} {fz : Nat × Nat}, W.heap[b]? = some (.cells cs t fz) → t ≠ 112 → ¬ (x < ns.length ∧ b = gs.getD x 0) := fun hh ht q => by
  obtain ⟨l, y, z, ex⟩ := (e4 x q.1).num
  exact type_ne hh ex ht q.2
 have hbl : Below W0.heap.size W W' := k.below h.bel.size (fun b hb e => by
  rcases e with e | e | ⟨e0, e⟩
  · have := h.qlo; omega
  · have := h.nlo _ _ _ e1 b e; omega
  · have := h.low x e0; omega)
 have hlen := h.len
 refine ⟨h.bel.trans hbl, by simp [hlen], ⟨nv', lo, hq', ?_, Nat.le_trans hlo k.size, fun i hi => ?_⟩, h.qlo, fun nv2 cs fz e b eb => ?_, fun i hi => ?_⟩
 · rw [List.length_append, List.length_set, List.length_singleton]
   unfold ptrs at ho ⊢
   rw [List.map_append]
   exact ho
 · rw [List.length_append, List.length_set, List.length_singleton] at hi
   rw [getD_snoc11, List.length_set]
   split
   · rename_i hi'
     by_cases ex : x = i
     · subst ex
       rw [getD_set11 _ _ _ _ hi', if_pos rfl]
       exact hl hi'
     · have : (ns.set x dl).getD i nd0 = ns.getD i nd0 := by rw [List.getD_eq_getElem?_getD, List.getElem?_set_ne ex, ← List.getD_eq_getElem?_getD]
       rw [this]
       obtain ⟨l, y, z, ei⟩ := (e4 i hi').num
       refine ((e4 i hi').kept k (fun e => ?_) (fun b cs fz hh _ e => ?_) (fun b cs fz hh hne _ e => ?_) hb).more (by omega) gn
       · rcases e with e | e | ⟨e0, e⟩
         · exact type_ne ei e1 (by decide) e
         · exact tb ei (by decide) e
         · exact (e4 i hi').apart (e4 x e0) (fun q => ex q.symm) e
       · rcases e with e | e | e
         · exact type_ne hh e1 (by decide) e
         · exact tb hh (by decide) e
         · exact tx hh (by decide) e
       · rcases e with e | e | e
         · exact type_ne hh e1 (by decide) e
         · exact hne e
         · exact tx hh (by decide) e
   · rw [if_pos (by omega)]
     obtain rfl : i = ns.length := by omega
     exact hm
 · rw [hq'] at e
   simp only [Option.some.injEq, Obj.cells.injEq] at e
   have h9 := e.1
   simp at h9
   subst h9
   rcases hb with hb | hb
   · exact h.nlo _ _ _ e1 b (hb ▸ eb)
   · have := hb b eb; have := h.bel.size; omega
 · rw [List.length_append, List.length_set, List.length_singleton] at hi
   by_cases hi' : i < ns.length
   · rw [List.getD_eq_getElem?_getD, List.getElem?_append_left (by omega), ← List.getD_eq_getElem?_getD]
     exact h.low i hi'
   · obtain rfl : i = ns.length := by omega
     rw [List.getD_eq_getElem?_getD, List.getElem?_append_right (by omega), hlen]
     simp
     have := h.bel.size
     omega
theorem Tab.kept {X : Nat → Prop} (h : Tab A W0 W q gp gs ns) (k : Kept X W W') (hX : ∀ b cs t fz, W.heap[b]? = some (.cells cs t fz) → (t = 77 ∨ t = 112 ∨ ((t = 70 ∨ t = 48) ∧ ¬ A b)) → ¬ X b) (hr : ∀ nv b, W.heap[q]? = some (.cells #[nv, gp] 77) → nv.ownBlock = some b → ¬ X b) (hl : ∀ b, b < W0.heap.size → ¬ X b) : Tab A W0 W' q gp gs ns := by
 obtain ⟨nv, lo, e1, e2, e3, e4⟩ := h.ex
 have hq := k.block q (qL e1) (hX _ _ _ _ e1 (.inl rfl))
 refine ⟨h.bel.trans (k.below h.bel.size hl), h.len, ⟨nv, lo, hq.trans e1, ?_, Nat.le_trans e3 k.size, fun i hi => ?_⟩, h.qlo, fun nv' cs fz e => h.nlo nv' cs fz (hq ▸ e), h.low⟩
 · refine ⟨e2.1, ?_⟩
   rcases e2.2 with hh | ⟨g, cap, cur, r1, r2, r3, r4⟩
   · exact .inl hh
   · exact .inr ⟨g, cap, cur, r1, r2, (k.block g (qL r3) (hr nv g e1 (by rw [r1]; rfl))).trans r3, r4⟩
 · obtain ⟨l, y, z, ex⟩ := (e4 i hi).num
   exact (e4 i hi).kept k (hX _ _ _ _ ex (.inr (.inl rfl))) (fun b cs fz hh ha => hX _ _ _ _ hh (.inr (.inr ⟨.inr rfl, ha⟩))) (fun b cs fz hh _ ha => hX _ _ _ _ hh (.inr (.inr ⟨.inl rfl, ha⟩))) (.inl rfl)
theorem Tab.avoid (h : Tab (fun _ => False) W0 W q gp gs ns) (hA : ∀ b, A b → W.heap.size ≤ b) : Tab A W0 W q gp gs ns := by
 obtain ⟨h1, h2, ⟨nv, lo, e1, e2, e3, e4⟩, h4, h5, h6⟩ := h
 have no : ∀ {b : Nat} {o : Obj}, W.heap[b]? = some o → ¬ A b := fun hb ha => by
  have := hA _ ha
  have := (qL hb)
  omega
 refine ⟨h1, h2, ⟨nv, lo, e1, e2, e3, fun i hi => ?_⟩, h4, h5, h6⟩
 obtain ⟨⟨a, c, ka, kc, xs, f1, f2, f3, f4, f5, f6⟩, cl⟩ := e4 i hi
 refine ⟨⟨a, c, ka, kc, xs, f1, f2, f3, ?_, f5, fun hl => ?_⟩, cl⟩
 · rcases f4 with f4 | ⟨b, off, cs, fz, rfl, hb, _, f4⟩
   · exact .inl f4
   · exact .inr ⟨b, off, cs, fz, rfl, hb, no hb, f4⟩
 · obtain ⟨kb, ko, cs, fz, g1, g2, g3, g4, g5⟩ := f6 hl
   exact ⟨kb, ko, cs, fz, g1, g2, g3, ⟨g4.1, no g5⟩, g5⟩
end
end Go.Proofs.YtlkoghdajpbffaaGreat
/- The table of nodes of a tree just linked; the table told as the answer is laid from it. No statement of its own; no conditions. -/

namespace Go.Proofs.YtlkoghdajpbffaaGreat
open Go.RowKit
set_option maxRecDepth 100000
theorem good_at {ns : List Nd} : ∀ (f : Nat) (x y : Int), good ns f x → y ∈ posL ns f x → ∃ f', good ns (f' + 1) y
 | 0, _, _, h, _ => h.elim
 | f + 1, x, y, h, hy => by
  rcases pos_kid hy with rfl | ⟨i, hi, hy'⟩
  · exact ⟨f, h⟩
  · exact good_at f _ _ (h.2.2.2 _ (getD_mem11 hi)) hy'
def gsT (tb : List (Option Addr)) (N : Nat) : List Nat := (List.range N).map (fun i => ((tb.getD i none).getD ⟨0, 0, none⟩).block)
theorem gsT_len (tb : List (Option Addr)) (N : Nat) : (gsT tb N).length = N := by simp [gsT]
theorem gsT_at {tb : List (Option Addr)} {N i gi : Nat} (hi : i < N) (e : tb.getD i none = some ⟨gi, 0, none⟩) : (gsT tb N).getD i 0 = gi := by
 have e2 : (gsT tb N).getD i 0 = ((tb.getD i none).getD ⟨0, 0, none⟩).block := by simp [gsT, List.getD, hi]
 rw [e2, e]; rfl
theorem esT_of {W0 : World} {a : Option Addr} {es : List En} {c : Nat} (h : ReadsE W0 a es) (hm : ∀ j, (es.getD j en0).Z.length ≤ 2097152) (hc : (a = none ∧ c = 0) ∨ ∃ b o, a = some ⟨b, o, none⟩) : ∃ xs, EsT W0 es xs ∧ Pt W0 5 a es.length c (cellsE es xs) := by
 obtain ⟨xs, l, p, r, fl⟩ := (ReadsX.of h (Below.refl _ _)).news
 refine ⟨xs, ⟨l, r, fl, hm⟩, cellsE_len _ _ l, ?_, fun q => ?_⟩
 · rcases hc with hc | ⟨b, o, rfl⟩
   · exact .inl hc
   · refine .inr ⟨_, rfl, ?_⟩
     rcases p with h0 | ⟨p, e, hp⟩
     · obtain rfl := List.length_eq_zero_iff.1 h0
       intro j u hu
       rw [cellsE_nil] at hu
       cases hu
     · cases e; exact hp
 · rcases p with h0 | ⟨p, e, _⟩
   · exact h0
   · rw [q] at e; cases e
theorem LkT.tab {tb : List (Option Addr)} {w0 w : World} {ns : List Nd} {lo hi f r N : Nat} {i : Nat} {g : Nat} (h : LkT tb w0 w ns lo hi (f + 1) (i : Int) g) (hr : r < lo) (hl : ns.length = N) (hi' : i < N) (hm : ∀ j, ((ns.getD i nd0).es.getD j en0).Z.length ≤ 2097152) (hk : ∀ k ∈ (ns.getD i nd0).ks, 0 ≤ k ∧ k < ns.length) : NdT (fun _ => False) w0 w (gsT tb N) (some r) i (ns.getD i nd0) := by
 have hg : (gsT tb N).getD i 0 = g := gsT_at hi' (by have := h.told.1; rwa [Int.toNat_natCast] at this)
 obtain ⟨_, h1, h2, hf, a, c, kv, gs, hc, e, re, hgl, hK, hs⟩ := h
 rw [Int.toNat_natCast] at hf hc e re hgl hs
 obtain ⟨ka, kc, rfl⟩ := own_sl hK.own
 obtain ⟨xs, x1, x2⟩ := esT_of re hm hc.2.2
 refine ⟨⟨a, c, ka, kc, xs, ?_, ⟨hc.1, hc.2.1⟩, ?_, .inl x2, x1, fun hlf => ?_⟩, fun k hk' => ⟨(hk k hk').1, ?_⟩⟩
 · rw [hg, ← hgl]; exact e
 · rcases hc.2.2 with q | q
   · exact .inl q.1
   · exact .inr q
 · have h0 := form_kids hf hlf
   obtain ⟨b, c', e1, e2, e3, _, e5, cs, fz, e6⟩ := Lies.own (A := fun _ => False) (W0 := w0) (fun _ _ h => h) (by omega) hK.own
   obtain ⟨rfl, -, rfl⟩ := Value.slice.inj e1
   refine ⟨b, 0, cs, fz, rfl, by rw [← hgl]; exact e3, ?_, ⟨fun q => by cases q; omega, fun h => h⟩, e6⟩
   have em : ptrs gs = (ns.getD i nd0).ks.map (ptrG (gsT tb N)) := by
    apply List.ext_getElem?
    intro j
    by_cases hj : j < gs.length
    · rw [ptrs_at gs j hj, List.getElem?_map, List.getElem?_eq_getElem (by omega)]
      have hkj : (ns.getD i nd0).ks.getD j 0 = (ns.getD i nd0).ks[j]'(by omega) := by rw [List.getD_eq_getElem?_getD, List.getElem?_eq_getElem (by omega)]; rfl
      have hb := hk _ (getD_mem11 (l := (ns.getD i nd0).ks) (i := j) (by omega))
      have ht := hs j hj
      cases f with
      | zero => exact ht.elim
      | succ f =>
       have hgj := gsT_at (N := N) (show ((ns.getD i nd0).ks.getD j 0).toNat < N by omega) ht.told.1
       unfold ptrG
       rw [← hkj]
       simp only [Option.map_some]
       rw [hgj]
    · rw [List.getElem?_eq_none (by rw [ptrs_len]; omega), List.getElem?_eq_none (by rw [List.length_map]; omega)]
   rw [← em, ← hgl]
   exact e5
 · rw [gsT_len]; have := hk k hk'; omega
theorem tab_start {tb : List (Option Addr)} {w0 w : World} {ns : List Nd} {lo hi r q N g : Nat} {root : Int} {sd : List Bool} (ht : treeIs ns root = true) (hl : ns.length = N) (hm : ∀ i j, ((ns.getD i nd0).es.getD j en0).Z.length ≤ 2097152) (hb : Below w0.heap.size w0 w)
 (hq : w.heap[q]? = some (.cells #[.slice (some ⟨r, 0, none⟩) N N, .pointer (some ⟨g, 0, none⟩)] 77)) (hr : NRowP w r N sd tb) (h1 : w0.heap.size ≤ r) (h2 : r < q) (h3 : q < lo) (hk : LkT tb w0 w ns lo hi (N + 1) root g) :
 Tab (fun _ => False) w0 w q (.pointer (some ⟨g, 0, none⟩)) (gsT tb N) ns ∧ (gsT tb N).getD root.toNat 0 = g := by
 have hgd := (treeIs_parts ht).1
 have hp := (treeIs_parts ht).2.2
 have hfew := (tree_few ht).1
 rw [hl] at hp hgd
 have key : ∀ i, i < N → ∃ f gi, LkT tb w0 w ns lo hi (f + 1) (i : Int) gi := fun i hi => LkT.pos _ _ _ hk _ (hp i hi)
 have hrt : root.toNat < N := by have := hgd.2.1; have := hgd.2.2.1; omega
 have kids : ∀ i, i < N → ∀ k ∈ (ns.getD i nd0).ks, 0 ≤ k ∧ k < ns.length := fun i hi k hk' => by
  obtain ⟨f', hg'⟩ := good_at _ _ _ hgd (hp i hi)
  have := hg'.2.2.2 k (by rw [Int.toNat_natCast]; exact hk')
  cases f' with
  | zero => exact this.elim
  | succ f' => exact ⟨this.2.1, this.2.2.1⟩
 refine ⟨⟨hb, by rw [gsT_len, hl], ⟨.slice (some ⟨r, 0, none⟩) N N, r, hq, ?_, ?_, fun i hi => ?_⟩, by omega, fun nv cs fz e b eb => ?_, fun i hi => ?_⟩, gsT_at hrt hk.told.1⟩
 · refine ⟨by rw [ptrs_len, gsT_len, hl]; omega, .inr ⟨r, N, _, by rw [hl], Nat.le_refl _, hr.row, by omega, by unfold maxLen; omega, by simp [hr.len], ?_⟩⟩
   rw [hl, Nat.mul_one, List.take_of_length_le (by simp [hr.len])]
   apply List.ext_getElem?
   intro j
   by_cases hj : j < N
   · rw [ptrs_at _ j (by rw [gsT_len]; exact hj)]
     obtain ⟨f, gi, h⟩ := key j hj
     have h0 := h.told.1
     rw [Int.toNat_natCast] at h0
     rw [gsT_at hj h0]
     have : tb[j]? = some (some ⟨gi, 0, none⟩) := by
      have hlt : j < tb.length := by rw [hr.len]; exact hj
      rw [List.getD_eq_getElem?_getD, List.getElem?_eq_getElem hlt] at h0
      rw [List.getElem?_eq_getElem hlt]
      exact congrArg some h0
     simp [this]
   · rw [List.getElem?_eq_none (by simp [hr.len]; omega), List.getElem?_eq_none (by rw [ptrs_len, gsT_len]; omega)]
 · exact Nat.le_of_lt (qL hr.row)
 · rw [hl] at hi
   obtain ⟨f, gi, h⟩ := key i hi
   exact h.tab (r := r) (by omega) hl hi (hm i) (kids i hi)
 · rw [hq] at e
   simp only [Option.some.injEq, Obj.cells.injEq] at e
   have h9 := e.1
   simp at h9
   subst h9
   cases eb
   exact h1
 · rw [hl] at hi
   obtain ⟨f, gi, h⟩ := key i hi
   have h0 := h.told
   rw [Int.toNat_natCast] at h0
   rw [gsT_at hi h0.1]
   omega
theorem Lies.reads {A : Nat → Prop} {W0 W : World} {a : Option Addr} {c : Nat} {es : List En} {xs : List Value} (h : Lies A W0 W 5 48 a es.length c (cellsE es xs)) (he : EsT W0 es xs) (hb : Below W0.heap.size W0 W) (ha : a = none ∨ ∃ b off, a = some ⟨b, off, none⟩) : ReadsE W a es := by
 obtain ⟨_, h2, h3⟩ := h.pt hb
 refine ⟨?_⟩
 by_cases h0 : es.length = 0
 · exact .inl h0
 rcases ha with rfl | ⟨b, off, rfl⟩
 · exact .inl (h3 rfl)
 rcases h2 with ⟨q, _⟩ | ⟨p, q, hc⟩
 · cases q
 cases q
 refine .inr ⟨b, off, rfl, fun i hi => ⟨xs.getD i nilS, ?_, (he.row i hi).below hb qN, he.fl i⟩⟩
 have k : ∀ j, j < 5 → ∀ u, (cellsE1 (es.getD i en0) (xs.getD i nilS))[j]? = some u → W.cell? ⟨b, off + (i * 5 + j), none⟩ = some u := fun j hj u hu => by
  have := hc (i * 5 + j) u ((cellsE_at es xs i j he.len hi hj).trans hu)
  rwa [Addr.add_lit] at this
 have k0 := k 0 (by omega) _ rfl
 have k1 := k 1 (by omega) _ rfl
 have k2 := k 2 (by omega) _ rfl
 have k3 := k 3 (by omega) _ rfl
 have k4 := k 4 (by omega) _ rfl
 exact ⟨by simpa using k0, by rw [Nat.add_assoc]; exact k1, by rw [Nat.add_assoc]; exact k2, by rw [Nat.add_assoc]; exact k3, by rw [Nat.add_assoc]; exact k4⟩
theorem map_at11 {β : Type} (f : Int → β) (l : List Int) (j : Nat) (hj : j < l.length) : (l.map f)[j]? = some (f (l.getD j 0)) := by simp [List.getD, hj]
theorem map_get11 (f : Int → Nat) (l : List Int) (j : Nat) (hj : j < l.length) : (l.map f).getD j 0 = f (l.getD j 0) := by simp [List.getD, hj]
theorem Tab.laid {A : Nat → Prop} {W0 W : World} {q : Nat} {gp : Value} {gs : List Nat} {ns : List Nd} (h : Tab A W0 W q gp gs ns) (h0 : 0 < ns.length) (hf : ∀ i, i < ns.length → formOk (ns.getD i nd0) = true) : ∃ r c, W.heap[q]? = some (.cells #[.slice (some ⟨r, 0, none⟩) ns.length c, gp] 77) ∧ TabR W r ns.length ns ∧ (∀ i, i < ns.length → W.cell? ⟨gs.getD i 0, 0, none⟩ = some (.int .i64 (i : Int))) ∧ (∀ i j, ((ns.getD i nd0).es.getD j en0).Z.length ≤ 2097152) ∧ (∀ i j, 0 ≤ (ns.getD i nd0).ks.getD j 0 ∧ (ns.getD i nd0).ks.getD j 0 ≤ ns.length) := by
 obtain ⟨nv, lo, e1, e2, e3, e4⟩ := h.ex
 have hlen := h.len
 have hbel := h.bel
 obtain ⟨b, c, rfl, _, _, _, p, _⟩ := Lies.own (A := fun _ => False) (W0 := W0) (fun _ _ h => h) h0 e2
 have num : ∀ i, i < ns.length → W.cell? ⟨gs.getD i 0, 0, none⟩ = some (.int .i64 (i : Int)) := fun i hi => by
  obtain ⟨l, y, z, e⟩ := (e4 i hi).num
  rw [cell_of_row _ _ _ _ _ _ e]; rfl
 have out : ∀ i, ¬ i < ns.length → ns.getD i nd0 = nd0 := fun i hi => by simp [List.getD, List.getElem?_eq_none (Nat.le_of_not_lt hi)]
 refine ⟨b, c, e1, ⟨gs, fun i hi => ?_, fun i hi => ?_⟩, num, fun i j => ?_, fun i j => ?_⟩
 · rcases p.2.1 with ⟨q', _⟩ | ⟨p', q', hc⟩
   · cases q'
   · cases q'
     have := hc i _ (ptrs_at gs i (by omega))
     rwa [Addr.add_lit, Nat.zero_add] at this
 · obtain ⟨⟨a, c2, ka, kc, xs, f1, f2, f3, f4, f5, f6⟩, cl⟩ := e4 i hi
   refine ⟨a, c2, ka, kc, (ns.getD i nd0).ks.map (fun k => gs.getD k.toNat 0), by rw [List.length_map]; exact f1, f4.reads f5 hbel f3, by rw [List.length_map], ?_, fun j hj => ?_⟩
   · rw [List.length_map]
     cases hl : (ns.getD i nd0).leaf with
     | true => exact .inl (form_leaf (hf i hi) hl).2
     | false =>
      obtain ⟨kb, ko, cs, fz, g1, _, g3, _⟩ := f6 hl
      refine .inr ⟨kb, ko, g1, fun j hj => ?_⟩
      rcases g3.2.1 with ⟨q', _⟩ | ⟨p', q', hc⟩
      · cases q'
      · cases q'
        have := hc j _ (map_at11 (ptrG gs) _ j hj)
        rw [Addr.add_lit] at this
        rw [this, map_get11 _ _ j hj]
        rfl
   · rw [List.length_map] at hj
     have hk := cl _ (getD_mem11 hj)
     rw [map_get11 _ _ j hj, num _ (by omega)]
     congr 2
     omega
 · by_cases hi : i < ns.length
   · obtain ⟨⟨_, _, _, _, xs, _, _, _, _, f5, _⟩, _⟩ := e4 i hi
     exact f5.sm j
   · rw [out i hi]; simp [nd0, en0]
 · by_cases hi : i < ns.length
   · by_cases hj : j < (ns.getD i nd0).ks.length
     · have := (e4 i hi).closed _ (getD_mem11 hj)
       omega
     · rw [List.getD_eq_getElem?_getD, List.getElem?_eq_none (Nat.le_of_not_lt hj)]
       simp
   · rw [out i hi]; simp [nd0]
end Go.Proofs.YtlkoghdajpbffaaGreat
/- A step of a way up over the table of nodes: a node takes an entry, a node is split, a new root. Conditions: at most a thousand nodes. -/

namespace Go.Proofs.YtlkoghdajpbffaaGreat
open Go.RowKit
set_option maxRecDepth 100000
theorem putL_get {α : Type} (l : List α) (i : Nat) (x d : α) (h : i ≤ l.length) (j : Nat) : (putL l i x).getD j d = if j < i then l.getD j d else if j = i then x else l.getD (j - 1) d := by
 unfold putL
 have hl : (l.take i).length = i := by rw [List.length_take]; omega
 rw [List.getD_eq_getElem?_getD]
 split
 · rename_i q
   rw [List.getElem?_append_left (by omega), List.getElem?_take, if_pos q, ← List.getD_eq_getElem?_getD]
 · rw [List.getElem?_append_right (by omega), hl]
   split
   · rename_i q; subst q; simp
   · obtain ⟨m, hm⟩ : ∃ m, j - i = m + 1 := ⟨j - i - 1, by omega⟩
     rw [hm, List.getElem?_cons_succ, List.getElem?_drop, ← List.getD_eq_getElem?_getD]
     congr 1
     omega
theorem putL_map {α β : Type} (f : α → β) (l : List α) (i : Nat) (x : α) : (putL l i x).map f = putL (l.map f) i (f x) := by
 unfold putL
 rw [List.map_append, List.map_cons, List.map_take, List.map_drop]
theorem putL_mem {α : Type} {l : List α} {i : Nat} {x y : α} (h : y ∈ putL l i x) : y = x ∨ y ∈ l := by
 unfold putL at h
 rcases List.mem_append.1 h with h | h
 · exact .inr (List.mem_of_mem_take h)
 · rcases List.mem_cons.1 h with h | h
   · exact .inl h
   · exact .inr (List.mem_of_mem_drop h)
section
variable {W0 : World} {es : List En} {xs : List Value}
theorem EsT.put (h : EsT W0 es xs) {i : Nat} (hi : i ≤ es.length) {e : En} {v : Value} (hr : Row W0 v e.Z) (hF : e.F < 18446744073709551616) (hZ : e.Z.length ≤ 2097152) : EsT W0 (putL es i e) (putL xs i v) := by
 have hx := h.len
 refine ⟨by rw [putL_len, putL_len, hx], fun j hj => ?_, fun j => ?_, fun j => ?_⟩
 · rw [putL_len] at hj
   rw [putL_get _ _ _ _ (by omega), putL_get _ _ _ _ hi]
   split
   · exact h.row j (by omega)
   · split
     · exact hr
     · exact h.row _ (by omega)
 · rw [putL_get _ _ _ _ hi]
   split
   · exact h.fl j
   · split
     · exact hF
     · exact h.fl _
 · rw [putL_get _ _ _ _ hi]
   split
   · exact h.sm j
   · split
     · exact hZ
     · exact h.sm _
theorem getD_take11 {α : Type} (l : List α) (k j : Nat) (d : α) : (l.take k).getD j d = if j < k then l.getD j d else d := by
 rw [List.getD_eq_getElem?_getD, List.getElem?_take]
 split
 · rw [← List.getD_eq_getElem?_getD]
 · rfl
theorem getD_drop11 {α : Type} (l : List α) (k j : Nat) (d : α) : (l.drop k).getD j d = l.getD (k + j) d := by
 rw [List.getD_eq_getElem?_getD, List.getElem?_drop, ← List.getD_eq_getElem?_getD]
theorem EsT.take (h : EsT W0 es xs) (k : Nat) : EsT W0 (es.take k) (xs.take k) := by
 have hx := h.len
 refine ⟨by rw [List.length_take, List.length_take, hx], fun j hj => ?_, fun j => ?_, fun j => ?_⟩
 · rw [List.length_take] at hj
   rw [getD_take11, getD_take11, if_pos (by omega), if_pos (by omega)]
   exact h.row j (by omega)
 · rw [getD_take11]; split
   · exact h.fl j
   · simp [en0]
 · rw [getD_take11]; split
   · exact h.sm j
   · simp [en0]
theorem EsT.drop (h : EsT W0 es xs) (k : Nat) : EsT W0 (es.drop k) (xs.drop k) := by
 have hx := h.len
 refine ⟨by rw [List.length_drop, List.length_drop, hx], fun j hj => ?_, fun j => ?_, fun j => ?_⟩
 · rw [List.length_drop] at hj
   rw [getD_drop11, getD_drop11]
   exact h.row _ (by omega)
 · rw [getD_drop11]; exact h.fl _
 · rw [getD_drop11]; exact h.sm _
end
theorem one_ptrs (gs : List Nat) (ks : List Int) : ∀ u ∈ ks.map (ptrG gs), u.oneCell' = true := fun u hu => by
 obtain ⟨k, _, rfl⟩ := List.mem_map.1 hu
 rfl
section
variable {A : Nat → Prop} {W0 W : World} {q : Nat} {gp : Value} {gs : List Nat} {ns : List Nd}
set_option maxHeartbeats 1600000 in
theorem take_tab (h : Tab A W0 W q gp gs ns) (hA : ∀ b, W.heap.size ≤ b → ¬ A b) {x i : Nat} (hx : x < ns.length) {d : Nd} (hd : ns.getD x nd0 = d) (hf : formOk d = true) (hi : i ≤ d.es.length) {e : En} {ax : Option Addr} {nx cx : Nat} (hr : Row W0 (.slice ax nx cx) e.Z) (hF : e.F < 18446744073709551616) (hZ : e.Z.length ≤ 2097152) {k : Int} {kid : Value} (hk : d.leaf = false → kid = ptrG gs k ∧ 0 ≤ k ∧ k.toNat < gs.length) :
 Calls Tryz.prog 58 #[.agg #[.pointer (some ⟨gs.getD x 0, 0, none⟩), .int .i64 i], .agg #[.int .i64 e.K, .int .i64 e.N, .float .f64 e.F, .slice ax nx cx, .int .i64 e.id], kid] W fun r w' => r = .returned (.tuple #[]) ∧ Tab A W0 w' q gp gs (ns.set x (takeN d i e k)) ∧ Kept (fun b => b = gs.getD x 0) W w' := by
 obtain ⟨nv, lo, e1, e2, e3, e4⟩ := h.ex
 have hN := e4 x hx
 rw [hd] at hN
 obtain ⟨⟨a, c, ka, kc, xs, f1, f2, f3, f4, f5, f6⟩, cl⟩ := hN
 have p := f4.pt h.bel
 have one : ∀ u ∈ cellsE d.es xs, u.oneCell' = true := cellsE_one _ _ (fun j hj => (f5.row j hj).one)
 have one1 : ∀ u ∈ cellsE1 e (.slice ax nx cx), u.oneCell' = true := by
  intro u hu
  simp only [cellsE1, List.mem_cons, List.not_mem_nil, or_false] at hu
  rcases hu with rfl | rfl | rfl | rfl | rfl <;> rfl
 have hput := f5.put hi hr hF hZ
 have hlen : (putL d.es i e).length = d.es.length + 1 := putL_len _ _ _
 cases hl : d.leaf with
 | true =>
  have q4 := form_leaf hf hl
  rw [hl] at f1
  refine (impl_take_leaf (n := d.es.length) f1 p f3 f5.len rfl q4.1 hi f2 one one1).mono ?_
  rintro r w' ⟨rfl, a', c', g1, g2, g3⟩
  refine ⟨rfl, h.set hx g3 (fun nv' _ _ => ?_), g3⟩
  obtain ⟨b, c2, e5, _, cc, ls, _, _⟩ := Lies.own (W0 := W0) hA (by omega) g2
  obtain ⟨rfl, -, rfl⟩ := Value.slice.inj e5
  have ek : (takeN d i e k).ks = d.ks := by unfold takeN; rw [hl]; rfl
  refine ⟨⟨some ⟨b, 0, none⟩, c', ka, kc, putL xs i (.slice ax nx cx), ?_, ?_, .inr ⟨_, _, rfl⟩, ?_, hput, fun hlf => ?_⟩, by rw [ek]; exact cl⟩
  · rw [g1, ek, show (takeN d i e k).leaf = true from hl, show (takeN d i e k).es.length = d.es.length + 1 from hlen]
  · rw [show (takeN d i e k).es.length = d.es.length + 1 from hlen]; exact cc
  · rw [show (takeN d i e k).es.length = d.es.length + 1 from hlen]; exact ls
  · rw [show (takeN d i e k).leaf = true from hl] at hlf; cases hlf
 | false =>
  have q4 := form_kids hf hl
  obtain ⟨hk1, hk2, hk3⟩ := hk hl
  obtain ⟨kb, ko, cs, fz, rfl, k2, k3, k4, k5⟩ := f6 hl
  rw [hl] at f1
  have hne : kb ≠ gs.getD x 0 := type_ne k5 f1 (by decide)
  subst hk1
  refine (impl_take_inner (n := d.es.length) (nk := d.ks.length) f1 p f3 f5.len rfl q4.2.1 hi f2 one one1 k3 (by omega) (by omega) k2 (one_ptrs gs d.ks) hne).mono ?_
  rintro r w' ⟨rfl, a', c', a2, c2, g1, g2, g4, g3⟩
  refine ⟨rfl, h.set hx g3 (fun nv' hq _ => ?_), g3⟩
  obtain ⟨b, cb, e5, _, cc, ls, _, _⟩ := Lies.own (W0 := W0) hA (by omega) g2
  obtain ⟨rfl, -, rfl⟩ := Value.slice.inj e5
  obtain ⟨b2, cb2, e6, hb2, cc2, _, pk, cs2, fz2, t2⟩ := Lies.own (W0 := W0) hA (by omega) g4
  obtain ⟨rfl, -, rfl⟩ := Value.slice.inj e6
  have ek : (takeN d i e k).ks = putL d.ks (i + 1) k := by unfold takeN; rw [hl]; rfl
  have ekl : (takeN d i e k).ks.length = d.ks.length + 1 := by rw [ek]; exact putL_len _ _ _
  refine ⟨⟨some ⟨b, 0, none⟩, c', some ⟨b2, 0, none⟩, c2, putL xs i (.slice ax nx cx), ?_, ?_, .inr ⟨_, _, rfl⟩, ?_, hput, fun _ => ⟨b2, 0, cs2, fz2, rfl, by rw [ekl]; exact cc2, ?_, ⟨fun eb => ?_, hA _ hb2⟩, t2⟩⟩, fun k' hk' => ?_⟩
  · rw [g1, ekl, show (takeN d i e k).leaf = false from hl, show (takeN d i e k).es.length = d.es.length + 1 from hlen]
  · rw [show (takeN d i e k).es.length = d.es.length + 1 from hlen]; exact cc
  · rw [show (takeN d i e k).es.length = d.es.length + 1 from hlen]; exact ls
  · rw [ekl, ek, putL_map]; exact pk
  · have : nv' = nv := by
     rw [hq] at e1
     simp only [Option.some.injEq, Obj.cells.injEq] at e1
     have h9 := e1.1
     simp at h9
     exact h9
    subst this
    have := (e2.lt b2 eb).2
    omega
  · rw [ek] at hk'
    rcases putL_mem hk' with rfl | hk'
    · exact ⟨hk2, hk3⟩
    · exact cl k' hk'
end
end Go.Proofs.YtlkoghdajpbffaaGreat
