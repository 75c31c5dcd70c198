/- Entries that were gathered, their texts in elder memory; the specification's walk over a tree in memory. No statement of its own; no conditions. -/
import Derived.Test.YtphmlndkjgldkaaMgd
import Derived.Test.YtphmlndkjgldkaaMge
import Derived.Laws.OwnMore
import Derived.Deep.Slices
namespace Go.Proofs.Ytphmlndkjgldkaa
open Go.RowKit Go.Deep
set_option maxRecDepth 100000
structure ReadsX (w0 w : World) (ad : Option Addr) (es : List En) : Prop where
 cells : es.length = 0 ∨ ∃ b off, ad = some ⟨b, off, none⟩ ∧ ∀ i, i < es.length → ∃ x, Box5 w b (off + i * 5) (es.getD i en0).K (es.getD i en0).N (es.getD i en0).F x (es.getD i en0).id ∧ Row w0 x (es.getD i en0).Z ∧ (es.getD i en0).F < 18446744073709551616
theorem ReadsX.of {w0 w : World} {ad : Option Addr} {es : List En} (h : ReadsE w0 ad es) (hb : Below w0.heap.size w0 w) : ReadsX w0 w ad es := by
 refine ⟨?_⟩
 rcases h.cells with h0 | ⟨b, off, e, hc⟩
 · exact .inl h0
 · refine .inr ⟨b, off, e, fun i hi => ?_⟩
   obtain ⟨x, h1, h2, h3⟩ := hc i hi
   exact ⟨x, h1.below hb (Nat.le_refl _), h2, h3⟩
theorem ReadsX.rd {w0 w : World} {ad : Option Addr} {es : List En} (h : ReadsX w0 w ad es) (hb : Below w0.heap.size w0 w) : ReadsE w ad es := by
 refine ⟨?_⟩
 rcases h.cells with h0 | ⟨b, off, e, hc⟩
 · exact .inl h0
 · refine .inr ⟨b, off, e, fun i hi => ?_⟩
   obtain ⟨x, h1, h2, h3⟩ := hc i hi
   exact ⟨x, h1, h2.below hb (Nat.le_refl _), h3⟩
theorem cellsE_one : ∀ (es : List En) (xs : List Value), (∀ i, i < es.length → (xs.getD i nilS).oneCell' = true) → ∀ u ∈ cellsE es xs, u.oneCell' = true
 | [], xs, _, u, hu => by rw [cellsE_nil] at hu; cases hu
 | e :: es, [], _, u, hu => by unfold cellsE at hu; cases hu
 | e :: es, x :: xs, h, u, hu => by
  rw [cellsE_cons, List.mem_append] at hu
  rcases hu with hu | hu
  · simp only [cellsE1, List.mem_cons, List.not_mem_nil, or_false] at hu
    rcases hu with rfl | rfl | rfl | rfl | rfl
    · rfl
    · rfl
    · rfl
    · exact h 0 (by simp)
    · rfl
  · exact cellsE_one es xs (fun i hi => h (i + 1) (by simpa using hi)) u hu
theorem Row.one {w : World} {x : Value} {Z : List Int} (h : Row w x Z) : x.oneCell' = true := by
 obtain ⟨a, c, rfl, _⟩ := h
 rfl
theorem ReadsX.news {w0 w : World} {ad : Option Addr} {es : List En} (h : ReadsX w0 w ad es) : ∃ xs : List Value, xs.length = es.length ∧ (es.length = 0 ∨ ∃ p, ad = some p ∧ ∀ j u, (cellsE es xs)[j]? = some u → w.cell? (p.add j) = some u) ∧ (∀ i, i < es.length → Row w0 (xs.getD i nilS) (es.getD i en0).Z) ∧ (∀ i, (es.getD i en0).F < 18446744073709551616) := by
 rcases h.cells with h0 | ⟨b, off, e, hc⟩
 · obtain rfl := List.length_eq_zero_iff.1 h0
   exact ⟨[], rfl, .inl rfl, (fun i hi => by cases hi), (fun i => by simp [en0])⟩
 · haveI : Inhabited Value := ⟨nilS⟩
   obtain ⟨q, hq⟩ := choose_lt hc
   have hg : ∀ i, i < es.length → ((List.range es.length).map q).getD i nilS = q i := fun i hi => by simp [List.getD, hi]
   have hl : ((List.range es.length).map q).length = es.length := by simp
   refine ⟨(List.range es.length).map q, hl, .inr ⟨_, e, fun j u hj => ?_⟩, fun i hi => by rw [hg i hi]; exact (hq i hi).2.1, fun i => ?_⟩
   · have hjl : j < es.length * 5 := by
      rcases Nat.lt_or_ge j (es.length * 5) with hh | hh
      · exact hh
      · rw [List.getElem?_eq_none (by rw [cellsE_len _ _ hl]; exact hh)] at hj; cases hj
     obtain ⟨i, r, hr, rfl⟩ : ∃ i r, r < 5 ∧ j = i * 5 + r := ⟨j / 5, j % 5, by omega, by omega⟩
     have hi : i < es.length := by omega
     rw [cellsE_at es _ i r hl hi hr, hg i hi] at hj
     obtain ⟨bx, _, _⟩ := hq i hi
     have ea : (⟨b, off, none⟩ : Addr).add (i * 5 + r) = ⟨b, off + i * 5 + r, none⟩ := by simp [Addr.add, Nat.add_assoc]
     rw [ea]
     match r, hr, hj with
     | 0, _, hj => rw [← hj]; exact bx.c0
     | 1, _, hj => rw [← hj]; exact bx.c1
     | 2, _, hj => rw [← hj]; exact bx.c2
     | 3, _, hj => rw [← hj]; exact bx.c3
     | 4, _, hj => rw [← hj]; exact bx.c4
   · by_cases hi : i < es.length
     · exact (hq i hi).2.2
     · rw [List.getD_eq_getElem?_getD, List.getElem?_eq_none (Nat.le_of_not_lt hi)]; simp [en0]
structure AllR (w0 w : World) (lo : Nat) (v : Value) (es : List En) : Prop where
 own : ∃ xs : List Value, w.ownsRow lo 35 5 v es.length (cellsE es xs) ∧ xs.length = es.length ∧ ∀ i, i < es.length → Row w0 (xs.getD i nilS) (es.getD i en0).Z
 fl : ∀ i, (es.getD i en0).F < 18446744073709551616
theorem AllR.nil (w0 w : World) (lo : Nat) : AllR w0 w lo (.slice none 0 0) [] := ⟨⟨[], World.ownsRow_nil _ _ _ _, rfl, (fun i hi => by cases hi)⟩, fun i => by simp [en0]⟩
theorem AllR.lt {w0 w : World} {lo : Nat} {v : Value} {es : List En} (h : AllR w0 w lo v es) : ∀ g, v.ownBlock = some g → lo ≤ g ∧ g < w.heap.size := by
 obtain ⟨xs, o, _⟩ := h.own
 exact o.lt
theorem AllR.keep {w0 w w' : World} {lo : Nat} {v : Value} {es : List En} (h : AllR w0 w lo v es) (hb : ∀ g, v.ownBlock = some g → w'.heap[g]? = w.heap[g]?) : AllR w0 w' lo v es := by
 obtain ⟨xs, o, hl, hr⟩ := h.own
 refine ⟨⟨xs, ?_, hl, hr⟩, h.fl⟩
 cases e : v.ownBlock with
 | none => exact owns_agree (lo := 0) (hi := 0) o (fun k _ k2 => by omega) (fun g hg => by rw [e] at hg; cases hg)
 | some g =>
  refine owns_agree (lo := g) (hi := g + 1) o (fun k k1 k2 => ?_) (fun g' hg => by rw [e] at hg; cases hg; omega)
  obtain rfl : k = g := by omega
  exact hb k e
theorem AllR.slice {w0 w : World} {lo : Nat} {v : Value} {es : List En} (h : AllR w0 w lo v es) : ∃ a c, v = .slice a es.length c := by
 obtain ⟨xs, o, _⟩ := h.own
 exact own_sl o
theorem AllR.rx {w0 w : World} {lo : Nat} {a : Option Addr} {n c : Nat} {es : List En} (h : AllR w0 w lo (.slice a n c) es) : ReadsX w0 w a es := by
 obtain ⟨xs, o, hxl, hr⟩ := h.own
 rcases o.2 with ⟨e, h0⟩ | ⟨g, cap, cur, e, _⟩
 · cases e; exact ⟨.inl h0⟩
 · cases e
   refine ⟨.inr ⟨g, 0, rfl, fun i hi => ⟨xs.getD i nilS, ?_, hr i hi, h.fl i⟩⟩⟩
   have hc := fun j (hj : j < 5) => (o.cellAt (i * 5 + j) (by omega)).trans (cellsE_at es xs i j hxl hi hj)
   rw [Nat.zero_add]
   exact ⟨hc 0 (by omega), hc 1 (by omega), hc 2 (by omega), hc 3 (by omega), hc 4 (by omega)⟩
theorem run_append_none_any {w : World} (base : Nat) (t ty e : TypeId) (i : TypeInfo) (size : Nat) (ht : Try.prog.underlying t = some (.slice e)) (hi : Try.prog.info? e = some i)
 (v : Value) (n : Nat) (xs : List Value) (hown : w.ownsRow base e size v n xs) (c : Nat) :
 (Builtin.append_ #[t, t] ty #[v, .slice none 0 c]).run Try.prog w = .ok v w := by
 rcases hown.2 with ⟨rfl, rfl⟩ | ⟨g, cap, cur, rfl, _, _, hnc, _⟩
 · simp [Builtin.append_, run_underlying ht, sizeOf, typeInfo, hi, Builtin.lenOf, Builtin.firstCells]
 · simp [Builtin.append_, run_underlying ht, sizeOf, typeInfo, hi, Builtin.lenOf, Builtin.firstCells, hnc, storeCells]
theorem AllR.app {w0 w' : World} {lo : Nat} {v : Value} {es fs : List En} {xs ys : List Value} (hx : xs.length = es.length) (hy : ys.length = fs.length) (rx : ∀ i, i < es.length → Row w0 (xs.getD i nilS) (es.getD i en0).Z) (ry : ∀ i, i < fs.length → Row w0 (ys.getD i nilS) (fs.getD i en0).Z)
 (fx : ∀ i, (es.getD i en0).F < 18446744073709551616) (fy : ∀ i, (fs.getD i en0).F < 18446744073709551616) (o : w'.ownsRow lo 35 5 v (es.length + fs.length) (cellsE es xs ++ cellsE fs ys)) : AllR w0 w' lo v (es ++ fs) := by
 refine ⟨⟨xs ++ ys, ?_, by simp [hx, hy], fun i hi => ?_⟩, fun i => ?_⟩
 · rw [List.length_append, cellsE_app es fs xs ys hx]; exact o
 · rw [List.length_append] at hi
   rw [getD_app, getD_app, hx]
   by_cases q : i < es.length
   · rw [if_pos q, if_pos q]; exact rx i q
   · rw [if_neg q, if_neg q]; exact ry _ (by omega)
 · rw [getD_app]
   split
   · exact fx i
   · exact fy _
theorem run_append_X {w0 w : World} {lo : Nat} {v : Value} {es fs : List En} (t ty : TypeId) (ht : Try.prog.underlying t = some (.slice 35)) (h : AllR w0 w lo v es) {ad : Option Addr} (c : Nat) (hx : ReadsX w0 w ad fs) (hb : es.length + fs.length ≤ 100000000) (hlo : lo ≤ w.heap.size) :
 ∃ a' cap w', (Builtin.append_ #[t, t] ty #[v, .slice ad fs.length c]).run Try.prog w = .ok (.slice a' (es.length + fs.length) cap) w' ∧ AllR w0 w' lo (.slice a' (es.length + fs.length) cap) (es ++ fs) ∧ w.grownBy w' v.ownBlock ∧ ((Value.slice a' (es.length + fs.length) cap).ownBlock = v.ownBlock ∨ (Value.slice a' (es.length + fs.length) cap).ownBlock = some w.heap.size) := by
 obtain ⟨xs, o, hl, hr⟩ := h.own
 obtain ⟨ys, hyl, hy, hyr, hyf⟩ := hx.news
 obtain ⟨i0, hi, hz0, hz1, hz2⟩ := info_parts Try.infoEn
 cases ad with
 | none =>
  have h0 : fs.length = 0 := by
   rcases hy with q | ⟨p, q, _⟩
   · exact q
   · cases q
  obtain rfl := List.length_eq_zero_iff.1 h0
  obtain ⟨a', c', rfl⟩ := own_sl o
  refine ⟨a', c', w, ?_, by simpa using h, grown_refl _ _, .inl rfl⟩
  exact run_append_none_any lo t ty 35 i0 5 ht hi _ es.length (cellsE es xs) o c
 | some p =>
  obtain ⟨v', w', hr', h2, h3, _, h5⟩ := run_append_own_at (P := Try.prog) w lo t ty 35 i0 _ 5 56 ht hi hz0 hz1 hz2 rfl (by decide) v es.length (cellsE es xs) o p fs.length c (cellsE fs ys) (cellsE_len fs ys hyl) (by
   rcases hy with q | ⟨p', q, hq⟩
   · obtain rfl := List.length_eq_zero_iff.1 q
     intro j u hj
     rw [cellsE_nil] at hj
     cases hj
   · cases q; exact hq) (cellsE_one fs ys (fun i hi => (hyr i hi).one)) (by unfold maxLen; omega) (by omega) hlo
  obtain ⟨a', c', rfl⟩ := own_sl h2
  exact ⟨a', c', w', hr', AllR.app hl hyl hr hyr h.fl hyf h2, h3, h5⟩
section
variable {ops : Array Oper} {o : Oper} {a : Act} {K : Act → World → Prop} {Q : Exit → Act → World → Prop} {E : Prop} {w0 w : World} {lo : Nat} {v : Value} {es fs : List En} {ad : Option Addr} {m : Nat}
theorem wp_append_X (s x : Operand) (t : TypeId) (ho : o.op = .call { callee := .builtin .append, args := #[s, x], argTypes := #[t, t] }) (ht : Try.prog.underlying t = some (.slice 35)) (h : AllR w0 w lo v es) (hs : a.eval s = v) (c : Nat) (hx : a.eval x = .slice ad m c) (hm : fs.length = m) (hX : ReadsX w0 w ad fs) (hb : es.length + fs.length ≤ 100000000) (hlo : lo ≤ w.heap.size)
 (hh : ∀ a' n' cap w', n' = es.length + m → AllR w0 w' lo (.slice a' n' cap) (es ++ fs) → w.grownBy w' v.ownBlock → ((Value.slice a' n' cap).ownBlock = v.ownBlock ∨ (Value.slice a' n' cap).ownBlock = some w.heap.size) → K (a.put o.dst (.slice a' n' cap)) w') : o.wp Try.prog a w K Q := by
 subst hm
 obtain ⟨a', cap, w', hr, h2, h3, h4⟩ := run_append_X t o.type ht h c hX hb hlo
 unfold Oper.wp execOp
 simp only [ho, resolve, invoke, builtin, Sem.run_bind, Sem.run_pure, Result.andThen_ok, List.map_toArray, List.map_cons, List.map_nil, hs, hx, hr]
 exact hh a' _ cap w' rfl h2 h3 h4
theorem step_append_X (hgd : o.guard = none) (s x : Operand) (t : TypeId) (ho : o.op = .call { callee := .builtin .append, args := #[s, x], argTypes := #[t, t] }) (ht : Try.prog.underlying t = some (.slice 35)) (h : AllR w0 w lo v es) (hs : a.eval s = v) (c : Nat) (hx : a.eval x = .slice ad m c) (hm : fs.length = m) (hX : ReadsX w0 w ad fs) (hb : es.length + fs.length ≤ 100000000) (hlo : lo ≤ w.heap.size)
 (hh : ∀ a' n' cap w', n' = es.length + m → AllR w0 w' lo (.slice a' n' cap) (es ++ fs) → w.grownBy w' v.ownBlock → ((Value.slice a' n' cap).ownBlock = v.ownBlock ∨ (Value.slice a' n' cap).ownBlock = some w.heap.size) → K (a.put o.dst (.slice a' n' cap)) w') :
 if Region.wanted o (yielded ops a.tmps) = true then Oper.wp Try.prog o a w K Q else E := by
 have hw : Region.wanted o (yielded ops a.tmps) = true := by simp [Region.wanted, hgd]
 rw [if_pos hw]
 exact wp_append_X s x t ho ht h hs c hx hm hX hb hlo hh
end
structure Step (p r : Nat) (w : World) (av : Value) (w' : World) (av' : Value) : Prop where
 kept : Kept (fun b => b = p ∨ b = r ∨ av.ownBlock = some b) w w'
 own : av'.ownBlock = av.ownBlock ∨ ∀ b, av'.ownBlock = some b → w.heap.size ≤ b
section
variable {p r : Nat} {w w1 w2 : World} {av av1 av2 : Value}
theorem Step.refl (p r : Nat) (w : World) (av : Value) : Step p r w av w av := ⟨Kept.refl _ _, .inl rfl⟩
theorem Step.trans (h : Step p r w av w1 av1) (k : Step p r w1 av1 w2 av2) : Step p r w av w2 av2 := by
 refine ⟨h.kept.trans k.kept (fun i hi hx => ?_), ?_⟩
 · rcases hx with e | e | e
   · exact .inl e
   · exact .inr (.inl e)
   · rcases h.own with q | q
     · exact .inr (.inr (q ▸ e))
     · exact absurd (q i e) (by omega)
 · rcases k.own with q | q
   · rcases h.own with q' | q'
     · exact .inl (q.trans q')
     · exact .inr (fun b hb => q' b (q ▸ hb))
   · exact .inr (fun b hb => Nat.le_trans h.kept.size (q b hb))
theorem Step.of_below (p r : Nat) (av : Value) (h : Below w.heap.size w w1) : Step p r w av w1 av := ⟨Kept.of_below h, .inl rfl⟩
theorem Step.set_p (p r : Nat) (w : World) (av : Value) (o : Nat) (u : Value) : Step p r w av (w.setCell ⟨p, o, none⟩ u) av := ⟨Kept.set w (p := ⟨p, o, none⟩) (.inl rfl) u, .inl rfl⟩
theorem Step.set_r (p r : Nat) (w : World) (av : Value) (o : Nat) (u : Value) : Step p r w av (w.setCell ⟨r, o, none⟩ u) av := ⟨Kept.set w (p := ⟨r, o, none⟩) (.inr (.inl rfl)) u, .inl rfl⟩
theorem Step.grown (p r : Nat) (g : w.grownBy w1 av.ownBlock) (h : av1.ownBlock = av.ownBlock ∨ av1.ownBlock = some w.heap.size) : Step p r w av w1 av1 := by
 refine ⟨(Kept.of_grown g).mono (fun k _ e => .inr (.inr e.symm)), ?_⟩
 rcases h with q | q
 · exact .inl q
 · exact .inr (fun b hb => by rw [q] at hb; exact Nat.le_of_eq (Option.some.inj hb))
theorem Step.below (h : Step p r w av w1 av1) {B : Nat} (hB : B ≤ w.heap.size) (hp : B ≤ p) (hr : B ≤ r) (hv : ∀ b, av.ownBlock = some b → B ≤ b) : Below B w w1 :=
 h.kept.below hB (fun k hk hx => by
  rcases hx with e | e | e
  · omega
  · omega
  · have := hv k e; omega)
theorem Step.block (h : Step p r w av w1 av1) {k : Nat} (hk : k < w.heap.size) (h1 : k ≠ p) (h2 : k ≠ r) (h3 : av.ownBlock ≠ some k) : w1.heap[k]? = w.heap[k]? := h.kept.block k hk (fun hx => by
 rcases hx with e | e | e
 · exact h1 e
 · exact h2 e
 · exact h3 e)
end
structure WK (w0 w : World) (p r N lo : Nat) (st : St) (av : Value) : Prop where
 box : w.heap[p]? = some (.cells #[.slice (some ⟨r, 0, none⟩) N N, .int .i64 st.deep, .bool st.wrong, av] 104)
 row : w.heap[r]? = some (.cells (st.seen.map Value.bool).toArray 4)
 len : st.seen.length = N
 all : AllR w0 w lo av st.all
 ne : ∀ b, av.ownBlock = some b → b ≠ p ∧ b ≠ r
 pr : p ≠ r
section
variable {w0 w w' : World} {p r N lo : Nat} {st : St} {av : Value}
theorem blk_lt {w : World} {k : Nat} {o : Obj} (h : w.heap[k]? = some o) : k < w.heap.size := by
 rcases Nat.lt_or_ge k w.heap.size with q | q
 · exact q
 · rw [Array.getElem?_eq_none q] at h; cases h
theorem WK.keep (h : WK w0 w p r N lo st av) (hp : w'.heap[p]? = w.heap[p]?) (hr : w'.heap[r]? = w.heap[r]?) (hb : ∀ g, av.ownBlock = some g → w'.heap[g]? = w.heap[g]?) : WK w0 w' p r N lo st av :=
 ⟨hp.trans h.box, hr.trans h.row, h.len, h.all.keep hb, h.ne, h.pr⟩
theorem WK.below (h : WK w0 w p r N lo st av) (hb : Below w.heap.size w w') : WK w0 w' p r N lo st av :=
 h.keep (hb.block p (blk_lt h.box)) (hb.block r (blk_lt h.row)) (fun g hg => hb.block g (h.all.lt g hg).2)
theorem WK.bad (h : WK w0 w p r N lo st av) : WK w0 (w.setCell ⟨p, 2, none⟩ (.bool true)) p r N lo st.bad av :=
 ⟨by rw [heap_setCell_same _ _ _ _ _ _ h.box]; rfl, (heap_set_ne _ p 2 r _ (fun e => h.pr e.symm)).trans h.row, h.len, h.all.keep (fun g hg => heap_set_ne _ p 2 g _ (h.ne g hg).1), h.ne, h.pr⟩
theorem WK.deeper (h : WK w0 w p r N lo st av) (d : Int) : WK w0 (w.setCell ⟨p, 1, none⟩ (.int .i64 d)) p r N lo { st with deep := d } av :=
 ⟨by rw [heap_setCell_same _ _ _ _ _ _ h.box]; rfl, (heap_set_ne _ p 1 r _ (fun e => h.pr e.symm)).trans h.row, h.len, h.all.keep (fun g hg => heap_set_ne _ p 1 g _ (h.ne g hg).1), h.ne, h.pr⟩
theorem WK.see (h : WK w0 w p r N lo st av) (k : Nat) : WK w0 (w.setCell ⟨r, k, none⟩ (.bool true)) p r N lo ⟨st.seen.set k true, st.deep, st.wrong, st.all⟩ av := by
 refine ⟨(heap_set_ne _ r k p _ h.pr).trans h.box, ?_, by simpa using h.len, h.all.keep (fun g hg => heap_set_ne _ r k g _ (h.ne g hg).2), h.ne, h.pr⟩
 rw [heap_setCell_same _ _ _ _ _ _ h.row]
 simp [List.map_set]
theorem WK.push {w1 : World} {av' : Value} {fs : List En} (h : WK w0 w p r N lo st av) (g : w.grownBy w1 av.ownBlock) (o : AllR w0 w1 lo av' (st.all ++ fs)) (hn : av'.ownBlock = av.ownBlock ∨ av'.ownBlock = some w.heap.size) : WK w0 (w1.setCell ⟨p, 3, none⟩ av') p r N lo { st with all := st.all ++ fs } av' := by
 have hp := blk_lt h.box
 have hr := blk_lt h.row
 have ne' : ∀ b, av'.ownBlock = some b → b ≠ p ∧ b ≠ r := fun b hb => by
  rcases hn with q | q
  · exact h.ne b (q ▸ hb)
  · rw [q] at hb
    have := Option.some.inj hb
    omega
 have b1 : w1.heap[p]? = some (.cells #[.slice (some ⟨r, 0, none⟩) N N, .int .i64 st.deep, .bool st.wrong, av] 104) := (g.block p hp (fun e => (h.ne p e.symm).1 rfl)).trans h.box
 have r1 := (g.block r hr (fun e => (h.ne r e.symm).2 rfl)).trans h.row
 exact ⟨by rw [heap_setCell_same _ _ _ _ _ _ b1]; rfl, (heap_set_ne _ p 3 r _ (fun e => h.pr e.symm)).trans r1, h.len, o.keep (fun g hg => heap_set_ne _ p 3 g _ (ne' g hg).1), ne', h.pr⟩
theorem WK.seen_at (h : WK w0 w p r N lo st av) {k : Nat} (hk : k < N) : w.cell? ⟨r, k, none⟩ = some (.bool (st.seen.getD k true)) := by
 have hk' : k < st.seen.length := by rw [h.len]; exact hk
 rw [cell_of_row _ _ _ _ _ _ h.row]
 simp [hk', List.getD]
end
def SlE (w0 w : World) : Option En → Value → Prop
 | none, v => v = .slice none 0 0
 | some e, v => ∃ b c a cc, v = .slice (some ⟨b, 0, none⟩) 1 c ∧ Box5 w b 0 e.K e.N e.F (.slice a e.Z.length cc) e.id ∧ Reads w0 a e.Z.length e.Z ∧ e.F < 18446744073709551616 ∧ e.Z.length ≤ 2097152
theorem SlE.keep {w0 w w' : World} : ∀ {o : Option En} {v : Value}, SlE w0 w o v → (∀ b, v.ownBlock = some b → w'.heap[b]? = w.heap[b]?) → SlE w0 w' o v
 | none, _, h, _ => h
 | some e, v, ⟨b, c, a, cc, h1, h2, h3⟩, hb => by
  subst h1
  exact ⟨b, c, a, cc, rfl, h2.agree (hb b rfl), h3⟩
theorem SlE.lt {w0 w : World} : ∀ {o : Option En} {v : Value}, SlE w0 w o v → ∀ b, v.ownBlock = some b → b < w.heap.size
 | none, _, h, b, hb => by rw [show _ = Value.slice none 0 0 from h] at hb; cases hb
 | some e, v, ⟨b', c, a, cc, h1, h2, _⟩, b, hb => by
  subst h1
  obtain rfl : b' = b := Option.some.inj hb
  exact h2.lt
def Side (p r : Nat) (av v : Value) : Prop := ∀ b, v.ownBlock = some b → b ≠ p ∧ b ≠ r ∧ av.ownBlock ≠ some b
theorem Side.step {p r : Nat} {w w1 : World} {av av1 v : Value} (h : Side p r av v) (k : Step p r w av w1 av1) (hl : ∀ b, v.ownBlock = some b → b < w.heap.size) : Side p r av1 v := fun b hb => by
 obtain ⟨h1, h2, h3⟩ := h b hb
 refine ⟨h1, h2, fun e => ?_⟩
 rcases k.own with q | q
 · exact h3 (q ▸ e)
 · have := q b e; have := hl b hb; omega
theorem SlE.step {w0 w w1 : World} {p r : Nat} {av av1 : Value} {o : Option En} {v : Value} (h : SlE w0 w o v) (hs : Side p r av v) (k : Step p r w av w1 av1) : SlE w0 w1 o v :=
 h.keep (fun b hb => k.block (h.lt b hb) (hs b hb).1 (hs b hb).2.1 (hs b hb).2.2)
end Go.Proofs.Ytphmlndkjgldkaa
