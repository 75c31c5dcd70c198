/- Texts of this proof in one: Uo11 Up11 Uq11. -/
import Derived.Test.YtlkoghdajpbffaaGreatMgx
import Derived.Test.YtlkoghdajpbffaaGreatMgu
/- A node of the table is split; a new root. Conditions: at most a thousand nodes. -/

namespace Go.Proofs.YtlkoghdajpbffaaGreat
open Go.RowKit
set_option maxRecDepth 100000
def RowAt (W : World) (q : Nat) (gp : Value) (b : Nat) : Prop := ∃ nv, W.heap[q]? = some (.cells #[nv, gp] 77) ∧ nv.ownBlock = some b
theorem linked_inj {W : World} {q : Nat} {nv nv' gp : Value} {t t' : TypeId} {fz fz' : Nat × Nat} (h : W.heap[q]? = some (.cells #[nv, gp] t fz)) (h' : W.heap[q]? = some (.cells #[nv', gp] t' fz')) : nv = nv' := by
 rw [h] at h'
 simp only [Option.some.injEq, Obj.cells.injEq] at h'
 have h9 := h'.1
 simp at h9
 exact h9
theorem Row.slice {W : World} {v : Value} {Z : List Int} (h : Row W v Z) : ∃ a n c, v = .slice a n c := by
 obtain ⟨a, c, rfl, _⟩ := h
 exact ⟨_, _, _, rfl⟩
theorem Pt.kids {W : World} {b off n k c c1 c2 : Nat} {L : List Value} (h : Pt W 1 (some ⟨b, off, none⟩) n c L) (hk : k ≤ n) : Pt W 1 (some ⟨b, off, none⟩) k c1 (L.take k) ∧ Pt W 1 (some ⟨b, off + k, none⟩) (n - k) c2 (L.drop k) := by
 have hl := h.1
 have := Pt.split (k := k) (A := L.take k) (B := L.drop k) (c1 := c1) (c2 := c2) (by rw [List.take_append_drop]; exact h) (by rw [List.length_take]; omega)
 rwa [Nat.mul_one] at this
theorem Lies.ents {A : Nat → Prop} {W0 W : World} {b off n k c c1 c2 : Nat} {es : List En} {xs : List Value} (h : Lies A W0 W 5 48 (some ⟨b, off, none⟩) n c (cellsE es xs)) (hx : xs.length = es.length) (hk : k ≤ es.length) : Lies A W0 W 5 48 (some ⟨b, off, none⟩) k c1 (cellsE (es.take k) (xs.take k)) ∧ Lies A W0 W 5 48 (some ⟨b, off + k * 5, none⟩) (n - k) c2 (cellsE (es.drop k) (xs.drop k)) := by
 rw [cellsE_split es xs k hx] at h
 exact h.split (by rw [cellsE_len _ _ (by rw [List.length_take, List.length_take, hx]), List.length_take]; omega)
section
variable {A : Nat → Prop} {W0 W : World} {q : Nat} {gp : Value} {gs : List Nat} {ns : List Nd}
theorem map_more {gs : List Nat} (g : Nat) {ks : List Int} (h : ∀ k ∈ ks, 0 ≤ k ∧ k.toNat < gs.length) : ks.map (ptrG (gs ++ [g])) = ks.map (ptrG gs) := List.map_congr_left (fun k hk => by
 unfold ptrG
 rw [List.getD_eq_getElem?_getD, List.getElem?_append_left (h k hk).2, ← List.getD_eq_getElem?_getD])
theorem at_old {gs : List Nat} (g i : Nat) (h : i < gs.length) : (gs ++ [g]).getD i 0 = gs.getD i 0 := by rw [List.getD_eq_getElem?_getD, List.getElem?_append_left h, ← List.getD_eq_getElem?_getD]
theorem at_new {gs : List Nat} (g i : Nat) (h : i = gs.length) : (gs ++ [g]).getD i 0 = g := by subst h; simp
structure SplT (A : Nat → Prop) (W0 W w' : World) (q : Nat) (gp : Value) (gs : List Nat) (ns : List Nd) (x : Nat) (d : Nd) (e : Ending) : Prop where
 ex : ∃ gn ax nx cx, e = .returned (.tuple #[.agg #[.int .i64 (upN d).K, .int .i64 (upN d).N, .float .f64 (upN d).F, .slice ax nx cx, .int .i64 (upN d).id], .pointer (some ⟨gn, 0, none⟩)]) ∧ Row W0 (.slice ax nx cx) (upN d).Z ∧ Tab A W0 w' q gp (gs ++ [gn]) (ns.set x (lowN d) ++ [moreN d])
 fl : (upN d).F < 18446744073709551616
 sm : (upN d).Z.length ≤ 2097152
 kept : Kept (fun b => b = q ∨ b = gs.getD x 0 ∨ RowAt W q gp b) W w'
 rows : ∀ b, RowAt w' q gp b → RowAt W q gp b ∨ W.heap.size ≤ b
set_option maxHeartbeats 3200000 in
theorem split_tab (h : Tab A W0 W q gp gs ns) {x : Nat} (hx : x < ns.length) {d : Nd} (hd : ns.getD x nd0 = d) (h5 : d.es.length = 5) (hk6 : d.leaf = false → d.ks.length = 6) (hk0 : d.leaf = true → d.ks.length = 0) (hN : ns.length ≤ 1000) :
 Calls Tryz.prog 59 #[.pointer (some ⟨q, 0, none⟩), .pointer (some ⟨gs.getD x 0, 0, none⟩)] W fun e w' => SplT A W0 W w' q gp gs ns x d e := by
 obtain ⟨nv, lo, e1, e2, e3, e4⟩ := h.ex
 have hNx := e4 x hx
 rw [hd] at hNx
 have hgl := h.len
 obtain ⟨⟨a, c, ka, kc, xs, f1, f2, f3, f4, f5, f6⟩, cl⟩ := hNx
 rw [h5] at f1 f2 f4
 have p := f4.pt h.bel
 obtain ⟨b, off, rfl⟩ : ∃ b off, a = some ⟨b, off, none⟩ := by
  rcases f3 with rfl | f3
  · exact absurd (p.2.2 rfl) (by omega)
  · exact f3
 obtain ⟨ax, nx, cx, hxv⟩ := (f5.row 2 (by omega)).slice
 have c5 : ∀ j, j < 5 → ∀ u, (cellsE1 (d.es.getD 2 en0) (xs.getD 2 nilS))[j]? = some u → W.cell? ⟨b, off + 10 + j, none⟩ = some u := fun j hj u hu => by
  rcases p.2.1 with ⟨q', _⟩ | ⟨p', q', hc⟩
  · cases q'
  · cases q'
    have := hc (2 * 5 + j) u ((cellsE_at d.es xs 2 j f5.len (by omega) hj).trans hu)
    rw [Addr.add_lit] at this
    rw [show off + 10 + j = off + (2 * 5 + j) by omega]
    exact this
 rw [hxv] at c5
 have y0 := c5 0 (by omega) _ rfl
 have y1 := c5 1 (by omega) _ rfl
 have y2 := c5 2 (by omega) _ rfl
 have y3 := c5 3 (by omega) _ rfl
 have y4 := c5 4 (by omega) _ rfl
 have up : d.es.getD 2 en0 = upN d := rfl
 rw [up] at y0 y1 y2 y4
 have rowU : Row W0 (.slice ax nx cx) (upN d).Z := by have := f5.row 2 (by omega); rw [hxv] at this; exact this
 have tE : ∀ {b : Nat} {cs : Array Value} {fz : Nat × Nat}, W.heap[b]? = some (.cells cs 48 fz) → ¬ (b = q ∨ nv.ownBlock = some b ∨ b = gs.getD x 0) := fun hh e => by
  rcases e with e | e | e
  · exact type_ne hh e1 (by decide) e
  · exact owns_block_ne e2 hh (by decide) e
  · exact type_ne hh f1 (by decide) e
 have hkept : ∀ {w' : World}, Kept (fun b => b = q ∨ nv.ownBlock = some b ∨ b = gs.getD x 0) W w' → Kept (fun b => b = q ∨ b = gs.getD x 0 ∨ RowAt W q gp b) W w' := fun k => k.mono (fun i _ e => by
  rcases e with e | e | e
  · exact .inl e
  · exact .inr (.inr ⟨nv, e1, e⟩)
  · exact .inr (.inl e))
 have hrows : ∀ {w' : World} {nv' : Value}, w'.heap[q]? = some (.cells #[nv', gp] 77) → (nv'.ownBlock = nv.ownBlock ∨ ∀ b, nv'.ownBlock = some b → W.heap.size ≤ b) → ∀ b, RowAt w' q gp b → RowAt W q gp b ∨ W.heap.size ≤ b := fun g1 g3 b hb => by
  obtain ⟨nv2, b1, b2⟩ := hb
  obtain rfl := linked_inj g1 b1
  rcases g3 with g3 | g3
  · exact .inl ⟨nv, e1, g3 ▸ b2⟩
  · exact .inr (g3 b b2)
 cases hl : d.leaf with
 | true =>
  have k0 := hk0 hl
  rw [hl, k0] at f1
  refine (impl_split_leaf e1 e2 hN e3 f1 rfl f2 ⟨y0, y1, y2, y3, y4⟩).mono ?_
  rintro r w' ⟨gn, rfl, hs⟩
  obtain ⟨s1, ⟨nv', s2, s3, s4⟩, s5, s6, s7⟩ := hs
  refine ⟨⟨gn, ax, nx, cx, rfl, rowU, ?_⟩, f5.fl 2, f5.sm 2, hkept s7, hrows s2 s4⟩
  obtain ⟨z1, z2⟩ := (f4.kept s7 (fun _ _ _ hh _ => tE hh)).ents (k := 2) (c1 := c) (c2 := c - 2) f5.len (by omega)
  refine h.grow e1 e3 s2 s3 s4 s1 (s7.mono (fun i _ e => e.elim .inl (fun e => e.elim (fun e => .inr (.inl e)) (fun e => .inr (.inr ⟨hx, e⟩))))) (fun _ => ?_) ?_
  · refine ⟨⟨some ⟨b, off, none⟩, c, ka, kc, xs.take 2, ?_, ?_, .inr ⟨_, _, rfl⟩, ?_, f5.take 2, fun hlf => ?_⟩, fun k hk => ?_⟩
    · rw [at_old _ _ (by omega), s6]
      unfold lowN
      simp [hl, k0, h5]
    · unfold lowN; simp only [List.length_take, h5]; omega
    · unfold lowN; simp only [List.length_take, h5]; exact z1
    · unfold lowN at hlf; simp only [hl] at hlf; cases hlf
    · unfold lowN at hk
      simp only [hl, if_true] at hk
      rw [List.eq_nil_of_length_eq_zero k0] at hk
      cases hk
  · refine ⟨⟨some ⟨b, off + 10, none⟩, c - 2, none, 0, xs.drop 2, ?_, ?_, .inr ⟨_, _, rfl⟩, ?_, ?_, fun hlf => ?_⟩, fun k hk => ?_⟩
    · rw [at_new _ _ (by omega), s5]
      unfold moreN
      simp [hl, h5]
    · unfold moreN; simp only [hl, if_true, List.length_drop, h5]; omega
    · unfold moreN; simp only [hl, if_true, List.length_drop, h5]; exact z2
    · unfold moreN; simp only [hl, if_true]; exact f5.drop 2
    · unfold moreN at hlf; simp [hl] at hlf
    · unfold moreN at hk; simp [hl] at hk
 | false =>
  have k6 := hk6 hl
  obtain ⟨kb, ko, cs, fz, rfl, k2, k3, k4, k5⟩ := f6 hl
  rw [hl, k6] at f1
  rw [k6] at k2 k3
  refine (impl_split_inner e1 e2 hN e3 f1 rfl f2 rfl rfl k2 ⟨y0, y1, y2, y3, y4⟩).mono ?_
  rintro r w' ⟨gn, rfl, hs⟩
  obtain ⟨s1, ⟨nv', s2, s3, s4⟩, s5, s6, s7⟩ := hs
  refine ⟨⟨gn, ax, nx, cx, rfl, rowU, ?_⟩, f5.fl 2, f5.sm 2, hkept s7, hrows s2 s4⟩
  have LE := f4.kept s7 (fun _ _ _ hh _ => tE hh)
  obtain ⟨z1, -⟩ := LE.ents (k := 2) (c1 := c) (c2 := c - 2) f5.len (by omega)
  obtain ⟨-, z2⟩ := LE.ents (k := 3) (c1 := c) (c2 := c - 3) f5.len (by omega)
  have hkb := s7.block kb (qL k5) (fun e => by
   rcases e with e | e | e
   · exact type_ne k5 e1 (by decide) e
   · exact k4.1 e
   · exact type_ne k5 f1 (by decide) e)
  obtain ⟨z3, z4⟩ := (k3.block hkb).kids (k := 3) (c1 := kc) (c2 := kc - 3) (by omega)
  have hnb : nv'.ownBlock ≠ some kb := fun e => by
   rcases s4 with s4 | s4
   · exact k4.1 (s4 ▸ e)
   · have := s4 kb e
     have := (qL k5)
     omega
  have el : (lowN d).ks = d.ks.take 3 := by unfold lowN; simp [hl]
  have em : (moreN d).ks = d.ks.drop 3 := by unfold moreN; simp [hl]
  refine h.grow e1 e3 s2 s3 s4 s1 (s7.mono (fun i _ e => e.elim .inl (fun e => e.elim (fun e => .inr (.inl e)) (fun e => .inr (.inr ⟨hx, e⟩))))) (fun _ => ?_) ?_
  · refine ⟨⟨some ⟨b, off, none⟩, c, some ⟨kb, ko, none⟩, kc, xs.take 2, ?_, ?_, .inr ⟨_, _, rfl⟩, ?_, f5.take 2, fun _ => ⟨kb, ko, cs, fz, rfl, ?_, ?_, ⟨hnb, k4.2⟩, hkb.trans k5⟩⟩, fun k hk => ?_⟩
    · rw [at_old _ _ (by omega), s6, el]
      unfold lowN
      simp [hl, k6, h5]
    · unfold lowN; simp only [List.length_take, h5]; omega
    · unfold lowN; simp only [List.length_take, h5]; exact z1
    · rw [el, List.length_take, k6]; omega
    · rw [el, List.length_take, k6, map_more gn (fun k hk => cl k (List.mem_of_mem_take hk)), List.map_take]; exact z3
    · rw [el] at hk
      have := cl k (List.mem_of_mem_take hk)
      exact ⟨this.1, by simp; omega⟩
  · refine ⟨⟨some ⟨b, off + 15, none⟩, c - 3, some ⟨kb, ko + 3, none⟩, kc - 3, xs.drop 3, ?_, ?_, .inr ⟨_, _, rfl⟩, ?_, ?_, fun _ => ⟨kb, ko + 3, cs, fz, rfl, ?_, ?_, ⟨hnb, k4.2⟩, hkb.trans k5⟩⟩, fun k hk => ?_⟩
    · rw [at_new _ _ (by omega), s5, em]
      unfold moreN
      simp [hl, k6, h5]
    · unfold moreN; simp only [hl, Bool.false_eq_true, if_false, List.length_drop, h5]; omega
    · unfold moreN; simp only [hl, Bool.false_eq_true, if_false, List.length_drop, h5]; exact z2
    · unfold moreN; simp only [hl, Bool.false_eq_true, if_false]; exact f5.drop 3
    · rw [em, List.length_drop, k6]; omega
    · rw [em, List.length_drop, k6, map_more gn (fun k hk => cl k (List.mem_of_mem_drop hk)), List.map_drop]; exact z4
    · rw [em] at hk
      have := cl k (List.mem_of_mem_drop hk)
      exact ⟨this.1, by simp; omega⟩
set_option maxHeartbeats 1600000 in
theorem root_tab (h : Tab A W0 W q gp gs ns) (hN : ns.length ≤ 1000) {e : En} {ax : Option Addr} {nx cx : Nat} (hr : Row W0 (.slice ax nx cx) e.Z) (hF : e.F < 18446744073709551616) (hZ : e.Z.length ≤ 2097152) {r k : Int} (hr0 : 0 ≤ r ∧ r.toNat < gs.length) (hk0 : 0 ≤ k ∧ k.toNat < gs.length) {eb kb : Nat}
 (he : W.heap[eb]? = some (.cells #[.int .i64 e.K, .int .i64 e.N, .float .f64 e.F, .slice ax nx cx, .int .i64 e.id] 48)) (hkb : W.heap[kb]? = some (.cells #[ptrG gs r, ptrG gs k] 70)) (hne : ¬ RowAt W q gp kb) (hAe : ¬ A eb) (hAk : ¬ A kb) {z : Int} :
 Calls Tryz.prog 60 #[.pointer (some ⟨q, 0, none⟩), .agg #[.int .i64 z, .bool false, .slice (some ⟨eb, 0, none⟩) 1 1, .slice (some ⟨kb, 0, none⟩) 2 2]] W fun e' w' => ∃ gn, e' = .returned (.pointer (some ⟨gn, 0, none⟩)) ∧ Tab A W0 w' q gp (gs ++ [gn]) (ns ++ [⟨false, [e], [r, k]⟩]) ∧ Kept (fun b => b = q ∨ RowAt W q gp b) W w' := by
 obtain ⟨nv, lo, e1, e2, e3, e4⟩ := h.ex
 have hgl := h.len
 have hne' : nv.ownBlock ≠ some kb := fun q' => hne ⟨nv, e1, q'⟩
 refine (impl_grow e1 e2 hN e3).mono ?_
 rintro e' w' ⟨rfl, ⟨nv', s2, s3, s4⟩, s5, s7⟩
 refine ⟨_, rfl, ?_, s7.mono (fun i _ e => e.elim .inl (fun e => .inr ⟨nv, e1, e⟩))⟩
 have heb := s7.block eb (qL he) (fun q' => by
  rcases q' with q' | q'
  · exact type_ne he e1 (by decide) q'
  · exact owns_block_ne e2 he (by decide) q')
 have hkb' := s7.block kb (qL hkb) (fun q' => by
  rcases q' with q' | q'
  · exact type_ne hkb e1 (by decide) q'
  · exact hne' q')
 have cellsAt : ∀ {bb : Nat} {L : List Value} {t : TypeId}, w'.heap[bb]? = some (.cells L.toArray t) → ∀ j u, L[j]? = some u → w'.cell? ((⟨bb, 0, none⟩ : Addr).add j) = some u := fun hh j u hu => by
  rw [Addr.add_lit, Nat.zero_add, cell_of_row _ _ _ _ _ _ hh]
  simpa using hu
 have hkk : Pt w' 1 (some ⟨kb, 0, none⟩) 2 2 [ptrG gs r, ptrG gs k] := ⟨rfl, .inr ⟨_, rfl, cellsAt (hkb'.trans hkb)⟩, fun q' => by cases q'⟩
 have hee : Pt w' 5 (some ⟨eb, 0, none⟩) 1 1 (cellsE [e] [.slice ax nx cx]) := ⟨rfl, .inr ⟨_, rfl, cellsAt (heb.trans he)⟩, fun q' => by cases q'⟩
 have key := h.grow (x := ns.length) (gn := W.heap.size) (dl := nd0) (dm := ⟨false, [e], [r, k]⟩) e1 e3 s2 s3 s4 qN (s7.mono (fun i _ e => e.elim .inl (fun e => .inr (.inl e)))) (fun q' => absurd q' (Nat.lt_irrefl _)) ?_
 · rwa [List.set_eq_of_length_le qN] at key
 · refine ⟨⟨some ⟨eb, 0, none⟩, 1, some ⟨kb, 0, none⟩, 2, [.slice ax nx cx], ?_, ⟨Nat.le_refl _, by unfold maxLen; omega⟩, .inr ⟨_, _, rfl⟩, .inr ⟨eb, 0, _, _, rfl, heb.trans he, hAe, hee⟩, ⟨rfl, fun j hj => ?_, fun j => ?_, fun j => ?_⟩, fun _ => ⟨kb, 0, _, _, rfl, ⟨Nat.le_refl _, by unfold maxLen; simp⟩, ?_, ⟨fun q' => ?_, hAk⟩, hkb'.trans hkb⟩⟩, fun k' hk' => ?_⟩
   · rw [at_new _ _ (by omega)]; exact s5
   · obtain rfl : j = 0 := by simp at hj; omega
     exact hr
   · cases j with
     | zero => exact hF
     | succ j => simp [en0]
   · cases j with
     | zero => exact hZ
     | succ j => simp [en0]
   · rw [map_more (gs := gs) _ (fun k' hk' => by
      simp only [List.mem_cons, List.not_mem_nil, or_false] at hk'
      rcases hk' with rfl | rfl
      · exact hr0
      · exact hk0)]
     exact hkk
   · rcases s4 with s4 | s4
     · exact hne' (s4 ▸ q')
     · have := s4 kb q'
       have := (qL hkb)
       omega
   · simp only [List.mem_cons, List.not_mem_nil, or_false] at hk'
     rcases hk' with rfl | rfl
     · exact ⟨hr0.1, by simp; omega⟩
     · exact ⟨hk0.1, by simp; omega⟩
theorem Tab.root (h : Tab A W0 W q gp gs ns) (gp' : Value) : Tab A W0 (W.setCell ⟨q, 1, none⟩ gp') q gp' gs ns := by
 obtain ⟨nv, lo, e1, e2, e3, e4⟩ := h.ex
 have k : Kept (fun b => b = q) W (W.setCell ⟨q, 1, none⟩ gp') := Kept.set (X := fun b => b = q) W (p := ⟨q, 1, none⟩) rfl gp'
 have hq : (W.setCell ⟨q, 1, none⟩ gp').heap[q]? = some (.cells #[nv, gp'] 77) := heap_setCell_same _ _ _ _ _ _ e1
 refine ⟨h.bel.trans (k.below h.bel.size (fun b hb e => by have := h.qlo; omega)), h.len, ⟨nv, lo, hq, owns_other e2 e1 (by decide) _, Nat.le_trans e3 k.size, fun i hi => ?_⟩, h.qlo, fun nv' cs fz e b eb => ?_, h.low⟩
 · obtain ⟨l, y, z, ex⟩ := (e4 i hi).num
   exact (e4 i hi).kept k (type_ne ex e1 (by decide)) (fun b cs fz hh _ => type_ne hh e1 (by decide)) (fun b cs fz hh _ _ => type_ne hh e1 (by decide)) (.inl rfl)
 · obtain rfl := linked_inj hq e
   exact h.nlo _ _ _ e1 b eb
end
end Go.Proofs.YtlkoghdajpbffaaGreat
/- The library's Backward over steps of a way. Conditions: at most a thousand steps. -/


namespace Go.Proofs.YtlkoghdajpbffaaGreat
open Go.RowKit Go.Shelf
attribute [local go_sem] Oper.semAt_some
set_option maxRecDepth 100000
theorem back_make (a : Option Addr) (n c : Nat) (w : World) :
 Calls Tryz.prog 57 #[.slice a n c] w fun e w' => e = .returned (.func (.func 87) #[] #[.pointer (some ⟨w.heap.size, 0, none⟩)]) ∧ w' = w.alloc (.cells #[.slice a n c] 68) := by
 go_enter Tryz.func57, Tryz.ntmps57
 go_wp2
 go_ret
 exact ⟨rfl, rfl⟩
def backV (n : Nat) (pv : Nat → Value) (iv : Nat → Int) (j : Nat) : Array Value := #[.int .i64 ((n - 1 - j : Nat) : Int), .agg #[pv (n - 1 - j), .int .i64 (iv (n - 1 - j))]]
set_option maxHeartbeats 6400000 in
theorem back_iter (m : Nat) (hm : 1 ≤ m) (l Bs : Nat) {gg n c : Nat} (hn : n ≤ 1000) (pv : Nat → Value) (iv : Nat → Int) (J : Nat → World → Prop) (Jx : World → Prop)
 (hG : ∀ j W, J j W → W.cell? ⟨Bs, 0, none⟩ = some (.slice (some ⟨gg, 0, none⟩) n c) ∧ ∀ i, i < n → W.cell? ⟨gg, i * 2, none⟩ = some (pv i) ∧ W.cell? ⟨gg, i * 2 + 1, none⟩ = some (.int .i64 (iv i)))
 (hY : ∀ j W1, J j W1 → j < n → YieldAt Fence.wide (m - 1) Tryz.prog l (backV n pv iv j) W1 fun e W' => (e = .returned (.bool true) ∧ J (j + 1) W') ∨ (e = .returned (.bool false) ∧ Jx W'))
 {W : World} (h0 : J 0 W) :
 CallsIn Fence.wide m Tryz.prog 87 (#[.func (.yield l) #[] #[]] ++ #[.pointer (some ⟨Bs, 0, none⟩)]) W fun e W' => (∃ v, e = .returned v) ∧ (J n W' ∨ Jx W') := by
 have HY := hid hY
 have HG := hid hG
 have H0 := hid h0
 have hbx := (hG _ _ h0).1
 clear hG hY h0
 refine callsIn_of_wp Tryz.func87 rfl trivial ?_ rfl
 simp only [Tryz.ntmps87, List.size_toArray, List.length_cons, List.length_nil, Nat.reduceAdd, Nat.reduceSub, Array.replicate_succ, Array.replicate_zero, List.push_toArray, List.append_toArray, List.nil_append, List.cons_append]
 gi_wp2
 clear hbx
 gi_loopw [3] (fun i wr => ∃ k : Nat, k ≤ n ∧ i = .int .i64 ((k : Int) - 1) ∧ Hid (J (n - k) wr)) (fun i _ => (intOf i + 1).toNat)
 case atStart => exact ⟨n, Nat.le_refl _, rfl, hid (by rw [Nat.sub_self]; exact H0.out)⟩
 case round =>
  obtain ⟨k, hk, rfl, HJ⟩ := hrel
  cases k with
  | zero =>
   gi_wp2
   go_end0
   exact ⟨⟨_, rfl⟩, .inl (by have := HJ.out; rwa [Nat.sub_zero] at this)⟩
  | succ K =>
   have hK0 : (0 : Int) ≤ (K : Int) := by omega
   have hKn : (K : Int) < (n : Int) := by omega
   rw [show ((K + 1 : Nat) : Int) - 1 = (K : Int) by omega]
   obtain ⟨g1, g2⟩ := HG.out _ _ HJ.out
   obtain ⟨c0, c1⟩ := g2 K (by omega)
   obtain ⟨fn, tmps, assign, body, hy, hR⟩ := HY.out _ _ HJ.out (by omega)
   unfold backV at hy
   rw [show n - 1 - (n - (K + 1)) = K by omega] at hy
   have HR := hid hR
   clear hR g2
   gi_wp2
   refine HR.out.mono ?_
   rintro e W3 (⟨rfl, hJ3⟩ | ⟨rfl, hJ3⟩)
   · have HJ3 := hid hJ3
     clear hJ3 hy c0 c1 g1
     gi_wp2
     go_roundw
     case rel => exact ⟨K, by omega, by go_num, hid (by have := HJ3.out; rwa [show n - (K + 1) + 1 = n - K by omega] at this)⟩
     case measure => simp [intOf]
   · gi_wp2
     refine bodyPost_ret (results_none rfl _ _ _) rfl ?_
     exact ⟨⟨_, rfl⟩, .inr hJ3⟩
end Go.Proofs.YtlkoghdajpbffaaGreat
/- What holds while an entry goes up its way. No statement of its own; no conditions. -/

namespace Go.Proofs.YtlkoghdajpbffaaGreat
open Go.RowKit Go.Shelf
set_option maxRecDepth 100000
section
variable {F : Fence} {n : Nat} {P : Program} {ops : Array Oper} {rest : List Oper} {o : Oper} {a : Act} {w : World} {Q : Exit → Act → World → Prop}
theorem wpListIn_load_row11 (hgd : o.guard = none) (ty : TypeId) (x : Operand) (ho : o.op = .load ty x)
 (g : Nat) (hx : a.eval x = .pointer (some ⟨g, 0, none⟩)) (t : TypeId) (cs : Array Value) (fr : Nat × Nat) (d : TypeDesc) (hg : w.heap[g]? = some (.cells cs t fr))
 (hu : P.underlying ty = some d) (hd : (match d with | .struct _ | .array _ _ => true | _ => false) = true) (hi : (P.info? ty).map (·.size) = some cs.size)
 (h : wpListIn F n P ops Q rest (a.put o.dst (.agg cs)) w) : wpListIn F n P ops Q (o :: rest) a w := by
 refine wpListIn_plain hgd fun K hK' => ?_
 unfold Oper.wpIn
 refine ⟨by simp [Oper.about, ho], ?_⟩
 rw [Oper.semAt_plain F _ _ (by rw [ho]; intro c hc'; cases hc')]
 unfold execOp
 simp only [ho, hx, Instr.loadAt, Instr.sureAddr, Sem.run_bind, Sem.run_pure, Result.andThen_ok, run_loadVar_row w g t ty cs fr d hg hu hd hi]
 exact hK' _ _ h
theorem wpListIn_store_row11 (hgd : o.guard = none) (ty : TypeId) (x y : Operand) (ho : o.op = .store ty x y)
 (g : Nat) (cells : Array Value) (hx : a.eval x = .pointer (some ⟨g, 0, none⟩)) (hy : a.eval y = .agg cells)
 (t : TypeId) (old : Array Value) (hg : w.heap[g]? = some (.cells old t (0, 0))) (hi : (P.info? ty).map (·.size) = some cells.size)
 (hold : old.size = cells.size) (h1 : cells.all (·.oneCell') = true)
 (h : wpListIn F n P ops Q rest (a.put o.dst undef) (w.setRow g cells)) : wpListIn F n P ops Q (o :: rest) a w := by
 refine wpListIn_plain hgd fun K hK' => ?_
 unfold Oper.wpIn
 refine ⟨by simp [Oper.about, ho], ?_⟩
 rw [Oper.semAt_plain F _ _ (by rw [ho]; intro c hc'; cases hc')]
 unfold execOp
 simp only [ho, hx, hy, Instr.storeAt, Instr.sureAddr, Sem.run_bind, Sem.run_pure, Result.andThen_ok, run_storeVar_row w g t ty old cells hg hi hold h1]
 exact hK' _ _ h
end
def KX (W : World) (b : Nat) : Prop := ∃ cs t fz, W.heap[b]? = some (.cells cs t fz) ∧ (t = 77 ∨ t = 112 ∨ t = 70)
def KT (WB W : World) : Prop := Kept (KX WB) WB W
theorem KT.step {WB W W' : World} {Y : Nat → Prop} (h : KT WB W) (k : Kept Y W W') (hY : ∀ b, b < WB.heap.size → Y b → KX W b) : KT WB W' := by
 refine ⟨k.os.trans h.os, k.tape.trans h.tape, k.output.trans h.output, Nat.le_trans h.size k.size, fun b hb hx => ?_⟩
 have e := h.block b hb hx
 refine (k.block b (Nat.lt_of_lt_of_le hb h.size) (fun y => hx ?_)).trans e
 obtain ⟨cs, t, fz, e1, e2⟩ := hY b hb y
 exact ⟨cs, t, fz, e.symm.trans e1, e2⟩
theorem KT.own {WB W W' : World} {Y : Nat → Prop} (h : KT WB W) (k : Kept Y W W') (hY : ∀ b, Y b → WB.heap.size ≤ b) : KT WB W' := h.step k (fun b hb y => by have := hY b y; omega)
theorem KT.cells {WB W : World} (h : KT WB W) {b : Nat} {cs : Array Value} {t : TypeId} {fz : Nat × Nat} (hb : WB.heap[b]? = some (.cells cs t fz)) (ht : t ≠ 77 ∧ t ≠ 112 ∧ t ≠ 70) : W.heap[b]? = some (.cells cs t fz) := by
 refine (h.block b (qL hb) (fun ⟨cs', t', fz', e1, e2⟩ => ?_)).trans hb
 rw [hb] at e1
 simp only [Option.some.injEq, Obj.cells.injEq] at e1
 obtain ⟨_, rfl, _⟩ := e1
 rcases e2 with e2 | e2 | e2
 · exact ht.1 e2
 · exact ht.2.1 e2
 · exact ht.2.2 e2
def NoC (B : Nat) (W : World) (b : Nat) : Prop := ¬ ∃ o, W.heap[b]? = some o ∧ (o.isCells = true ∨ b < B)
theorem Calm.kept {B : Nat} {W W' : World} (c : Calm B W W') : Kept (NoC B W) W W' := ⟨c.os, c.tape, c.output, c.size, fun b hb hx => by
 have : ∃ o, W.heap[b]? = some o ∧ (o.isCells = true ∨ b < B) := Classical.not_not.1 hx
 obtain ⟨o, h1, h2⟩ := this
 exact (c.same b o h1 h2).trans h1.symm⟩
theorem NoC.cells {B : Nat} {W : World} {b : Nat} {cs : Array Value} {t : TypeId} {fz : Nat × Nat} (h : W.heap[b]? = some (.cells cs t fz)) : ¬ NoC B W b := fun q => q ⟨_, h, .inl rfl⟩
theorem NoC.low {B : Nat} {W : World} {b : Nat} (h : b < B) (hB : B ≤ W.heap.size) : ¬ NoC B W b := fun q => q ⟨_, Array.getElem?_eq_getElem (by omega), .inr h⟩
theorem Tab.calm {A : Nat → Prop} {W0 W W' : World} {q : Nat} {gp : Value} {gs : List Nat} {ns : List Nd} {B : Nat} (h : Tab A W0 W q gp gs ns) (c : Calm B W W') (h0 : W0.heap.size ≤ B) (hB : B ≤ W.heap.size) : Tab A W0 W' q gp gs ns := by
 obtain ⟨nv, lo, e1, e2, _⟩ := h.ex
 refine h.kept c.kept (fun b cs t fz e _ => NoC.cells e) (fun nv' b e eb => ?_) (fun b hb => NoC.low (by omega) hB)
 obtain rfl := linked_inj e1 e
 rcases e2.2 with ⟨hh, _⟩ | ⟨g, cap, cur, r1, r2, r3, r4⟩
 · rw [hh] at eb; cases eb
 · rw [r1] at eb
   cases eb
   exact NoC.cells r3
theorem KT.calm {WB W W' : World} {B : Nat} (h : KT WB W) (c : Calm B W W') (h0 : WB.heap.size ≤ B) (hB : B ≤ W.heap.size) : KT WB W' := h.step c.kept (fun b hb y => absurd y (NoC.low (by omega) hB))
theorem RowAt.calm {W W' : World} {q : Nat} {gp : Value} {b B : Nat} {cs : Array Value} {t : TypeId} {fz : Nat × Nat} (h : RowAt W' q gp b) (c : Calm B W W') (hq : W.heap[q]? = some (.cells cs t fz)) : RowAt W q gp b := by
 obtain ⟨nv, e1, e2⟩ := h
 rw [c.cells hq] at e1
 exact ⟨nv, by rw [hq]; exact e1, e2⟩
def AvB (WB : World) (b : Nat) : Prop := WB.heap.size ≤ b ∧ b < WB.heap.size + 4
theorem Tab.below {A : Nat → Prop} {W0 W W' : World} {q : Nat} {gp : Value} {gs : List Nat} {ns : List Nd} (h : Tab A W0 W q gp gs ns) (b : Below W.heap.size W W') : Tab A W0 W' q gp gs ns := h.kept (X := fun _ => False) (Kept.of_below b) (fun _ _ _ _ _ _ h => h) (fun _ _ _ _ h => h) (fun _ _ h => h)
structure AdI (W0 WB : World) (q : Nat) (gp : Value) (gs : List Nat) (ns : List Nd) (e : En) (R : List (Int × Nat)) (gg m c : Nat) (j : Nat) (W : World) : Prop where
 ex : ∃ (gs1 : List Nat) (ns1 : List Nd) (up : En) (k : Int) (ax : Option Addr) (nx cx : Nat) (kv : Value), upS (R.take j) ns e 0 = (ns1, some (up, k)) ∧ Tab (AvB WB) W0 W q gp gs1 ns1 ∧ (∀ i, i < ns.length → gs1.getD i 0 = gs.getD i 0) ∧
  W.heap[WB.heap.size + 1]? = some (.cells #[.int .i64 up.K, .int .i64 up.N, .float .f64 up.F, .slice ax nx cx, .int .i64 up.id] 48) ∧ W.heap[WB.heap.size + 2]? = some (.cells #[kv] 70) ∧ (0 < j → kv = ptrG gs1 k ∧ 0 ≤ k ∧ k.toNat < gs1.length) ∧
  (Row W0 (.slice ax nx cx) up.Z ∧ up.F < 18446744073709551616 ∧ up.Z.length ≤ 2097152) ∧ UpI ns R j ns1
 b3 : W.heap[WB.heap.size]? = some (.cells #[.pointer (some ⟨q, 0, none⟩)] 64)
 b7 : W.heap[WB.heap.size + 3]? = some (.cells #[.slice (some ⟨gg, 0, none⟩) m c] 68)
 free : ∀ b, RowAt W q gp b → b ≠ WB.heap.size + 2
 kt : KT WB W
 lo : WB.heap.size + 4 ≤ W.heap.size
structure AdX (W0 WB : World) (q : Nat) (gp : Value) (gs : List Nat) (ns : List Nd) (e : En) (R : List (Int × Nat)) (W : World) : Prop where
 ex : ∃ (gs1 : List Nat) (ns1 : List Nd), upS R ns e 0 = (ns1, none) ∧ Tab (AvB WB) W0 W q gp gs1 ns1 ∧ (∀ i, i < ns.length → gs1.getD i 0 = gs.getD i 0) ∧ (∀ i, i < ns1.length → formOk (ns1.getD i nd0) = true) ∧ ns.length ≤ ns1.length
 kt : KT WB W
 lo : WB.heap.size + 4 ≤ W.heap.size
section
variable {W0 WB W W' : World} {q : Nat} {gp : Value} {gs : List Nat} {ns : List Nd} {e : En} {R : List (Int × Nat)} {gg m c j B : Nat}
theorem AdI.calm (h : AdI W0 WB q gp gs ns e R gg m c j W) (k : Calm B W W') (h0 : W0.heap.size ≤ WB.heap.size) (h1 : WB.heap.size ≤ B) (hB : B ≤ W.heap.size) : AdI W0 WB q gp gs ns e R gg m c j W' := by
 obtain ⟨⟨gs1, ns1, up, k1, ax, nx, cx, kv, e1, e2, e3, e4, e5, e6, e7, e8⟩, b3, b7, fr, kt, lo⟩ := h
 obtain ⟨nv, _, q1, _⟩ := e2.ex
 exact ⟨⟨gs1, ns1, up, k1, ax, nx, cx, kv, e1, e2.calm k (by omega) hB, e3, k.cells e4, k.cells e5, e6, e7, e8⟩, k.cells b3, k.cells b7, fun b hb => fr b (hb.calm k q1), kt.calm k h1 hB, Nat.le_trans lo k.size⟩
theorem AdX.calm (h : AdX W0 WB q gp gs ns e R W) (k : Calm B W W') (h0 : W0.heap.size ≤ WB.heap.size) (h1 : WB.heap.size ≤ B) (hB : B ≤ W.heap.size) : AdX W0 WB q gp gs ns e R W' := by
 obtain ⟨⟨gs1, ns1, e1, e2, e3⟩, kt, lo⟩ := h
 exact ⟨⟨gs1, ns1, e1, e2.calm k (by omega) hB, e3⟩, kt.calm k h1 hB, Nat.le_trans lo k.size⟩
end
end Go.Proofs.YtlkoghdajpbffaaGreat
