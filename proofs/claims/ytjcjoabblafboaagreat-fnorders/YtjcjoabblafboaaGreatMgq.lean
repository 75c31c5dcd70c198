/- Texts of this proof in one: Db14 Dc14 Dd14. -/
import Derived.Test.YtjcjoabblafboaaGreatDa14
import Derived.Test.YtjcjoabblafboaaGreatMgd
import Derived.Test.YtjcjoabblafboaaGreatMge
/- Rows of items and of spans that are drawn, and deeds: what stays, what grows, what they read as. No statement of its own; no conditions. -/



namespace Go.Proofs.YtjcjoabblafboaaGreat
open Go.RowKit
set_option maxRecDepth 100000
structure Rwm (u : World) (t : TypeId) (s lo hi : Nat) (v : Value) (m : Nat) (es : List Im) : Prop where
 own : ∃ xs : List Value, xs.length = es.length ∧ u.ownsRow lo t s v m (cellsI es xs) ∧ ∀ i, i < es.length → Dit u (es.getD i im0).K (es.getD i im0).N (es.getD i im0).F (xs.getD i nilS) (es.getD i im0).Z
 top : ∀ g, v.ownBlock = some g → g < hi
 len : es.length * 4 = m * s
section
variable {u u' : World} {t : TypeId} {s lo hi : Nat} {v : Value} {m : Nat} {es : List Im}
theorem Rwm.nil (u : World) (t : TypeId) (s lo hi : Nat) : Rwm u t s lo hi (.slice none 0 0) 0 [] :=
 ⟨⟨[], rfl, World.ownsRow_nil _ _ _ _, fun i hi => by simp at hi⟩, fun g hg => (by cases hg), (by simp)⟩
theorem Rwm.form (h : Rwm u t s lo hi v m es) : ∃ a c, v = .slice a m c ∧ (a = none → c = 0) := by
 obtain ⟨xs, _, o, _⟩ := h.own
 obtain ⟨a, c, rfl⟩ := own_sl o
 exact ⟨a, c, rfl, own_nil14 o⟩
theorem Rwm.lt (h : Rwm u t s lo hi v m es) {g : Nat} (e : v.ownBlock = some g) : lo ≤ g ∧ g < hi ∧ g < u.heap.size := by
 obtain ⟨xs, _, o, _⟩ := h.own
 exact ⟨(o.lt g e).1, h.top g e, (o.lt g e).2⟩
theorem Rwm.grown (h : Rwm u t s lo hi v m es) {row : Option Nat} (hg : u.grownBy u' row) (hr : ∀ k, row = some k → (∃ cs t fz, u.heap[k]? = some (.cells cs t fz) ∧ t ≠ 5) ∧ v.ownBlock ≠ some k) : Rwm u' t s lo hi v m es := by
 obtain ⟨xs, h1, o, h2⟩ := h.own
 refine ⟨⟨xs, h1, o.kept hg ?_, fun i hi => (h2 i hi).grown hg (fun k hk => (hr k hk).1)⟩, h.top, h.len⟩
 cases hv : v.ownBlock with
 | none => exact .inl rfl
 | some b => exact .inr (fun e => (hr b e.symm).2 hv)
theorem Rwm.mono {hi' : Nat} (h : Rwm u t s lo hi v m es) (hh : hi ≤ hi') : Rwm u t s lo hi' v m es := ⟨h.own, fun g e => Nat.lt_of_lt_of_le (h.top g e) hh, h.len⟩
theorem Rwm.push (h : Rwm u t s lo hi v m es) (ht : t ≠ 5) {v' : Value} {fs : List Im} {ys xs : List Value} (hxs : xs.length = es.length) (hd : ∀ i, i < es.length → Dit u (es.getD i im0).K (es.getD i im0).N (es.getD i im0).F (xs.getD i nilS) (es.getD i im0).Z) (o0 : u.ownsRow lo t s v m (cellsI es xs)) (hys : ys.length = fs.length) (hf : fs.length * 4 = s)
 (hn : ∀ i, i < fs.length → Dit u (fs.getD i im0).K (fs.getD i im0).N (fs.getD i im0).F (ys.getD i nilS) (fs.getD i im0).Z) (o : u'.ownsRow lo t s v' (m + 1) (cellsI es xs ++ cellsI fs ys)) (hg : u.grownBy u' v.ownBlock) : Rwm u' t s lo u'.heap.size v' (m + 1) (es ++ fs) := by
 have hty : ∀ k, v.ownBlock = some k → ∃ cs t fz, u.heap[k]? = some (.cells cs t fz) ∧ t ≠ 5 := fun k hk => by
  rcases o0.2 with ⟨e, _⟩ | ⟨g', cp, cu, e, _, hh, _⟩
  · rw [e] at hk; cases hk
  · rw [e] at hk
    have : g' = k := by simpa [Value.ownBlock] using hk
    subst this
    exact ⟨_, _, _, hh, ht⟩
 refine ⟨⟨xs ++ ys, by rw [List.length_append, List.length_append, hxs, hys], by rw [cellsI_app es fs xs ys hxs]; exact o, fun i hi => ?_⟩, fun g e => (o.lt g e).2, by rw [List.length_append, Nat.add_mul, h.len, hf, Nat.add_mul, Nat.one_mul]⟩
 by_cases hl : i < es.length
 · have e1 : (es ++ fs).getD i im0 = es.getD i im0 := by simp [List.getD, List.getElem?_append_left hl]
   have e2 : (xs ++ ys).getD i nilS = xs.getD i nilS := by simp [List.getD, List.getElem?_append_left (show i < xs.length by omega)]
   rw [e1, e2]
   exact (hd i hl).grown hg hty
 · rw [List.length_append] at hi
   have e1 : (es ++ fs).getD i im0 = fs.getD (i - es.length) im0 := by simp [List.getD, List.getElem?_append_right (Nat.le_of_not_lt hl)]
   have e2 : (xs ++ ys).getD i nilS = ys.getD (i - es.length) nilS := by simp [List.getD, List.getElem?_append_right (show xs.length ≤ i by omega), hxs]
   rw [e1, e2]
   exact (hn (i - es.length) (by omega)).grown hg hty
theorem Rwm.rd {a : Option Addr} {m' c : Nat} (h : Rwm u t s lo hi (.slice a m' c) m es) : ReadsM u a es := by
 obtain ⟨xs, h1, o, h2⟩ := h.own
 refine ⟨?_⟩
 by_cases h0 : es.length = 0
 · exact .inl h0
 · right
   rcases o.2 with ⟨e, hz⟩ | ⟨g, cap, cur, e, _⟩
   · have := h.len; subst hz; omega
   · cases e
     refine ⟨g, 0, rfl, fun i hi => ⟨xs.getD i nilS, ?_, ?_, (h2 i hi).f0⟩⟩
     · have hc := fun j (hj : j < 4) => (o.cellAt (i * 4 + j) (by have := h.len; omega)).trans (cellsI_at es xs i j h1 hi hj)
       refine ⟨?_, ?_, ?_, ?_⟩
       · have := hc 0 (by omega); rw [Nat.zero_add]; exact this
       · have := hc 1 (by omega); rw [Nat.zero_add]; exact this
       · have := hc 2 (by omega); rw [Nat.zero_add]; exact this
       · have := hc 3 (by omega); rw [Nat.zero_add]; exact this
     · exact (h2 i hi).ry.row
theorem Rwm.small (h : Rwm u t s lo hi v m es) (i : Nat) : (es.getD i im0).Z.length ≤ 10000 := by
 obtain ⟨xs, h1, o, h2⟩ := h.own
 by_cases hi : i < es.length
 · exact (h2 i hi).m0
 · simp [List.getD, List.getElem?_eq_none (Nat.le_of_not_lt hi), im0]
end
structure Dds (u : World) (base : Nat) (v : Value) (ts : List Tk) : Prop where
 own : ∃ ms : List Mt, ms.length = ts.length ∧ u.ownsRow base 68 5 v ts.length (cellsV ts ms) ∧ ∀ i, i < ts.length → ∃ lo hi, Rwm u 74 8 lo hi (ms.getD i mt0).y (ts.getD i tk0).rs.length (fl2 (ts.getD i tk0).rs) ∧ Rwm u 72 4 lo hi (ms.getD i mt0).z (ts.getD i tk0).ws.length (ts.getD i tk0).ws ∧ (ts.getD i tk0).rs.length ≤ 1000 ∧ (ts.getD i tk0).ws.length ≤ 1000
 bd : bdTs ts
theorem Dds.reads {u : World} {base : Nat} {a : Option Addr} {n c : Nat} {ts : List Tk} (h : Dds u base (.slice a n c) ts) : RdV u a ts ∧ ReadsV u a ts ∧ smT ts := by
 obtain ⟨ms, hm, o, hr⟩ := h.own
 have key : ∀ i, i < ts.length → ∃ b off a1 c1 a2 c2, a = some ⟨b, off, none⟩ ∧ Box5 u b (off + i * 5) (ts.getD i tk0) (.slice a1 (ts.getD i tk0).rs.length c1) (.slice a2 (ts.getD i tk0).ws.length c2) ∧ ReadsM u a1 (fl2 (ts.getD i tk0).rs) ∧ ReadsM u a2 (ts.getD i tk0).ws ∧ (a1 = none → c1 = 0) ∧ (a2 = none → c2 = 0) ∧ b = b ∧ off = 0 := fun i hi => by
  obtain ⟨lo, hi', r1, r2, _, _⟩ := hr i hi
  obtain ⟨a1, c1, e1, n1⟩ := r1.form
  obtain ⟨a2, c2, e2, n2⟩ := r2.form
  rw [e1] at r1
  rw [e2] at r2
  rcases o.2 with ⟨e, hz⟩ | ⟨g, cap, cur, e, _⟩
  · omega
  · cases e
    have hc := fun j (hj : j < 5) => (o.cellAt (i * 5 + j) (by omega)).trans (cellsV_at ts ms i j hm hi hj)
    refine ⟨g, 0, a1, c1, a2, c2, rfl, ⟨?_, ?_, ?_, ?_, ?_⟩, r1.rd, r2.rd, n1, n2, rfl, rfl⟩
    · have := hc 0 (by omega); rw [Nat.zero_add]; exact this
    · have := hc 1 (by omega); rw [Nat.zero_add]; exact this
    · have := hc 2 (by omega); rw [Nat.zero_add]; exact this
    · have := hc 3 (by omega); rw [Nat.zero_add, ← e1]; exact this
    · have := hc 4 (by omega); rw [Nat.zero_add, ← e2]; exact this
 refine ⟨fun k hk => ?_, ⟨?_⟩, fun i => ?_⟩
 · obtain ⟨b, off, a1, c1, a2, c2, e, q, r1, r2, n1, n2, _⟩ := key k hk
   exact ⟨b, off, a1, c1, a2, c2, e, q, r1, r2, n1, n2⟩
 · by_cases h0 : ts.length = 0
   · exact .inl h0
   · right
     obtain ⟨b, off, _, _, _, _, e, _, _, _, _, _, _, ho⟩ := key 0 (by omega)
     refine ⟨b, off, e, fun i hi => ?_⟩
     obtain ⟨b', off', a1, c1, a2, c2, e', q, r1, r2, _, _, _, ho'⟩ := key i hi
     obtain ⟨_, _, _, _, l1, l2⟩ := hr i hi
     have e3 : b' = b ∧ off' = off := by rw [e] at e'; cases e'; exact ⟨rfl, rfl⟩
     rw [e3.1, e3.2] at q
     exact ⟨a1, c1, a2, c2, ⟨q.c0, q.c1, q.c2, q.c3, q.c4⟩, r1, by unfold maxLen; omega, r2, by unfold maxLen; omega⟩
 · by_cases hi : i < ts.length
   · obtain ⟨_, _, r1, r2, _⟩ := hr i hi
     exact ⟨fun j => Nat.le_trans (r1.small j) (by omega), fun j => Nat.le_trans (r2.small j) (by omega)⟩
   · have e : ts.getD i tk0 = tk0 := by simp [List.getD, List.getElem?_eq_none (Nat.le_of_not_lt hi)]
     rw [e]
     exact ⟨fun j => by simp [tk0, fl2, im0], fun j => by simp [tk0, im0]⟩
end Go.Proofs.YtjcjoabblafboaaGreat
/- Deeds that are drawn one after the other: their rows lie apart. No statement of its own; no conditions. -/

namespace Go.Proofs.YtjcjoabblafboaaGreat
open Go.RowKit
set_option maxRecDepth 100000
theorem bdTs_snoc14 {ts : List Tk} {t : Tk} (h : bdTs ts) (ht : bdT1 t) : bdTs (ts ++ [t]) := by
 intro i
 rw [getD_app]
 split
 · exact h i
 · rcases getD_mem_or [t] (i - ts.length) tk0 with e | e
   · rw [e]; simp [bdT1, tk0]
   · rw [List.mem_singleton.1 e]; exact ht
theorem own_ty14 {w : World} {B k : Nat} {e t : TypeId} {s : Nat} {v : Value} {n : Nat} {xs cs : _} {fz : _} (o : w.ownsRow B e s v n xs) (hk : w.heap[k]? = some (.cells cs t fz)) (ht : t ≠ e) : v.ownBlock = none ∨ v.ownBlock ≠ some k := by
 rcases o.2 with ⟨rfl, _⟩ | ⟨g, cap, cur, rfl, _, hg, _⟩
 · exact .inl rfl
 · right
   intro he
   simp only [Value.ownBlock, Option.some.injEq] at he
   subst he
   rw [hg] at hk
   simp only [Option.some.injEq, Obj.cells.injEq] at hk
   exact ht hk.2.1.symm
structure Rw1 (u : World) (lo hi : Nat) (m : Mt) (t : Tk) : Prop where
 rd : Rwm u 74 8 lo hi m.y t.rs.length (fl2 t.rs)
 wr : Rwm u 72 4 lo hi m.z t.ws.length t.ws
 n1 : t.rs.length ≤ 900
 n2 : t.ws.length ≤ 900
theorem Rw1.grown {u u' : World} {lo hi : Nat} {m : Mt} {t : Tk} (h : Rw1 u lo hi m t) {row : Option Nat} (hg : u.grownBy u' row) (hr : ∀ k, row = some k → (∃ cs t fz, u.heap[k]? = some (.cells cs t fz) ∧ t ≠ 5) ∧ (k < lo ∨ hi ≤ k)) : Rw1 u' lo hi m t :=
 ⟨h.rd.grown hg (fun k hk => ⟨(hr k hk).1, fun e => by have := h.rd.lt e; have := (hr k hk).2; omega⟩), h.wr.grown hg (fun k hk => ⟨(hr k hk).1, fun e => by have := h.wr.lt e; have := (hr k hk).2; omega⟩), h.n1, h.n2⟩
structure DdA (u : World) (base hi : Nat) (v : Value) (ts : List Tk) : Prop where
 own : ∃ (ms : List Mt) (L H : Nat → Nat), ms.length = ts.length ∧ u.ownsRow base 68 5 v ts.length (cellsV ts ms) ∧ (∀ i, i < ts.length → Rw1 u (L i) (H i) (ms.getD i mt0) (ts.getD i tk0) ∧ base ≤ L i ∧ H i ≤ hi) ∧ ∀ i j, i < j → j < ts.length → H i ≤ L j
 top : ∀ g, v.ownBlock = some g → g < hi
 bd : bdTs ts
section
variable {u u' : World} {base hi : Nat} {v : Value} {ts : List Tk}
theorem DdA.nil (u : World) (base hi : Nat) : DdA u base hi (.slice none 0 0) [] :=
 ⟨⟨[], fun _ => 0, fun _ => 0, rfl, World.ownsRow_nil _ _ _ _, fun i h => (by simp at h), fun i j _ h => (by simp at h)⟩, fun g hg => (by cases hg), fun i => (by simp [bdT1, tk0])⟩
theorem DdA.mono {hi' : Nat} (h : DdA u base hi v ts) (hh : hi ≤ hi') : DdA u base hi' v ts := by
 obtain ⟨ms, L, H, h1, o, h2, h3⟩ := h.own
 exact ⟨⟨ms, L, H, h1, o, fun i q => ⟨(h2 i q).1, (h2 i q).2.1, Nat.le_trans (h2 i q).2.2 hh⟩, h3⟩, fun g e => Nat.lt_of_lt_of_le (h.top g e) hh, h.bd⟩
theorem DdA.form (h : DdA u base hi v ts) : ∃ a c, v = .slice a ts.length c ∧ (a = none → c = 0) := by
 obtain ⟨ms, L, H, h1, o, h2, h3⟩ := h.own
 obtain ⟨a, c, rfl⟩ := own_sl o
 exact ⟨a, c, rfl, own_nil14 o⟩
theorem DdA.lt (h : DdA u base hi v ts) {g : Nat} (e : v.ownBlock = some g) : base ≤ g ∧ g < hi ∧ g < u.heap.size := by
 obtain ⟨ms, L, H, h1, o, h2, h3⟩ := h.own
 exact ⟨(o.lt g e).1, h.top g e, (o.lt g e).2⟩
theorem DdA.grown (h : DdA u base hi v ts) {row : Option Nat} (hg : u.grownBy u' row) (hr : ∀ k, row = some k → (∃ cs t fz, u.heap[k]? = some (.cells cs t fz) ∧ t ≠ 5) ∧ (k < base ∨ hi ≤ k)) : DdA u' base hi v ts := by
 obtain ⟨ms, L, H, h1, o, h2, h3⟩ := h.own
 refine ⟨⟨ms, L, H, h1, o.kept hg ?_, fun i q => ⟨(h2 i q).1.grown hg (fun k hk => ⟨(hr k hk).1, ?_⟩), (h2 i q).2⟩, h3⟩, h.top, h.bd⟩
 · cases hv : v.ownBlock with
   | none => exact .inl rfl
   | some b => exact .inr (fun e => by have := h.lt hv; have := (hr b e.symm).2; omega)
 · have := (h2 i q).2
   have := (hr k hk).2
   omega
theorem DdA.fresh (h : DdA u base hi v ts) (hg : u.grownBy u' none) : DdA u' base hi v ts := h.grown hg nok
theorem DdA.dds (h : DdA u base hi v ts) : Dds u base v ts := by
 obtain ⟨ms, L, H, h1, o, h2, h3⟩ := h.own
 exact ⟨⟨ms, h1, o, fun i q => ⟨L i, H i, (h2 i q).1.rd, (h2 i q).1.wr, Nat.le_trans (h2 i q).1.n1 (by omega), Nat.le_trans (h2 i q).1.n2 (by omega)⟩⟩, h.bd⟩
theorem DdA.push (h : DdA u base hi v ts) : ∃ ms : List Mt, u.ownsRow base 68 5 v ts.length (cellsV ts ms) ∧ ∀ {u' : World} {v' : Value} {t : Tk} {m : Mt} {lo hi' : Nat}, Rw1 u lo hi' m t → hi ≤ lo → base ≤ lo → lo ≤ u'.heap.size → hi' ≤ u'.heap.size → bdT1 t → u'.ownsRow base 68 5 v' (ts.length + 1) (cellsV ts ms ++ cellsV1 t m) → u.grownBy u' v.ownBlock → DdA u' base u'.heap.size v' (ts ++ [t]) := by
 obtain ⟨ms, L, H, h1, o, h2, h3⟩ := h.own
 refine ⟨ms, o, @fun u' v' t m lo hi' q hl hb hls hs hbd o' hg => ?_⟩
 have hty : ∀ k, v.ownBlock = some k → ∃ cs t fz, u.heap[k]? = some (.cells cs t fz) ∧ t ≠ 5 := fun k hk => by
  rcases o.2 with ⟨e, _⟩ | ⟨g', cp, cu, e, _, hh, _⟩
  · rw [e] at hk; cases hk
  · rw [e] at hk
    have : g' = k := by simpa [Value.ownBlock] using hk
    subst this
    exact ⟨_, _, _, hh, by decide⟩
 have hne : ∀ {lo hi : Nat} {m : Mt} {t : Tk}, Rw1 u lo hi m t → Rw1 u' lo hi m t := @fun lo hi m t q => by
  have key : ∀ {t' : TypeId} {s m' : Nat} {x : Value} {es : List Im}, t' ≠ 68 → Rwm u t' s lo hi x m' es → Rwm u' t' s lo hi x m' es := @fun t' s m' x es hne r => by
   refine r.grown hg (fun k hk => ⟨hty k hk, fun e => ?_⟩)
   obtain ⟨xs, _, o1, _⟩ := r.own
   rcases o.2 with ⟨e1, _⟩ | ⟨g', cp, cu, e1, _, hh, _⟩
   · rw [e1] at hk; cases hk
   · rw [e1] at hk
     have : g' = k := by simpa [Value.ownBlock] using hk
     subst this
     rcases own_ty14 o1 hh (Ne.symm hne) with e2 | e2
     · rw [e2] at e; cases e
     · exact e2 e
  exact ⟨key (by decide) q.rd, key (by decide) q.wr, q.n1, q.n2⟩
 have hsz := hg.size
 refine ⟨⟨ms ++ [m], fun i => if i = ts.length then lo else L i, fun i => if i = ts.length then hi' else H i, by simp [h1], ?_, fun i hi0 => ?_, fun i j hij hj => ?_⟩, fun g e => (o'.lt g e).2, bdTs_snoc14 h.bd hbd⟩
 · rw [cellsV_app ts [t] ms [m] h1, cellsV_cons, cellsV_nil, List.append_nil, List.length_append, List.length_singleton]
   exact o'
 · rw [List.length_append, List.length_singleton] at hi0
   by_cases he : i = ts.length
   · subst he
     have e1 : (ts ++ [t]).getD ts.length tk0 = t := by simp [List.getD]
     have e2 : (ms ++ [m]).getD ts.length mt0 = m := by simp [List.getD, ← h1]
     dsimp only
     rw [e1, e2, if_pos rfl, if_pos rfl]
     exact ⟨hne q, hb, hs⟩
   · have hl' : i < ts.length := by omega
     have e1 : (ts ++ [t]).getD i tk0 = ts.getD i tk0 := by simp [List.getD, List.getElem?_append_left hl']
     have e2 : (ms ++ [m]).getD i mt0 = ms.getD i mt0 := by simp [List.getD, List.getElem?_append_left (show i < ms.length by omega)]
     dsimp only
     rw [e1, e2, if_neg he, if_neg he]
     exact ⟨hne (h2 i hl').1, (h2 i hl').2.1, by have := (h2 i hl').2.2; omega⟩
 · rw [List.length_append, List.length_singleton] at hj
   dsimp only
   by_cases he : j = ts.length
   · subst he
     rw [if_pos rfl, if_neg (by omega)]
     exact Nat.le_trans (h2 i hij).2.2 hl
   · rw [if_neg he, if_neg (by omega)]
     exact h3 i j hij (by omega)
end
end Go.Proofs.YtjcjoabblafboaaGreat
/- A deed that is being drawn, in its box, beside those drawn ahead of it. No statement of its own; no conditions. -/

namespace Go.Proofs.YtjcjoabblafboaaGreat
open Go.RowKit
set_option maxRecDepth 100000
theorem Rw1.mono {u : World} {lo hi hi' : Nat} {m : Mt} {t : Tk} (h : Rw1 u lo hi m t) (hh : hi ≤ hi') : Rw1 u lo hi' m t := ⟨h.rd.mono hh, h.wr.mono hh, h.n1, h.n2⟩
theorem Rwm.not {u : World} {t t' : TypeId} {s lo hi : Nat} {v : Value} {m : Nat} {es : List Im} (h : Rwm u t s lo hi v m es) {k : Nat} {cs : Array Value} {fz : Nat × Nat} (hk : u.heap[k]? = some (.cells cs t' fz)) (ht : t' ≠ t) : v.ownBlock ≠ some k := fun e => by
 obtain ⟨xs, _, o, _⟩ := h.own
 rcases own_ty14 o hk ht with q | q
 · rw [q] at e; cases e
 · exact q e
theorem Rwm.ty {u : World} {t : TypeId} {s lo hi : Nat} {v : Value} {m : Nat} {es : List Im} (h : Rwm u t s lo hi v m es) {k : Nat} (hk : v.ownBlock = some k) : ∃ cs fz, u.heap[k]? = some (.cells cs t fz) := by
 obtain ⟨xs, _, o, _⟩ := h.own
 rcases o.2 with ⟨e, _⟩ | ⟨g', cp, cu, e, _, hh, _⟩
 · rw [e] at hk; cases hk
 · rw [e] at hk
   have : g' = k := by simpa [Value.ownBlock] using hk
   subst this
   exact ⟨_, _, hh⟩
structure Dst (w : World) (g : Nat) (ad : Option Addr) (n cap : Nat) (zs : List Int) (lo : Nat) (x b e : Int) (y z : Value) (rs : List (Im × Im)) (ws : List Im) (v : Value) (ts : List Tk) (u : World) : Prop where
 cg : Cg w g ad n cap zs u
 box : u.heap[lo]? = some (.cells #[.int .i64 x, .int .i64 b, .int .i64 e, y, z] 68 (0, 0))
 row : Rw1 u lo u.heap.size ⟨y, [], z, []⟩ ⟨x, b, e, false, rs, ws, false, false⟩
 old : DdA u w.heap.size lo v ts
 lo : w.heap.size ≤ lo
section
variable {w u u' : World} {g : Nat} {ad : Option Addr} {n cap : Nat} {zs : List Int} {lo : Nat} {x b e : Int} {y z : Value} {rs : List (Im × Im)} {ws : List Im} {v : Value} {ts : List Tk}
theorem Dst.hs (h : Dst w g ad n cap zs lo x b e y z rs ws v ts u) : lo < u.heap.size := (Array.getElem?_eq_some_iff.1 h.box).1
theorem Dst.cursor (h : Dst w g ad n cap zs lo x b e y z rs ws v ts u) (c : Cur u' g ad n cap zs) (hg : u.grownBy u' (some g)) : Dst w g ad n cap zs lo x b e y z rs ws v ts u' := by
 have h1 := h.cg.lo
 have h2 := h.lo
 exact ⟨h.cg.move c hg, (hg.block lo h.hs (by simp; omega)).trans h.box, (h.row.grown hg (fun k hk => ⟨h.cg.ty k hk, by obtain rfl := Option.some.inj hk; omega⟩)).mono hg.size, h.old.grown hg (fun k hk => ⟨h.cg.ty k hk, by obtain rfl := Option.some.inj hk; omega⟩), h.lo⟩
theorem Dst.fresh (h : Dst w g ad n cap zs lo x b e y z rs ws v ts u) (hg : u.grownBy u' none) : Dst w g ad n cap zs lo x b e y z rs ws v ts u' :=
 ⟨h.cg.new hg nok, (hg.block lo h.hs (by simp)).trans h.box, (h.row.grown hg nok).mono hg.size, h.old.fresh hg, h.lo⟩
theorem Dst.turn (h : Dst w g ad n cap zs lo x b e y z rs ws v ts u) {y' z' : Value} {rs' : List (Im × Im)} {ws' : List Im} {e' : Int} {row : Option Nat} (hg : u.grownBy u' row) (hr : ∀ k, row = some k → (∃ cs t fz, u.heap[k]? = some (.cells cs t fz) ∧ t ≠ 5 ∧ t ≠ 68) ∧ lo ≤ k)
 (q : Rw1 u' lo u'.heap.size ⟨y', [], z', []⟩ ⟨x, b, e', false, rs', ws', false, false⟩) : Dst w g ad n cap zs lo x b e' y' z' rs' ws' v ts (u'.setRow lo #[.int .i64 x, .int .i64 b, .int .i64 e', y', z']) := by
 have hlo := h.lo
 have hb : u'.heap[lo]? = some (.cells #[.int .i64 x, .int .i64 b, .int .i64 e, y, z] 68 (0, 0)) := (hg.block lo h.hs (fun k => by
  obtain ⟨⟨cs, t, fz, h1, _, h2⟩, _⟩ := hr lo k.symm
  have h3 := h1.symm.trans h.box
  injection h3 with h3
  injection h3 with _ h4 _
  exact h2 h4)).trans h.box
 have g2 := row_grown13 u' lo #[.int .i64 x, .int .i64 b, .int .i64 e', y', z']
 have ty : ∀ k, some lo = some k → ∃ cs t fz, u'.heap[k]? = some (.cells cs t fz) ∧ t ≠ 5 := fun k hk => by
  obtain rfl := Option.some.inj hk
  exact ⟨_, _, _, hb, by decide⟩
 have c1 := h.cg.new hg (fun k hk => Nat.le_trans hlo (hr k hk).2)
 have o1 := h.old.grown hg (fun k hk => by
  obtain ⟨⟨cs, t, fz, h1, h2, _⟩, h3⟩ := hr k hk
  exact ⟨⟨cs, t, fz, h1, h2⟩, .inr h3⟩)
 have hsz : (u'.setRow lo #[.int .i64 x, .int .i64 b, .int .i64 e', y', z']).heap.size = u'.heap.size := by simp
 refine ⟨c1.new g2 (fun k hk => by obtain rfl := Option.some.inj hk; exact hlo), setRow_heap _ _ _ _ _ _ hb, ?_, o1.grown g2 (fun k hk => ⟨ty k hk, by obtain rfl := Option.some.inj hk; exact .inr (Nat.le_refl _)⟩), hlo⟩
 rw [hsz]
 exact ⟨q.rd.grown g2 (fun k hk => ⟨ty k hk, by obtain rfl := Option.some.inj hk; exact q.rd.not hb (by decide)⟩), q.wr.grown g2 (fun k hk => ⟨ty k hk, by obtain rfl := Option.some.inj hk; exact q.wr.not hb (by decide)⟩), q.n1, q.n2⟩
theorem Dst.read (h : Dst w g ad n cap zs lo x b e y z rs ws v ts u) (hl : rs.length < 900) : ∃ xs : List Value, u.ownsRow lo 74 8 y rs.length (cellsI (fl2 rs) xs) ∧ ∀ {u' : World} {y' : Value} {s1 s2 : Im} {v1 v2 : Value}, Dit u s1.K s1.N s1.F v1 s1.Z → Dit u s2.K s2.N s2.F v2 s2.Z → u'.ownsRow lo 74 8 y' (rs.length + 1) (cellsI (fl2 rs) xs ++ cellsI [s1, s2] [v1, v2]) → u.grownBy u' y.ownBlock → Dst w g ad n cap zs lo x b e y' z (rs ++ [(s1, s2)]) ws v ts (u'.setRow lo #[.int .i64 x, .int .i64 b, .int .i64 e, y', z]) := by
 have r := h.row.rd
 obtain ⟨xs, h1, o, h2⟩ := r.own
 refine ⟨xs, o, @fun u' y' s1 s2 v1 v2 d1 d2 o' hg => ?_⟩
 have p := r.push (fs := [s1, s2]) (ys := [v1, v2]) (by decide) h1 h2 o rfl rfl (fun i hi => by
  cases i with
  | zero => exact d1
  | succ i =>
   cases i with
   | zero => exact d2
   | succ i => simp at hi; omega) o' hg
 have hr : ∀ k, y.ownBlock = some k → (∃ cs t fz, u.heap[k]? = some (.cells cs t fz) ∧ t ≠ 5 ∧ t ≠ 68) ∧ lo ≤ k := fun k hk => by
  obtain ⟨cs, fz, hh⟩ := r.ty hk
  exact ⟨⟨_, _, _, hh, by decide, by decide⟩, (r.lt hk).1⟩
 have wq := (h.row.wr.grown hg (fun k hk => by
  obtain ⟨cs, fz, hh⟩ := r.ty hk
  exact ⟨⟨_, _, _, hh, by decide⟩, h.row.wr.not hh (by decide)⟩)).mono hg.size
 refine h.turn hg hr ⟨?_, wq, ?_, h.row.n2⟩
 · show Rwm u' 74 8 lo u'.heap.size y' (rs ++ [(s1, s2)]).length (fl2 (rs ++ [(s1, s2)]))
   rw [fl2_app, List.length_append, List.length_singleton]
   exact p
 · show (rs ++ [(s1, s2)]).length ≤ 900
   rw [List.length_append, List.length_singleton]; omega
theorem Dst.write (h : Dst w g ad n cap zs lo x b e y z rs ws v ts u) (hl : ws.length < 900) : ∃ xs : List Value, u.ownsRow lo 72 4 z ws.length (cellsI ws xs) ∧ ∀ {u' : World} {z' : Value} {s : Im} {v1 : Value}, Dit u s.K s.N s.F v1 s.Z → u'.ownsRow lo 72 4 z' (ws.length + 1) (cellsI ws xs ++ cellsI [s] [v1]) → u.grownBy u' z.ownBlock → Dst w g ad n cap zs lo x b e y z' rs (ws ++ [s]) v ts (u'.setRow lo #[.int .i64 x, .int .i64 b, .int .i64 e, y, z']) := by
 have r := h.row.wr
 obtain ⟨xs, h1, o, h2⟩ := r.own
 refine ⟨xs, o, @fun u' z' s v1 d1 o' hg => ?_⟩
 have p := r.push (fs := [s]) (ys := [v1]) (by decide) h1 h2 o rfl rfl (fun i hi => by
  cases i with
  | zero => exact d1
  | succ i => simp at hi) o' hg
 have hr : ∀ k, z.ownBlock = some k → (∃ cs t fz, u.heap[k]? = some (.cells cs t fz) ∧ t ≠ 5 ∧ t ≠ 68) ∧ lo ≤ k := fun k hk => by
  obtain ⟨cs, fz, hh⟩ := r.ty hk
  exact ⟨⟨_, _, _, hh, by decide, by decide⟩, (r.lt hk).1⟩
 have wq := (h.row.rd.grown hg (fun k hk => by
  obtain ⟨cs, fz, hh⟩ := r.ty hk
  exact ⟨⟨_, _, _, hh, by decide⟩, h.row.rd.not hh (by decide)⟩)).mono hg.size
 refine h.turn hg hr ⟨wq, ?_, h.row.n1, ?_⟩
 · show Rwm u' 72 4 lo u'.heap.size z' (ws ++ [s]).length (ws ++ [s])
   rw [List.length_append, List.length_singleton]
   exact p
 · show (ws ++ [s]).length ≤ 900
   rw [List.length_append, List.length_singleton]; omega
theorem Dst.ends (h : Dst w g ad n cap zs lo x b e y z rs ws v ts u) (e' : Int) : Dst w g ad n cap zs lo x b e' y z rs ws v ts (u.setRow lo #[.int .i64 x, .int .i64 b, .int .i64 e', y, z]) :=
 h.turn (row := none) ⟨rfl, rfl, rfl, Nat.le_refl _, fun _ _ _ => rfl⟩ nok ⟨h.row.rd, h.row.wr, h.row.n1, h.row.n2⟩
theorem Dst.push (h : Dst w g ad n cap zs lo x b e y z rs ws v ts u) (hbd : bdT1 ⟨x, b, e, false, rs, ws, false, false⟩) : ∃ ms : List Mt, u.ownsRow w.heap.size 68 5 v ts.length (cellsV ts ms) ∧ ∀ {u' : World} {v' : Value}, u'.ownsRow w.heap.size 68 5 v' (ts.length + 1) (cellsV ts ms ++ [.int .i64 x, .int .i64 b, .int .i64 e, y, z]) → u.grownBy u' v.ownBlock → Cg w g ad n cap zs u' ∧ DdA u' w.heap.size u'.heap.size v' (ts ++ [⟨x, b, e, false, rs, ws, false, false⟩]) := by
 obtain ⟨ms, o, k⟩ := h.old.push
 have hlo := h.lo
 have hss := h.hs
 exact ⟨ms, o, @fun u' v' o' hg => ⟨h.cg.new hg (fun k hk => (o.lt k hk).1), k h.row (Nat.le_refl _) hlo (Nat.le_trans (Nat.le_of_lt hss) hg.size) hg.size hbd o' hg⟩⟩
end
end Go.Proofs.YtjcjoabblafboaaGreat
