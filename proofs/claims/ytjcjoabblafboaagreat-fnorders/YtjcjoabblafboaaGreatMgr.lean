/- Texts of this proof in one: Dg14 Dh14 Di14 Dk14. -/
import Derived.Test.YtjcjoabblafboaaGreatDe14
import Derived.Test.YtjcjoabblafboaaGreatLaFo
import Derived.Test.YtjcjoabblafboaaGreatMgq
/- The draw of FnOrders, given that of deeds spoilt now and then (l14bent). For codes of at most 2^21 bytes. -/


namespace Go.Proofs.YtjcjoabblafboaaGreat
open Go.RowKit
set_option maxRecDepth 100000
theorem l1Size9 (ad : Option Addr) (n cap : Nat) (hn : n ≤ 2097152) (w : World) : Calls Tryz.prog 36 #[.slice ad n cap, .int .i64 9] w fun e w' => ∃ x : Int, e = .returned (.int .i64 x) ∧ 0 < x ∧ x ≤ 9 ∧ w' = w := by
 have hq : (0 : Int) ≤ (n : Int) / 20 := Int.ediv_nonneg (by omega) (by omega)
 have hq2 : (n : Int) / 20 ≤ 2097152 := by omega
 by_cases h : 9 < 2 + (n : Int) / 20
 · go_enter Tryz.func36, Tryz.ntmps36
   go_wp2
   go_ret
   exact ⟨_, rfl, by omega, by omega, rfl⟩
 · go_enter Tryz.func36, Tryz.ntmps36
   go_wp2
   go_ret
   exact ⟨_, rfl, by omega, by omega, rfl⟩
theorem Dds.fin {w u u' : World} {g : Nat} {ad : Option Addr} {n cap : Nat} {zs : List Int} {v : Value} {ts : List Tk} (h : Dds u' u.heap.size v ts) (hl : ts.length ≤ 1000) (hg : w.heap.size ≤ g) (b : Below w.heap.size w u) (c : Cg u g ad n cap zs u') : AnsDs w (.returned v) u' := by
 have h' := h
 obtain ⟨ms, _, o, _⟩ := h'.own
 obtain ⟨a, c', rfl⟩ := own_sl o
 obtain ⟨r1, r2, r3⟩ := h.reads
 exact ⟨⟨a, c', ts, rfl, r1, r2, r3, h.bd, hl⟩, b.grown c.gr b.size (fun k hk => by obtain rfl := Option.some.inj hk; exact hg)⟩
set_option maxHeartbeats 3200000 in
theorem drawGraphOrder (hB : ∀ {w u : World} {g : Nat} {ad : Option Addr} {n cap : Nat} {zs : List Int} {a : Option Addr} {c : Nat} {ts : List Tk}, Cg w g ad n cap zs u → n ≤ 2097152 → DdA u w.heap.size u.heap.size (.slice a ts.length c) ts → ts.length ≤ 100 → Calls Tryz.prog 38 #[.pointer (some ⟨g, 0, none⟩), .slice a ts.length c] u fun e u' => ∃ v ts', e = .returned v ∧ Dds u' w.heap.size v ts' ∧ ts'.length ≤ 1000 ∧ Cg w g ad n cap zs u')
 {ad : Option Addr} {n : Nat} (cap : Nat) {zs : List Int} {w : World} (h : Reads w ad n zs) (hn : n ≤ 2097152) : Calls Tryz.prog 7 #[.slice ad n cap] w (AnsDs w) := by
 have HR := hid h
 clear h
 go_enter Tryz.func7, Tryz.ntmps7
 go_wp2_with fail
 refine (l1New cap HR.out (by omega)).mono ?_
 rintro e u ⟨g, rfl, hg, c1, b1⟩
 have C0 := hid c1
 have B0 := hid b1
 clear HR c1 b1
 go_wp2_with fail
 refine (l1Size9 ad n cap hn u).mono ?_
 rintro e u2 ⟨m, rfl, hm0, hm1, h2⟩
 obtain rfl := h2.symm
 go_wp2_with fail
 refine (l14deeds C0.out hn m (by omega) (by omega)).mono ?_
 rintro e u1 ⟨⟨v, ts, rfl, d, hl⟩, cg⟩
 obtain ⟨a, c, rfl, -⟩ := d.form
 have HD := hid d
 have HC := hid cg
 clear d cg C0
 go_wp2_with fail
 refine (l1Once HC.out.cur hn 9 (by omega) (by omega)).mono ?_
 rintro e u3 ⟨q, rfl, c1, g1⟩
 have hz := HC.out.size
 replace HD := hid ((HD.out.grown g1 (fun k hk => ⟨HC.out.ty k hk, .inl (by obtain rfl := Option.some.inj hk; exact HC.out.lo)⟩)).mono g1.size)
 replace HC := hid (HC.out.move c1 g1)
 clear c1 g1 hz
 cases q with
 | false =>
  go_wp2_with fail
  go_ret
  exact HD.out.dds.fin (by omega) hg B0.out HC.out
 | true =>
  go_wp2_with fail
  refine (hB HC.out hn HD.out hl).mono ?_
  rintro e u4 ⟨v4, ts4, rfl, d4, hl4, c4⟩
  have HF := hid (d4.fin hl4 hg B0.out c4)
  clear d4 c4
  go_wp2_with fail
  go_ret
  exact HF.out
end Go.Proofs.YtjcjoabblafboaaGreat
/- A cell of a drawn deed written in place; a number picked out of a slice, with a word that all of them keep. No statement of its own; no conditions. -/

namespace Go.Proofs.YtjcjoabblafboaaGreat
open Go.RowKit
set_option maxRecDepth 100000
theorem owns_block14 {w : World} {lo g n c : Nat} {xs : List Value} (o : w.ownsRow lo 68 5 (.slice (some ⟨g, 0, none⟩) n c) n xs) : ∃ rest : List Value, w.heap[g]? = some (.cells (xs ++ rest).toArray 68) ∧ xs.length = n * 5 ∧ (xs ++ rest).length = c * 5 ∧ n ≤ c ∧ c ≤ maxLen ∧ lo ≤ g := by
 rcases o.2 with ⟨e, _⟩ | ⟨g', cap, cur, e, h1, h2, h3, h4, h5, h6⟩
 · cases e
 · cases e
   refine ⟨cur.toList.drop (n * 5), ?_, o.1, ?_, h3, h4, h1⟩
   · rw [← h6, List.take_append_drop]; exact h2
   · rw [← h6, List.take_append_drop]; simpa using h5
theorem block_owns14 {w : World} {lo g n c : Nat} {xs rest : List Value} (h : w.heap[g]? = some (.cells (xs ++ rest).toArray 68)) (hx : xs.length = n * 5) (hr : (xs ++ rest).length = c * 5) (hn : n ≤ c) (hc : c ≤ maxLen) (hl : lo ≤ g) : w.ownsRow lo 68 5 (.slice (some ⟨g, 0, none⟩) n c) n xs :=
 ⟨hx, .inr ⟨g, c, _, rfl, hl, h, hn, hc, by simpa using hr, by rw [← hx]; simp⟩⟩
theorem owns_set14 {w : World} {lo g n c : Nat} {xs : List Value} (o : w.ownsRow lo 68 5 (.slice (some ⟨g, 0, none⟩) n c) n xs) {j : Nat} (hj : j < n * 5) (u : Value) : (w.setCell ⟨g, j, none⟩ u).ownsRow lo 68 5 (.slice (some ⟨g, 0, none⟩) n c) n (xs.set j u) := by
 obtain ⟨rest, hG, hx, hr, hnc, hcm, hlo⟩ := owns_block14 o
 have h1 := heap_setCell_same w g j _ 68 u hG
 rw [List.setIfInBounds_toArray, List.set_append_left _ _ (by omega)] at h1
 exact block_owns14 h1 (by rw [List.length_set]; exact hx) (by rw [List.length_append, List.length_set, ← List.length_append]; exact hr) hnc hcm hlo
theorem cellsV_put : ∀ (ts : List Tk) (ms : List Mt) (k q : Nat) (x : Value) (t' : Tk) (m' : Mt), ms.length = ts.length → k < ts.length → q < 5 → cellsV1 t' m' = (cellsV1 (ts.getD k tk0) (ms.getD k mt0)).set q x → (cellsV ts ms).set (k * 5 + q) x = cellsV (ts.set k t') (ms.set k m')
 | [], _, k, _, _, _, _, _, hk, _, _ => by simp at hk
 | t :: ts, [], _, _, _, _, _, hl, _, _, _ => by simp at hl
 | t :: ts, m :: ms, 0, q, x, t', m', hl, _, hq, hc => by
  rw [cellsV_cons, List.set_cons_zero, List.set_cons_zero, cellsV_cons, hc, Nat.zero_mul, Nat.zero_add]
  rw [List.set_append_left _ _ (by simp [cellsV1]; omega)]
  rfl
 | t :: ts, m :: ms, k + 1, q, x, t', m', hl, hk, hq, hc => by
  rw [cellsV_cons, List.set_cons_succ, List.set_cons_succ, cellsV_cons, List.set_append_right _ _ (by simp [cellsV1]; omega), ← cellsV_put ts ms k q x t' m' (by simpa using hl) (by simpa using hk) hq (by simpa using hc)]
  have e : (k + 1) * 5 + q - (cellsV1 t m).length = k * 5 + q := by simp [cellsV1]; omega
  rw [e]
theorem put14 {u : World} {base G n c : Nat} {ts : List Tk} {ms : List Mt} {k q : Nat} {x : Value} {t' : Tk} {m' : Mt} (hm : ms.length = ts.length) (hl : ts.length = n) (o : u.ownsRow base 68 5 (.slice (some ⟨G, 0, none⟩) n c) n (cellsV ts ms)) (hr : ∀ i, i < ts.length → ∃ lo hi, Rwm u 74 8 lo hi ((ms.set k m').getD i mt0).y ((ts.set k t').getD i tk0).rs.length (fl2 ((ts.set k t').getD i tk0).rs) ∧ Rwm u 72 4 lo hi ((ms.set k m').getD i mt0).z ((ts.set k t').getD i tk0).ws.length ((ts.set k t').getD i tk0).ws ∧ ((ts.set k t').getD i tk0).rs.length ≤ 1000 ∧ ((ts.set k t').getD i tk0).ws.length ≤ 1000) (hk : k < n) (hq : q < 5) (hc : cellsV1 t' m' = (cellsV1 (ts.getD k tk0) (ms.getD k mt0)).set q x) (hbd : bdTs (ts.set k t')) : Dds (u.setCell ⟨G, k * 5 + q, none⟩ x) base (.slice (some ⟨G, 0, none⟩) n c) (ts.set k t') := by
 have o2 := owns_set14 o (j := k * 5 + q) (by omega) x
 rw [cellsV_put ts ms k q x t' m' hm (by omega) hq hc] at o2
 have hg : u.grownBy (u.setCell ⟨G, k * 5 + q, none⟩ x) (some G) := ⟨rfl, rfl, rfl, by simp, fun i _ hne => heap_set_ne u G _ i x (fun e => hne (by rw [e]))⟩
 obtain ⟨cs, fz, hb⟩ : ∃ cs fz, u.heap[G]? = some (.cells cs 68 fz) := by
  rcases o.2 with ⟨e, _⟩ | ⟨g', cp, cu, e, _, hh, _⟩
  · cases e
  · cases e; exact ⟨_, _, hh⟩
 refine ⟨⟨ms.set k m', by simp [hm], by rw [List.length_set, hl]; exact o2, fun i hi => ?_⟩, hbd⟩
 rw [List.length_set] at hi
 obtain ⟨lo, hi', q1, q2, n1, n2⟩ := hr i hi
 exact ⟨lo, hi', q1.grown hg (fun j hj => by obtain rfl := Option.some.inj hj; exact ⟨⟨_, _, _, hb, by decide⟩, q1.not hb (by decide)⟩), q2.grown hg (fun j hj => by obtain rfl := Option.some.inj hj; exact ⟨⟨_, _, _, hb, by decide⟩, q2.not hb (by decide)⟩), n1, n2⟩
set_option maxHeartbeats 1600000 in
theorem l1PickP {w : World} {g : Nat} {ad : Option Addr} {n cap : Nat} {zs : List Int} (c : Cur w g ad n cap zs) (hn : n ≤ 2097152) {b m c' : Nat} (hm : 0 < m) (hm' : m ≤ 1000) (hb : b ≠ g) (P : Int → Prop) (hc : ∀ i, i < m → ∃ x, w.cell? ⟨b, i, none⟩ = some (.int .i64 x) ∧ P x) :
 Calls Tryz.prog 82 #[.pointer (some ⟨g, 0, none⟩), .slice (some ⟨b, 0, none⟩) m c'] w fun e w' => ∃ x : Int, e = .returned (.int .i64 x) ∧ P x ∧ Cur w' g ad n cap zs ∧ w.grownBy w' (some g) := by
 have HC := hid hc
 clear hc
 go_enter Tryz.func82, Tryz.ntmps82
 go_wp2_with fail
 refine (l1Below c hn (m : Int) (by omega) (by omega)).mono ?_
 rintro e w1 ⟨x, rfl, hx0, hx1, c1, g1⟩
 obtain ⟨x, rfl⟩ := Int.eq_ofNat_of_zero_le hx0
 obtain ⟨y, hy, hp⟩ := HC.out x (by omega)
 have hy' := g1.cell hy (by simpa using hb)
 have HP := hid hp
 clear hy hp
 go_wp2_with fail
 go_ret
 exact ⟨_, rfl, HP.out, c1, g1⟩
end Go.Proofs.YtjcjoabblafboaaGreat
/- Deeds spoilt now and then. For codes of at most 2^21 bytes. -/


namespace Go.Proofs.YtjcjoabblafboaaGreat
open Go.RowKit
set_option maxRecDepth 100000
structure AnsBt (w : World) (g : Nat) (ad : Option Addr) (n cap : Nat) (zs : List Int) (e : Ending) (u : World) : Prop where
 ex : ∃ v ts, e = .returned v ∧ Dds u w.heap.size v ts ∧ ts.length ≤ 1000
 cg : Cg w g ad n cap zs u
theorem DdA.cell {u : World} {base hi : Nat} {G n c : Nat} {ts : List Tk} (h : DdA u base hi (.slice (some ⟨G, 0, none⟩) n c) ts) {i : Nat} (hi' : i < ts.length) : u.cell? ⟨G, i * 5 + 1, none⟩ = some (.int .i64 (ts.getD i tk0).begun) ∧ u.cell? ⟨G, i * 5 + 2, none⟩ = some (.int .i64 (ts.getD i tk0).ended) ∧ (∀ j, u.frozen? ⟨G, j, none⟩ = false) ∧ n = ts.length := by
 obtain ⟨ms, L, H, hm, o, h2, h3⟩ := h.own
 obtain ⟨a, c', e⟩ := own_sl o
 cases e
 refine ⟨(o.cellAt (i * 5 + 1) (by omega)).trans (cellsV_at ts ms i 1 hm hi' (by omega)), (o.cellAt (i * 5 + 2) (by omega)).trans (cellsV_at ts ms i 2 hm hi' (by omega)), fun j => o.frozenAt j, rfl⟩
theorem DdA.time {u : World} {base hi : Nat} {G n c : Nat} {ts : List Tk} (h : DdA u base hi (.slice (some ⟨G, 0, none⟩) n c) ts) (hl : ts.length = n) {i : Nat} (hi' : i < ts.length) (x : Int) (hx : -9223372036854775808 ≤ x ∧ x ≤ 9223372036854775807) : (∃ ts', ts'.length = ts.length ∧ Dds (u.setCell ⟨G, i * 5 + 1, none⟩ (.int .i64 x)) base (.slice (some ⟨G, 0, none⟩) n c) ts') ∧ ∃ ts', ts'.length = ts.length ∧ Dds (u.setCell ⟨G, i * 5 + 2, none⟩ (.int .i64 x)) base (.slice (some ⟨G, 0, none⟩) n c) ts' := by
 obtain ⟨ms, L, H, hm, o, h2, h3⟩ := h.own
 have hb := h.bd
 have key : ∀ t' : Tk, t'.rs = (ts.getD i tk0).rs → t'.ws = (ts.getD i tk0).ws → ∀ j, j < ts.length → ∃ lo hi, Rwm u 74 8 lo hi ((ms.set i (ms.getD i mt0)).getD j mt0).y ((ts.set i t').getD j tk0).rs.length (fl2 ((ts.set i t').getD j tk0).rs) ∧ Rwm u 72 4 lo hi ((ms.set i (ms.getD i mt0)).getD j mt0).z ((ts.set i t').getD j tk0).ws.length ((ts.set i t').getD j tk0).ws ∧ ((ts.set i t').getD j tk0).rs.length ≤ 1000 ∧ ((ts.set i t').getD j tk0).ws.length ≤ 1000 := fun t' e1 e2 j hj => by
  refine ⟨L j, H j, ?_⟩
  rw [getD_set' _ _ _ _ _ (by omega), getD_set' _ _ _ _ _ (by omega)]
  by_cases e : j = i
  · subst e
    rw [if_pos rfl, if_pos rfl]
    have q := (h2 j hj).1
    exact ⟨by rw [e1]; exact q.rd, by rw [e2]; exact q.wr, by rw [e1]; have := q.n1; omega, by rw [e2]; have := q.n2; omega⟩
  · rw [if_neg e, if_neg e]
    have q := (h2 j hj).1
    exact ⟨q.rd, q.wr, by have := q.n1; omega, by have := q.n2; omega⟩
 have kb : ∀ t' : Tk, bdT1 t' → bdTs (ts.set i t') := fun t' ht j => by
  by_cases hj : j < ts.length
  · rw [getD_set' _ _ _ _ _ (by omega)]
    split
    · exact ht
    · exact hb j
  · have e : (ts.set i t').getD j tk0 = tk0 := by simp [List.getD, List.getElem?_eq_none (show (ts.set i t').length ≤ j by simp; omega)]
    rw [e]; simp [bdT1, tk0]
 have hbi := hb i
 rw [hl] at o
 refine ⟨⟨ts.set i ⟨(ts.getD i tk0).xid, x, (ts.getD i tk0).ended, (ts.getD i tk0).all, (ts.getD i tk0).rs, (ts.getD i tk0).ws, (ts.getD i tk0).inn, (ts.getD i tk0).out⟩, by simp, ?_⟩, ⟨ts.set i ⟨(ts.getD i tk0).xid, (ts.getD i tk0).begun, x, (ts.getD i tk0).all, (ts.getD i tk0).rs, (ts.getD i tk0).ws, (ts.getD i tk0).inn, (ts.getD i tk0).out⟩, by simp, ?_⟩⟩
 · exact put14 (m' := ms.getD i mt0) hm hl o (key _ rfl rfl) (by omega) (by omega) rfl (kb _ ⟨hbi.1, hx, hbi.2.2⟩)
 · exact put14 (m' := ms.getD i mt0) hm hl o (key _ rfl rfl) (by omega) (by omega) rfl (kb _ ⟨hbi.1, hbi.2.1, hx⟩)
end Go.Proofs.YtjcjoabblafboaaGreat
/- Deeds that were drawn, told with their rows' memory: one more at the end of a row of one of them. No statement of its own; no conditions. -/

namespace Go.Proofs.YtjcjoabblafboaaGreat
open Go.RowKit
set_option maxRecDepth 100000
structure DdM (u : World) (base hi : Nat) (v : Value) (ts : List Tk) (ms : List Mt) (L H : Nat → Nat) : Prop where
 len : ms.length = ts.length
 own : u.ownsRow base 68 5 v ts.length (cellsV ts ms)
 rows : ∀ i, i < ts.length → Rw1 u (L i) (H i) (ms.getD i mt0) (ts.getD i tk0) ∧ base ≤ L i ∧ H i ≤ hi
 apart : ∀ i j, i < j → j < ts.length → H i ≤ L j
 top : ∀ g, v.ownBlock = some g → g < hi
 bd : bdTs ts
section
variable {u u' : World} {base hi : Nat} {v : Value} {ts : List Tk} {ms : List Mt} {L H : Nat → Nat}
theorem DdA.opened (h : DdA u base hi v ts) : ∃ ms L H, DdM u base hi v ts ms L H := by
 obtain ⟨ms, L, H, h1, o, h2, h3⟩ := h.own
 exact ⟨ms, L, H, h1, o, h2, h3, h.top, h.bd⟩
theorem DdM.shut (h : DdM u base hi v ts ms L H) : DdA u base hi v ts := ⟨⟨ms, L, H, h.len, h.own, h.rows, h.apart⟩, h.top, h.bd⟩
theorem DdM.mono {hi' : Nat} (h : DdM u base hi v ts ms L H) (hh : hi ≤ hi') : DdM u base hi' v ts ms L H :=
 ⟨h.len, h.own, fun i q => ⟨(h.rows i q).1, (h.rows i q).2.1, Nat.le_trans (h.rows i q).2.2 hh⟩, h.apart, fun g e => Nat.lt_of_lt_of_le (h.top g e) hh, h.bd⟩
theorem DdM.grown (h : DdM u base hi v ts ms L H) {row : Option Nat} (hg : u.grownBy u' row) (hr : ∀ k, row = some k → (∃ cs t fz, u.heap[k]? = some (.cells cs t fz) ∧ t ≠ 5) ∧ (k < base ∨ hi ≤ k)) : DdM u' base hi v ts ms L H := by
 refine ⟨h.len, h.own.kept hg ?_, fun i q => ⟨(h.rows i q).1.grown hg (fun k hk => ⟨(hr k hk).1, ?_⟩), (h.rows i q).2⟩, h.apart, h.top, h.bd⟩
 · cases hv : v.ownBlock with
   | none => exact .inl rfl
   | some b => exact .inr (fun e => by have := h.shut.lt hv; have := (hr b e.symm).2; omega)
 · have := (h.rows i q).2
   have := (hr k hk).2
   omega
theorem DdM.fresh (h : DdM u base hi v ts ms L H) (hg : u.grownBy u' none) : DdM u' base hi v ts ms L H := h.grown hg nok
theorem Rwm.lower {t : TypeId} {s lo lo' hi : Nat} {m : Nat} {es : List Im} (h : Rwm u t s lo hi v m es) (hb : lo' ≤ lo) : Rwm u t s lo' hi v m es := by
 obtain ⟨xs, h1, o, h2⟩ := h.own
 exact ⟨⟨xs, h1, owns_lower o hb, h2⟩, h.top, h.len⟩
theorem DdM.cells {G n c : Nat} (h : DdM u base hi (.slice (some ⟨G, 0, none⟩) n c) ts ms L H) {i : Nat} (hi' : i < ts.length) : u.cell? ⟨G, i * 5 + 3, none⟩ = some (ms.getD i mt0).y ∧ u.cell? ⟨G, i * 5 + 4, none⟩ = some (ms.getD i mt0).z ∧ (∀ j, u.frozen? ⟨G, j, none⟩ = false) ∧ base ≤ G ∧ G < hi ∧ ∃ cs fz, u.heap[G]? = some (.cells cs 68 fz) := by
 have o := h.own
 obtain ⟨a, c', e⟩ := own_sl o
 cases e
 refine ⟨(o.cellAt (i * 5 + 3) (by omega)).trans (cellsV_at ts ms i 3 h.len hi' (by omega)), (o.cellAt (i * 5 + 4) (by omega)).trans (cellsV_at ts ms i 4 h.len hi' (by omega)), fun j => o.frozenAt j, (o.lt G rfl).1, h.top G rfl, ?_⟩
 rcases o.2 with ⟨e, _⟩ | ⟨g', cp, cu, e, _, hh, _⟩
 · cases e
 · cases e; exact ⟨_, _, hh⟩
theorem DdM.other (h : DdM u base hi v ts ms L H) {i j k : Nat} (hi' : i < ts.length) (hj : j < ts.length) (hne : j ≠ i) (hk : L i ≤ k ∧ k < H i) : k < L j ∨ H j ≤ k := by
 rcases Nat.lt_or_ge i j with q | q
 · have := h.apart i j q hj; omega
 · have := h.apart j i (by omega) hi'; omega
theorem DdM.read {G n c : Nat} (h : DdM u base u.heap.size (.slice (some ⟨G, 0, none⟩) n c) ts ms L H) (hl : ts.length = n) {i : Nat} (hi' : i < ts.length) : ∃ xs : List Value, u.ownsRow base 74 8 (ms.getD i mt0).y (ts.getD i tk0).rs.length (cellsI (fl2 (ts.getD i tk0).rs) xs) ∧ ∀ {u' : World} {y' : Value} {s1 s2 : Im} {v1 v2 : Value}, Dit u s1.K s1.N s1.F v1 s1.Z → Dit u s2.K s2.N s2.F v2 s2.Z → u'.ownsRow base 74 8 y' ((ts.getD i tk0).rs.length + 1) (cellsI (fl2 (ts.getD i tk0).rs) xs ++ cellsI [s1, s2] [v1, v2]) → u.grownBy u' (ms.getD i mt0).y.ownBlock → u'.cell? ⟨G, i * 5 + 3, none⟩ = some (ms.getD i mt0).y ∧ u'.frozen? ⟨G, i * 5 + 3, none⟩ = false ∧ ∃ ts', ts'.length = ts.length ∧ Dds (u'.setCell ⟨G, i * 5 + 3, none⟩ y') base (.slice (some ⟨G, 0, none⟩) n c) ts' := by
 obtain ⟨q0, qb, qh⟩ := h.rows i hi'
 have r := q0.rd
 obtain ⟨xs, h1, o, h2⟩ := r.own
 have o0 := owns_lower o qb
 refine ⟨xs, o0, @fun u' y' s1 s2 v1 v2 d1 d2 o' hg => ?_⟩
 obtain ⟨_, _, _, hGb, _, cs, fz, hG⟩ := h.cells hi'
 have p := (r.lower qb).push (fs := [s1, s2]) (ys := [v1, v2]) (by decide) h1 h2 o0 rfl rfl (fun i hi => by
  cases i with
  | zero => exact d1
  | succ i =>
   cases i with
   | zero => exact d2
   | succ i => simp at hi; omega) o' hg
 have ty : ∀ k, (ms.getD i mt0).y.ownBlock = some k → ∃ cs t fz, u.heap[k]? = some (.cells cs t fz) ∧ t ≠ 5 := fun k hk => by
  obtain ⟨cs, fz, hh⟩ := r.ty hk
  exact ⟨_, _, _, hh, by decide⟩
 have wq := (((q0.wr.grown hg (fun k hk => by
  obtain ⟨cs, fz, hh⟩ := r.ty hk
  exact ⟨⟨_, _, _, hh, by decide⟩, q0.wr.not hh (by decide)⟩)).lower qb).mono qh).mono hg.size
 have hbd := h.bd i
 have n1 := q0.n1
 have n2 := q0.n2
 have o3 : u'.ownsRow base 68 5 (.slice (some ⟨G, 0, none⟩) n c) n (cellsV ts ms) := by
  have := h.own.kept hg (.inr (fun e => r.not hG (by decide) e.symm))
  rwa [hl] at this
 refine ⟨(o3.cellAt (i * 5 + 3) (by omega)).trans (cellsV_at ts ms i 3 h.len hi' (by omega)), o3.frozenAt _, ts.set i ⟨(ts.getD i tk0).xid, (ts.getD i tk0).begun, (ts.getD i tk0).ended, (ts.getD i tk0).all, (ts.getD i tk0).rs ++ [(s1, s2)], (ts.getD i tk0).ws, (ts.getD i tk0).inn, (ts.getD i tk0).out⟩, by simp, put14 (m' := ⟨y', (ms.getD i mt0).X, (ms.getD i mt0).z, (ms.getD i mt0).Y⟩) h.len hl o3 (fun j hj => ?_) (by omega) (by omega) rfl (fun j => ?_)⟩
 · rw [getD_set' _ _ _ _ _ (by have := h.len; omega), getD_set' _ _ _ _ _ (by omega)]
   by_cases e : j = i
   · subst e
     rw [if_pos rfl, if_pos rfl]
     refine ⟨base, u'.heap.size, ?_, wq, ?_, by dsimp only; omega⟩
     · dsimp only
       rw [fl2_app, List.length_append, List.length_singleton]
       exact p
     · dsimp only
       rw [List.length_append, List.length_singleton]; omega
   · rw [if_neg e, if_neg e]
     obtain ⟨qj, _, _⟩ := h.rows j hj
     have hk : ∀ k, (ms.getD i mt0).y.ownBlock = some k → k < L j ∨ H j ≤ k := fun k hk => h.other hi' hj e (by have := r.lt hk; omega)
     refine ⟨L j, H j, qj.rd.grown hg (fun k hh => ⟨ty k hh, fun e => ?_⟩), qj.wr.grown hg (fun k hh => ⟨ty k hh, fun e => ?_⟩), by have := qj.n1; omega, by have := qj.n2; omega⟩
     · have := qj.rd.lt e; have := hk k hh; omega
     · have := qj.wr.lt e; have := hk k hh; omega
 · by_cases hj : j < ts.length
   · rw [getD_set' _ _ _ _ _ (by omega)]
     split
     · exact hbd
     · exact h.bd j
   · have e : (ts.set i ⟨(ts.getD i tk0).xid, (ts.getD i tk0).begun, (ts.getD i tk0).ended, (ts.getD i tk0).all, (ts.getD i tk0).rs ++ [(s1, s2)], (ts.getD i tk0).ws, (ts.getD i tk0).inn, (ts.getD i tk0).out⟩).getD j tk0 = tk0 := by simp [List.getD, List.getElem?_eq_none (show (ts.set i _).length ≤ j by simp; omega)]
     rw [e]; simp [bdT1, tk0]
theorem DdM.write {G n c : Nat} (h : DdM u base u.heap.size (.slice (some ⟨G, 0, none⟩) n c) ts ms L H) (hl : ts.length = n) {i : Nat} (hi' : i < ts.length) : ∃ xs : List Value, u.ownsRow base 72 4 (ms.getD i mt0).z (ts.getD i tk0).ws.length (cellsI (ts.getD i tk0).ws xs) ∧ ∀ {u' : World} {z' : Value} {s : Im} {v1 : Value}, Dit u s.K s.N s.F v1 s.Z → u'.ownsRow base 72 4 z' ((ts.getD i tk0).ws.length + 1) (cellsI (ts.getD i tk0).ws xs ++ cellsI [s] [v1]) → u.grownBy u' (ms.getD i mt0).z.ownBlock → u'.cell? ⟨G, i * 5 + 4, none⟩ = some (ms.getD i mt0).z ∧ u'.frozen? ⟨G, i * 5 + 4, none⟩ = false ∧ ∃ ts', ts'.length = ts.length ∧ Dds (u'.setCell ⟨G, i * 5 + 4, none⟩ z') base (.slice (some ⟨G, 0, none⟩) n c) ts' := by
 obtain ⟨q0, qb, qh⟩ := h.rows i hi'
 have r := q0.wr
 obtain ⟨xs, h1, o, h2⟩ := r.own
 have o0 := owns_lower o qb
 refine ⟨xs, o0, @fun u' z' s v1 d1 o' hg => ?_⟩
 obtain ⟨_, _, _, hGb, _, cs, fz, hG⟩ := h.cells hi'
 have p := (r.lower qb).push (fs := [s]) (ys := [v1]) (by decide) h1 h2 o0 rfl rfl (fun i hi => by
  cases i with
  | zero => exact d1
  | succ i => simp at hi) o' hg
 have ty : ∀ k, (ms.getD i mt0).z.ownBlock = some k → ∃ cs t fz, u.heap[k]? = some (.cells cs t fz) ∧ t ≠ 5 := fun k hk => by
  obtain ⟨cs, fz, hh⟩ := r.ty hk
  exact ⟨_, _, _, hh, by decide⟩
 have wq := (((q0.rd.grown hg (fun k hk => by
  obtain ⟨cs, fz, hh⟩ := r.ty hk
  exact ⟨⟨_, _, _, hh, by decide⟩, q0.rd.not hh (by decide)⟩)).lower qb).mono qh).mono hg.size
 have hbd := h.bd i
 have n1 := q0.n1
 have n2 := q0.n2
 have o3 : u'.ownsRow base 68 5 (.slice (some ⟨G, 0, none⟩) n c) n (cellsV ts ms) := by
  have := h.own.kept hg (.inr (fun e => r.not hG (by decide) e.symm))
  rwa [hl] at this
 refine ⟨(o3.cellAt (i * 5 + 4) (by omega)).trans (cellsV_at ts ms i 4 h.len hi' (by omega)), o3.frozenAt _, ts.set i ⟨(ts.getD i tk0).xid, (ts.getD i tk0).begun, (ts.getD i tk0).ended, (ts.getD i tk0).all, (ts.getD i tk0).rs, (ts.getD i tk0).ws ++ [s], (ts.getD i tk0).inn, (ts.getD i tk0).out⟩, by simp, put14 (m' := ⟨(ms.getD i mt0).y, (ms.getD i mt0).X, z', (ms.getD i mt0).Y⟩) h.len hl o3 (fun j hj => ?_) (by omega) (by omega) rfl (fun j => ?_)⟩
 · rw [getD_set' _ _ _ _ _ (by have := h.len; omega), getD_set' _ _ _ _ _ (by omega)]
   by_cases e : j = i
   · subst e
     rw [if_pos rfl, if_pos rfl]
     refine ⟨base, u'.heap.size, wq, ?_, by dsimp only; omega, ?_⟩
     · dsimp only
       rw [List.length_append, List.length_singleton]
       exact p
     · dsimp only
       rw [List.length_append, List.length_singleton]; omega
   · rw [if_neg e, if_neg e]
     obtain ⟨qj, _, _⟩ := h.rows j hj
     have hk : ∀ k, (ms.getD i mt0).z.ownBlock = some k → k < L j ∨ H j ≤ k := fun k hk => h.other hi' hj e (by have := r.lt hk; omega)
     refine ⟨L j, H j, qj.rd.grown hg (fun k hh => ⟨ty k hh, fun e => ?_⟩), qj.wr.grown hg (fun k hh => ⟨ty k hh, fun e => ?_⟩), by have := qj.n1; omega, by have := qj.n2; omega⟩
     · have := qj.rd.lt e; have := hk k hh; omega
     · have := qj.wr.lt e; have := hk k hh; omega
 · by_cases hj : j < ts.length
   · rw [getD_set' _ _ _ _ _ (by omega)]
     split
     · exact hbd
     · exact h.bd j
   · have e : (ts.set i ⟨(ts.getD i tk0).xid, (ts.getD i tk0).begun, (ts.getD i tk0).ended, (ts.getD i tk0).all, (ts.getD i tk0).rs, (ts.getD i tk0).ws ++ [s], (ts.getD i tk0).inn, (ts.getD i tk0).out⟩).getD j tk0 = tk0 := by simp [List.getD, List.getElem?_eq_none (show (ts.set i _).length ≤ j by simp; omega)]
     rw [e]; simp [bdT1, tk0]
end
end Go.Proofs.YtjcjoabblafboaaGreat
