/- Texts of this proof in one: Ne11 Ob11 Nf11. -/
import Derived.Test.YtlkoghdajpbffaaGreatMgo
import Derived.Test.YtlkoghdajpbffaaGreatMb11
/- A list without one of its entries; whether a step is behind an entry. Conditions: at most four entries, texts of at most 2^21 bytes. -/

namespace Go.Proofs.YtlkoghdajpbffaaGreat
open Go.RowKit
set_option maxRecDepth 100000
theorem row_one {w : World} {x : Value} {Z : List Int} (h : Row w x Z) : x.oneCell' = true := by
 obtain ⟨a, c, rfl, _⟩ := h
 rfl
end Go.Proofs.YtlkoghdajpbffaaGreat
/- Entries, numbers and nodes of the call's own, told by the types of their blocks: they stay where blocks of other types turn. No statement of its own; no conditions. -/


namespace Go.Proofs.YtlkoghdajpbffaaGreat
open Go.RowKit
set_option maxRecDepth 100000
def NTy (w : World) (k : Nat) : Prop := ∃ cs t fz, w.heap[k]? = some (.cells cs t fz) ∧ (t = 61 ∨ t = 33)
def KN (w w' : World) : Prop := Kept (NTy w) w w'
theorem KN.trans {a b c : World} (h : KN a b) (k : KN b c) : KN a c := by
 refine Kept.trans h k (fun i hi hx => ?_)
 by_cases hn : NTy a i
 · exact hn
 · obtain ⟨cs, t, fz, e, ht⟩ := hx
   exact ⟨cs, t, fz, (h.block i hi hn).symm.trans e, ht⟩
theorem KN.below {w w' : World} (h : Below w.heap.size w w') : KN w w' := Kept.of_below h
theorem KN.set {w : World} {p : Addr} {cs : Array Value} {t : TypeId} {fz : Nat × Nat} (h : w.heap[p.block]? = some (.cells cs t fz)) (ht : t = 61 ∨ t = 33) (u : Value) : KN w (w.setCell p u) := Kept.set w ⟨cs, t, fz, h, ht⟩ u
theorem KN.grown {w w' : World} {row : Option Nat} (h : w.grownBy w' row) (hr : ∀ k, row = some k → NTy w k) : KN w w' := (Kept.of_grown h).mono (fun k _ e => hr k e.symm)
theorem own_KN {w w' : World} {b : Nat} {e : TypeId} {s n : Nat} {v : Value} {xs : List Value} (h : w.ownsRow b e s v n xs) (he : e ≠ 61 ∧ e ≠ 33) (k : KN w w') : w'.ownsRow b e s v n xs := by
 refine ⟨h.1, ?_⟩
 rcases h.2 with hn | ⟨g, cap, cur, rfl, hb, hg, rest⟩
 · exact .inl hn
 · refine .inr ⟨g, cap, cur, rfl, hb, (k.block g (qL hg) ?_).trans hg, rest⟩
   rintro ⟨cs, t, fz, e2, ht⟩
   rw [hg] at e2
   simp only [Option.some.injEq, Obj.cells.injEq] at e2
   rcases ht with ht | ht
   · exact he.1 (e2.2.1.trans ht)
   · exact he.2 (e2.2.1.trans ht)
structure TxR (w : World) (x : Value) (Z : List Int) : Prop where
 own : ∃ b, w.ownsRow b 5 1 x Z.length (bys Z)
 bd : ∀ i, 0 ≤ Z.getD i 0 ∧ Z.getD i 0 ≤ 255
theorem TxR.kn {w w' : World} {x : Value} {Z : List Int} (h : TxR w x Z) (k : KN w w') : TxR w' x Z := by
 obtain ⟨b, o⟩ := h.own
 exact ⟨⟨b, own_KN o ⟨by decide, by decide⟩ k⟩, h.bd⟩
theorem TxR.row {w : World} {x : Value} {Z : List Int} (h : TxR w x Z) : Row w x Z := by
 obtain ⟨b, o⟩ := h.own
 exact Row.own o h.bd
structure EnR (w : World) (b : Nat) (v : Value) (es : List En) (xs : List Value) : Prop where
 len : xs.length = es.length
 own : w.ownsRow b 48 5 v es.length (cellsE es xs)
 tx : ∀ i, i < es.length → TxR w (xs.getD i nilS) (es.getD i en0).Z ∧ (es.getD i en0).F < 18446744073709551616
theorem EnR.kn {w w' : World} {b : Nat} {v : Value} {es : List En} {xs : List Value} (h : EnR w b v es xs) (k : KN w w') : EnR w' b v es xs :=
 ⟨h.len, own_KN h.own ⟨by decide, by decide⟩ k, fun i hi => ⟨(h.tx i hi).1.kn k, (h.tx i hi).2⟩⟩
theorem EnR.rd {w : World} {b : Nat} {a : Option Addr} {n c : Nat} {es : List En} {xs : List Value} (h : EnR w b (.slice a n c) es xs) : ReadsE w a es := by
 have o := h.own
 rcases o.2 with ⟨e, h0⟩ | ⟨g, cap, cur, e, _⟩
 · cases e; exact ⟨.inl h0⟩
 · cases e
   refine ⟨.inr ⟨g, 0, rfl, fun i hi => ⟨xs.getD i nilS, ?_, (h.tx i hi).1.row, (h.tx i hi).2⟩⟩⟩
   have hc := fun j (hj : j < 5) => (o.cellAt (i * 5 + j) (by omega)).trans (cellsE_at es xs i j h.len hi hj)
   rw [Nat.zero_add]
   exact ⟨hc 0 (by omega), hc 1 (by omega), hc 2 (by omega), hc 3 (by omega), hc 4 (by omega)⟩
theorem OwnE.enr {w : World} {lo hi : Nat} {v : Value} {es : List En} (h : OwnE w lo hi v es) : ∃ xs, EnR w lo v es xs := by
 obtain ⟨xs, o, hB⟩ := h.own
 refine ⟨xs, by rw [hB.len, textsE_len], o, fun i hi => ⟨⟨⟨lo, ?_⟩, fun j => ?_⟩, h.fl i⟩⟩
 · have := hB.own i; rw [textsE_at] at this; exact this
 · have := hB.bd i j; rw [textsE_at] at this; exact this
structure InR (w : World) (v : Value) (ks : List Int) : Prop where
 own : ∃ b, w.ownsRow b 3 1 v ks.length (ins ks)
 bd : ∀ i, -9223372036854775808 ≤ ks.getD i 0 ∧ ks.getD i 0 ≤ 9223372036854775807
theorem InR.kn {w w' : World} {v : Value} {ks : List Int} (h : InR w v ks) (k : KN w w') : InR w' v ks := by
 obtain ⟨b, o⟩ := h.own
 exact ⟨⟨b, own_KN o ⟨by decide, by decide⟩ k⟩, h.bd⟩
theorem InR.rd {w : World} {a : Option Addr} {n c : Nat} {ks : List Int} (h : InR w (.slice a n c) ks) : ReadsI w a ks.length ks := by
 obtain ⟨b, o⟩ := h.own
 obtain ⟨a', c', e, r, _⟩ := ReadsI.own o h.bd
 obtain ⟨rfl, _, _⟩ := Value.slice.inj e
 exact r
structure NdR (w : World) (y : Value × Value) (d : Nd) : Prop where
 es : ∃ b xs, EnR w b y.1 d.es xs
 ks : InR w y.2 d.ks
theorem NdR.kn {w w' : World} {y : Value × Value} {d : Nd} (h : NdR w y d) (k : KN w w') : NdR w' y d := by
 obtain ⟨b, xs, h1⟩ := h.es
 exact ⟨⟨b, xs, h1.kn k⟩, h.ks.kn k⟩
structure NsR (w : World) (b : Nat) (v : Value) (ds : List Nd) (ys : List (Value × Value)) : Prop where
 len : ys.length = ds.length
 own : w.ownsRow b 61 3 v ds.length (cellsD ds ys)
 nd : ∀ i, i < ds.length → NdR w (ys.getD i nilP) (ds.getD i nd0)
theorem NsR.below {w w' : World} {b : Nat} {v : Value} {ds : List Nd} {ys : List (Value × Value)} (h : NsR w b v ds ys) (hb : Below w.heap.size w w') : NsR w' b v ds ys :=
 ⟨h.len, owns_below hb qN h.own, fun i hi => (h.nd i hi).kn (KN.below hb)⟩
theorem NsR.rd {w : World} {b : Nat} {a : Option Addr} {n c : Nat} {ds : List Nd} {ys : List (Value × Value)} (h : NsR w b (.slice a n c) ds ys) : ReadsD w a ds := by
 have o := h.own
 rcases o.2 with ⟨e, h0⟩ | ⟨g, cap, cur, e, _⟩
 · cases e; exact ⟨.inl h0⟩
 · cases e
   refine ⟨.inr ⟨g, 0, rfl, fun i hi => ?_⟩⟩
   have hc := fun j (hj : j < 3) => (o.cellAt (i * 3 + j) (by omega)).trans (cellsD_at ds ys i j h.len hi hj)
   obtain ⟨b1, xs, oE⟩ := (h.nd i hi).es
   have oK := (h.nd i hi).ks
   obtain ⟨b2, o2⟩ := oK.own
   obtain ⟨a1, c1, e1⟩ := own_sl oE.own
   obtain ⟨a2, c2, e2⟩ := own_sl o2
   have hx0 := hc 0 (by omega)
   have hx1 := hc 1 (by omega)
   have hx2 := hc 2 (by omega)
   rw [show (cellsD1 (ds.getD i nd0) (ys.getD i nilP))[1]? = some (ys.getD i nilP).1 from rfl, e1] at hx1
   rw [show (cellsD1 (ds.getD i nd0) (ys.getD i nilP))[2]? = some (ys.getD i nilP).2 from rfl, e2] at hx2
   rw [e1] at oE
   rw [e2] at oK o2
   refine ⟨a1, c1, a2, c2, ?_, ?_, ?_, oE.rd, own_max oE.own, oK.rd, own_max o2⟩
   · rw [Nat.zero_add]; exact hx0
   · rw [Nat.zero_add]; exact hx1
   · rw [Nat.zero_add]; exact hx2
theorem NsR.push {w w' : World} {b : Nat} {v v' : Value} {ds : List Nd} {ys : List (Value × Value)} (h : NsR w b v ds ys) {y : Value × Value} {d : Nd} (hn : NdR w y d) (o : w'.ownsRow b 61 3 v' (ds.length + 1) (cellsD ds ys ++ cellsD1 d y)) (hg : w.grownBy w' v.ownBlock) : NsR w' b v' (ds ++ [d]) (ys ++ [y]) := by
 have kn : KN w w' := KN.grown hg (fun k hk => by
  rcases h.own.2 with ⟨e, _⟩ | ⟨g', cp, cu, e, _, hh, _⟩
  · rw [e] at hk; cases hk
  · rw [e] at hk
    have : g' = k := by simpa [Value.ownBlock] using hk
    subst this
    exact ⟨_, _, _, hh, .inl rfl⟩)
 refine ⟨by simp [h.len], ?_, fun i hi => ?_⟩
 · rw [cellsD_app ds [d] ys [y] h.len, List.length_append, List.length_singleton, cellsD_cons, cellsD_nil, List.append_nil]
   exact o
 · rw [List.length_append, List.length_singleton] at hi
   by_cases hc : i < ds.length
   · rw [getD_app, getD_app, if_pos (by rw [h.len]; exact hc), if_pos hc]; exact (h.nd i hc).kn kn
   · rw [getD_app, getD_app, if_neg (by rw [h.len]; omega), if_neg hc, h.len, show i - ds.length = 0 by omega]
     exact hn.kn kn
end Go.Proofs.YtlkoghdajpbffaaGreat
/- Whether a step is behind an entry. Conditions: at most four entries, texts of at most 2^21 bytes. -/

namespace Go.Proofs.YtlkoghdajpbffaaGreat
open Go.RowKit
set_option maxRecDepth 100000
def nullE (x q : En) : Bool := decide (or2 (cmpE x q) (cmpZ x.id q.id) = 0)
theorem null_off {x q : En} (hx : entOk x = true) (hq : entOk q = true) : nullE x q = !offE q x := by
 have h1 := ltE_iff hx hq
 have h2 := ltE_iff hq hx
 have e : nullE x q = true ↔ (¬ ltP x q ∧ ¬ ltP q x) := by
  unfold nullE or2 cmpZ cmpE
  rw [cmpI_of11 x.K x.N q.K q.N x.F q.F x.Z.length q.Z.length x.Z q.Z (entOk_I hx) (entOk_I hq), decide_eq_true_iff]
  have ha := txt_anti11 x.Z q.Z
  unfold ltP
  rw [ha]
  unfold cmp3
  generalize txt x.Z q.Z = t
  generalize frank x.F = r
  generalize frank q.F = s
  repeat' split
  all_goals omega
 rw [Bool.eq_iff_iff, e, Bool.not_eq_true', off_no, ← h1, ← h2, Bool.not_eq_true, Bool.not_eq_true]
set_option maxHeartbeats 6400000 in
theorem impl_isBehind {w0 : World} (KQ NQ : Int) (FQ : Nat) {aq : Option Addr} {zq : Nat} (cq : Nat) (iq : Int) {ZQ : List Int} (hq : Reads w0 aq zq ZQ) (hqq : ZQ.length = zq ∧ FQ < 18446744073709551616 ∧ zq ≤ 2097152) {es : List En} {a : Option Addr} {n c : Nat} {kv : Value} {x : Int} {lf : Bool} {g : Nat} (up : Nat) {w : World} (hr : ReadsE w0 a es) (hn : es.length = n) (hn4 : n ≤ 4) (hm : ∀ j, (es.getD j en0).Z.length ≤ 2097152) (hup : up ≤ n) (hw : Below w0.heap.size w0 w) (hg : w.heap[g]? = some (.cells #[.int .i64 x, .bool lf, .slice a n c, kv] 112)) :
 Calls Tryz.prog 30 #[.agg #[.pointer (some ⟨g, 0, none⟩), .int .i64 (up : Int)], .agg #[.int .i64 KQ, .int .i64 NQ, .float .f64 FQ, .slice aq zq cq, .int .i64 iq]] w fun e w' => e = .returned (.bool (decide (0 < up) && nullE (es.getD (up - 1) en0) ⟨KQ, NQ, FQ, ZQ, iq⟩)) ∧ Below w.heap.size w w' := by
 have hst := fun w a m => run_store Tryz.prog w a (.float .f64 FQ) m rfl
 have HB := hid (two w (.cells #[.pointer (some ⟨g, 0, none⟩), .int .i64 (up : Int)] 72) (.cells #[.int .i64 KQ, .int .i64 NQ, .float .f64 FQ, .slice aq zq cq, .int .i64 iq] 48))
 have HRR := hid (two_rows11 w (.cells #[.pointer (some ⟨g, 0, none⟩), .int .i64 (up : Int)] 72) (.cells #[.int .i64 KQ, .int .i64 NQ, .float .f64 FQ, .slice aq zq cq, .int .i64 iq] 48))
 have HW := hid hw
 have HG := hid hg
 have hgl : g < w.heap.size := (qL hg)
 have HGl := hid hgl
 have HN := hid hn
 obtain ⟨RES, hres⟩ : ∃ RES, (decide (0 < up) && nullE (es.getD (up - 1) en0) ⟨KQ, NQ, FQ, ZQ, iq⟩) = RES := ⟨_, rfl⟩
 rw [hres]
 have HRes := hid hres
 clear hw hg hgl hn hres
 go_enter Tryz.func30, Tryz.ntmps30
 go_wp2_with fail
 generalize (w.alloc (.cells #[.pointer (some ⟨g, 0, none⟩), .int .i64 (up : Int)] 72)).alloc (.cells #[.int .i64 KQ, .int .i64 NQ, .float .f64 FQ, .slice aq zq cq, .int .i64 iq] 48) = V at *
 obtain ⟨p1, hp1⟩ : ∃ p1, w.heap.size + 1 = p1 := ⟨_, rfl⟩
 obtain ⟨p0, hp0⟩ : ∃ p0, w.heap.size = p0 := ⟨_, rfl⟩
 have HP := hid (And.intro hp0 hp1)
 rw [hp1] at HRR
 rw [hp0] at HRR
 try simp only [hp1]
 try simp only [hp0]
 clear hp0 hp1
 have HKp := hid (show ∀ W, Below V.heap.size V W → W.cell? ⟨p0, 0, none⟩ = some (.pointer (some ⟨g, 0, none⟩)) ∧ W.cell? ⟨p0, 1, none⟩ = some (.int .i64 (up : Int)) ∧ W.cell? ⟨p1, 0, none⟩ = some (.int .i64 KQ) ∧ W.cell? ⟨p1, 1, none⟩ = some (.int .i64 NQ) ∧ W.cell? ⟨p1, 2, none⟩ = some (.float .f64 FQ) ∧ W.cell? ⟨p1, 3, none⟩ = some (.slice aq zq cq) ∧ W.cell? ⟨p1, 4, none⟩ = some (.int .i64 iq) ∧ W.cell? ⟨g, 2, none⟩ = some (.slice a n c) from fun W b => by
  have z1 := HGl.out
  have z2 := HP.out
  have z3 := HRR.out.2.2
  have r1 : W.heap[p0]? = _ := (b.block p0 (by omega)).trans HRR.out.1
  have r2 : W.heap[p1]? = _ := (b.block p1 (by omega)).trans HRR.out.2.1
  have r3 : W.heap[g]? = _ := ((HB.out.trans (b.mono HB.out.size)).block g (by omega)).trans HG.out
  exact ⟨qC r1, qC r1, qC r2, qC r2, qC r2, qC r2, qC r2, qC r3⟩)
 have BC := hid ((Still.drew V).below V.heap.size)
 cases up with
 | zero =>
  refine region_K 99 (fun W => W.cell? ⟨p0, 0, none⟩ = some (.pointer (some ⟨g, 0, none⟩)) ∧ W.cell? ⟨p0, 1, none⟩ = some (.int .i64 ((0 : Nat) : Int))) (by kernel_rfl) ⟨(HKp.out _ BC.out).1, (HKp.out _ BC.out).2.1⟩ (fun hh => ?_)
  generalize V.drew = vd at *
  refine qT 0 rfl hh 5 rfl ?_
  refine qT 1 rfl hh 6 rfl ?_
  refine qT 2 rfl hh 7 rfl ?_
  refine qT 3 rfl hh 8 rfl ?_
  refine qK 4 rfl hh 9 rfl ?_
  refine qK 5 rfl hh 10 rfl ?_
  refine qK 6 rfl hh 11 rfl ?_
  refine qK 7 rfl hh 12 rfl ?_
  refine qK 8 rfl hh 13 rfl ?_
  refine qK 9 rfl hh 14 rfl ?_
  refine qK 10 rfl hh 15 rfl ?_
  refine qK 11 rfl hh 16 rfl ?_
  refine qK 12 rfl hh 17 rfl ?_
  refine qK 13 rfl hh 18 rfl ?_
  refine qK 14 rfl hh 19 rfl ?_
  refine qK 15 rfl hh 20 rfl ?_
  refine qK 16 rfl hh 21 rfl ?_
  refine qT 17 rfl hh 22 rfl ?_
  refine qT 18 rfl hh 4 rfl ?_
  refine anyK_done (by kernel_rfl) ?_ _
  clear hh
  go_wp2_with fail
  go_ret
  exact ⟨by rw [← HRes.out]; rfl, HB.out.trans (BC.out.mono HB.out.size)⟩
 | succ u =>
  have hul : u < es.length := by have := HN.out; omega
  obtain ⟨b, off, a1, c1, rfl, bx, rz, hfz, hmz, hF⟩ := hr.at hul
  have hz1 := hm u
  replace HRes := hid (show nullE (es.getD u en0) ⟨KQ, NQ, FQ, ZQ, iq⟩ = RES by have := HRes.out; rwa [decide_eq_true (by omega), Bool.true_and, show u + 1 - 1 = u by omega] at this)
  have HU := hid (show u < n by omega)
  obtain ⟨at1, hat⟩ : ∃ at1, u + 1 = at1 := ⟨_, rfl⟩
  rw [hat] at HKp ⊢
  have h0 : (0 : Int) < (at1 : Int) := by omega
  have h0n : 0 < at1 := by omega
  have h0d : decide (0 < at1) = true := decide_eq_true h0n
  have hwr : IntKind.i64.wrap ((at1 : Int) - 1) = (u : Int) := by
   rw [show (at1 : Int) - 1 = (u : Int) by omega]; simp [IntKind.wrap, IntKind.bits, IntKind.signed]; omega
  have hui : (u : Int) < (n : Int) := by omega
  have hu0 : (0 : Int) ≤ (u : Int) := by omega
  generalize es.getD u en0 = ee at *
  obtain ⟨K, N, F, Z, id⟩ := ee
  simp only at bx rz hz1 hF
  obtain ⟨z, hz⟩ : ∃ z, Z.length = z := ⟨_, rfl⟩
  rw [hz] at bx rz hz1
  have HZ := hid hz
  have HRz := hid rz
  have hstF := fun w a m => run_store Tryz.prog w a (.float .f64 F) m rfl
  have HBx := hid bx
  have HKq := hid (show ∀ W, Below V.heap.size V W → (W.cell? ⟨p0, 0, none⟩ = some (.pointer (some ⟨g, 0, none⟩)) ∧ W.cell? ⟨p0, 1, none⟩ = some (.int .i64 (at1 : Int))) ∧ (W.cell? ⟨p1, 0, none⟩ = some (.int .i64 KQ) ∧ W.cell? ⟨p1, 1, none⟩ = some (.int .i64 NQ) ∧ W.cell? ⟨p1, 2, none⟩ = some (.float .f64 FQ) ∧ W.cell? ⟨p1, 3, none⟩ = some (.slice aq zq cq) ∧ W.cell? ⟨p1, 4, none⟩ = some (.int .i64 iq)) ∧ (W.cell? ⟨g, 2, none⟩ = some (.slice (some ⟨b, off, none⟩) n c)) ∧ W.cell? ⟨b, off + u * 5, none⟩ = some (.int .i64 K) ∧ W.cell? ⟨b, off + u * 5 + 1, none⟩ = some (.int .i64 N) ∧ W.cell? ⟨b, off + u * 5 + 2, none⟩ = some (.float .f64 F) ∧ W.cell? ⟨b, off + u * 5 + 3, none⟩ = some (.slice a1 z c1) ∧ W.cell? ⟨b, off + u * 5 + 4, none⟩ = some (.int .i64 id) from fun W bb => by
   obtain ⟨k0, k1, k2, k3, k4, k5, k6, k7⟩ := HKp.out W bb
   obtain ⟨y0, y1, y2, y3, y4⟩ := HBx.out.below (HW.out.trans ((HB.out.trans (bb.mono HB.out.size)).mono HW.out.size)) qN
   exact ⟨⟨k0, k1⟩, ⟨k2, k3, k4, k5, k6⟩, k7, y0, y1, y2, y3, y4⟩)
  clear bx rz hz hat hmz hfz HKp hul
  refine region_K 99 (fun W => (W.cell? ⟨p0, 0, none⟩ = some (.pointer (some ⟨g, 0, none⟩)) ∧ W.cell? ⟨p0, 1, none⟩ = some (.int .i64 (at1 : Int))) ∧ (W.cell? ⟨p1, 0, none⟩ = some (.int .i64 KQ) ∧ W.cell? ⟨p1, 1, none⟩ = some (.int .i64 NQ) ∧ W.cell? ⟨p1, 2, none⟩ = some (.float .f64 FQ) ∧ W.cell? ⟨p1, 3, none⟩ = some (.slice aq zq cq) ∧ W.cell? ⟨p1, 4, none⟩ = some (.int .i64 iq)) ∧ (W.cell? ⟨g, 2, none⟩ = some (.slice (some ⟨b, off, none⟩) n c)) ∧ W.cell? ⟨b, off + u * 5, none⟩ = some (.int .i64 K) ∧ W.cell? ⟨b, off + u * 5 + 1, none⟩ = some (.int .i64 N) ∧ W.cell? ⟨b, off + u * 5 + 2, none⟩ = some (.float .f64 F) ∧ W.cell? ⟨b, off + u * 5 + 3, none⟩ = some (.slice a1 z c1) ∧ W.cell? ⟨b, off + u * 5 + 4, none⟩ = some (.int .i64 id)) (by kernel_rfl) (HKq.out _ BC.out) (fun hh => ?_)
  generalize V.drew = vd at *
  refine qT 0 rfl hh 5 rfl ?_
  refine qT 1 rfl hh 6 rfl ?_
  refine qT 2 rfl hh 7 rfl ?_
  try rw [h0d]
  refine qT 3 rfl hh 8 rfl ?_
  refine qT 4 rfl hh 9 rfl ?_
  refine qT 5 rfl hh 10 rfl ?_
  refine qT 6 rfl hh 11 rfl ?_
  refine qT 7 rfl hh 12 rfl ?_
  refine qT 8 rfl hh 13 rfl ?_
  refine qT 9 rfl hh 14 rfl ?_
  refine qT 10 rfl hh 15 rfl ?_
  refine qT 11 rfl hh 16 rfl ?_
  refine qT 12 rfl hh 17 rfl ?_
  refine qT 13 rfl hh 18 rfl ?_
  refine qT 14 rfl hh 19 rfl ?_
  refine qS 15 rfl fun KP hK => ?_
  go_simp
  have HWv := hid (HW.out.trans ((HB.out.trans (BC.out.mono HB.out.size)).mono HW.out.size))
  refine (impl_compare K N F c1 id KQ NQ FQ cq iq hF hqq.2.1 (HRz.out.below HWv.out qN) (hq.below HWv.out qN) hz1 hqq.2.2).mono ?_
  rintro e v1 ⟨rfl, b1⟩
  replace BC := hid (BC.out.trans (b1.mono BC.out.size))
  have HE := hid (show nullE ⟨K, N, F, Z, id⟩ ⟨KQ, NQ, FQ, ZQ, iq⟩ = decide (or2 (cmpI K N F z Z KQ NQ FQ zq ZQ) (cmpZ id iq) = 0) by unfold nullE cmpE; simp only [HZ.out, hqq.1])
  generalize or2 (cmpI K N F z Z KQ NQ FQ zq ZQ) (cmpZ id iq) = X at *
  clear b1 hh HWv
  go_wp2_with fail
  refine hK.out _ _ (HKq.out _ BC.out) (fun hh => ?_)
  clear hK KP
  try simp only [qP]
  refine qT 16 rfl hh 21 rfl ?_
  refine qT 17 rfl hh 22 rfl ?_
  refine qT 18 rfl hh 4 rfl ?_
  refine anyK_done (by kernel_rfl) ?_ _
  clear hh
  go_wp2_with fail
  go_ret
  exact ⟨by rw [← HRes.out, HE.out]; rfl, HB.out.trans (BC.out.mono HB.out.size)⟩
end Go.Proofs.YtlkoghdajpbffaaGreat
