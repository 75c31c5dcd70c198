/- Texts of this proof in one: Od11 Oe11 No9 Ke11. -/
import Derived.Test.YtlkoghdajpbffaaGreatMgr
import Derived.Test.YtlkoghdajpbffaaGreatMgg
import Derived.Test.YtlkoghdajpbffaaGreatMgd
import Derived.Test.YtlkoghdajpbffaaGreatMge
import Derived.Laws.Tables
import Derived.Deep.RegionHeld3
import Derived.Test.YtlkoghdajpbffaaGreatMgi
/- Whether an entry is among others, as the specification asks it. Conditions: at most 100000 entries, texts of at most 2^21 bytes. -/

namespace Go.Proofs.YtlkoghdajpbffaaGreat
open Go.RowKit
set_option maxRecDepth 100000
set_option maxHeartbeats 6400000 in
theorem spec_l11there {a : Option Addr} {n : Nat} (c : Nat) {es : List En} (KQ NQ : Int) (FQ : Nat) {aq : Option Addr} {zq : Nat} (cq : Nat) (iq : Int) {ZQ : List Int} {w : World} (hr : ReadsE w a es) (hn : es.length = n) (hn4 : n ≤ 100000) (hm : ∀ j, (es.getD j en0).Z.length ≤ 2097152) (hq : Reads w aq zq ZQ) (hqq : ZQ.length = zq ∧ FQ < 18446744073709551616 ∧ zq ≤ 2097152) :
 Calls Tryz.prog 20 #[.slice a n c, .agg #[.int .i64 KQ, .int .i64 NQ, .float .f64 FQ, .slice aq zq cq, .int .i64 iq]] w fun e w' => e = .returned (.bool (es.any (fun z => !offE ⟨KQ, NQ, FQ, ZQ, iq⟩ z))) ∧ Below w.heap.size w w' := by
 have hst := fun w a m => run_store Tryz.prog w a (.float .f64 FQ) m rfl
 have HBX := hid (Below.alloc1 w (.cells #[.int .i64 KQ, .int .i64 NQ, .float .f64 FQ, .slice aq zq cq, .int .i64 iq] 48))
 have HR0 := hid (heap_alloc_new w (.cells #[.int .i64 KQ, .int .i64 NQ, .float .f64 FQ, .slice aq zq cq, .int .i64 iq] 48))
 have HZ0 := hid (alloc_size w (.cells #[.int .i64 KQ, .int .i64 NQ, .float .f64 FQ, .slice aq zq cq, .int .i64 iq] 48))
 have HR := hid hr
 have HN := hid hn
 have HM := hid hm
 have HQ := hid hq
 have HQQ := hid hqq
 clear hr hn hm hq hqq
 go_enter Tryz.func20, Tryz.ntmps20
 go_wp2_with fail
 generalize w.alloc (.cells #[.int .i64 KQ, .int .i64 NQ, .float .f64 FQ, .slice aq zq cq, .int .i64 iq] 48) = V at *
 obtain ⟨p0, hp0⟩ : ∃ p0, w.heap.size = p0 := ⟨_, rfl⟩
 have HP := hid hp0
 rw [hp0] at HR0
 try simp only [hp0]
 clear hp0
 go_loopw [5] (fun s wr => ∃ k : Nat, k ≤ n ∧ s = .int .i64 k ∧ Hid (∀ j, j < k → offE ⟨KQ, NQ, FQ, ZQ, iq⟩ (es.getD j en0) = true) ∧ Hid (Below V.heap.size V wr)) (fun s _ => n - (intOf s).toNat)
 case atStart => exact ⟨0, Nat.zero_le _, rfl, hid (fun j hj => by omega), hid (Below.refl _ _)⟩
 case round =>
  obtain ⟨k, hk, rfl, HA, HB⟩ := hrel
  by_cases hlt : k < n
  · have hlt' : (k : Int) < (n : Int) := by omega
    have hk0 : (0 : Int) ≤ (k : Int) := by omega
    have hkl : k < es.length := by have := HN.out; omega
    obtain ⟨b, off, a1, c1, rfl, bx, rz, _, _, hF⟩ := HR.out.at hkl
    have hz1 := HM.out k
    have HOne := hid (fun (e : offE ⟨KQ, NQ, FQ, ZQ, iq⟩ (es.getD k en0) = false) => show es.any (fun z => !offE ⟨KQ, NQ, FQ, ZQ, iq⟩ z) = true from List.any_eq_true.2 ⟨es.getD k en0, by rw [List.getD_eq_getElem?_getD, List.getElem?_eq_getElem hkl]; exact List.getElem_mem hkl, by rw [e]; rfl⟩)
    have HNx := hid (fun (e : offE ⟨KQ, NQ, FQ, ZQ, iq⟩ (es.getD k en0) = true) j (hj : j < k + 1) => show offE ⟨KQ, NQ, FQ, ZQ, iq⟩ (es.getD j en0) = true from by
     by_cases hc : j < k
     · exact HA.out j hc
     · have : j = k := by omega
       subst this; exact e)
    generalize es.getD k en0 = ee at *
    obtain ⟨K, N, F, Z, id⟩ := ee
    simp only at bx rz hz1 hF
    obtain ⟨z, hz⟩ : ∃ z, Z.length = z := ⟨_, rfl⟩
    rw [hz] at bx rz hz1
    have HZ := hid hz
    have HRz := hid rz
    have HBx := hid bx
    have hstF := fun w a m => run_store Tryz.prog w a (.float .f64 F) m rfl
    have HKq := hid (show ∀ W, Below wr.heap.size wr W → (W.cell? ⟨p0, 0, none⟩ = some (.int .i64 KQ) ∧ W.cell? ⟨p0, 1, none⟩ = some (.int .i64 NQ) ∧ W.cell? ⟨p0, 2, none⟩ = some (.float .f64 FQ) ∧ W.cell? ⟨p0, 3, none⟩ = some (.slice aq zq cq) ∧ W.cell? ⟨p0, 4, none⟩ = some (.int .i64 iq)) ∧ W.cell? ⟨b, off + k * 5, none⟩ = some (.int .i64 K) ∧ W.cell? ⟨b, off + k * 5 + 1, none⟩ = some (.int .i64 N) ∧ W.cell? ⟨b, off + k * 5 + 2, none⟩ = some (.float .f64 F) ∧ W.cell? ⟨b, off + k * 5 + 3, none⟩ = some (.slice a1 z c1) ∧ W.cell? ⟨b, off + k * 5 + 4, none⟩ = some (.int .i64 id) from fun W bb => by
     have h1 := HP.out; have h2 := HZ0.out; have h3 := HB.out.size
     have r1 := (bb.block p0 (by omega)).trans ((HB.out.block p0 (by omega)).trans HR0.out)
     obtain ⟨y0, y1, y2, y3, y4⟩ := HBx.out.below (HBX.out.trans ((HB.out.trans (bb.mono HB.out.size)).mono HBX.out.size)) qN
     exact ⟨⟨qC r1, qC r1, qC r1, qC r1, qC r1⟩, y0, y1, y2, y3, y4⟩)
    have BC := hid ((Still.drew wr).below wr.heap.size)
    clear bx rz hz
    go_wp2_with fail
    refine region_K 99 (fun W => (W.cell? ⟨p0, 0, none⟩ = some (.int .i64 KQ) ∧ W.cell? ⟨p0, 1, none⟩ = some (.int .i64 NQ) ∧ W.cell? ⟨p0, 2, none⟩ = some (.float .f64 FQ) ∧ W.cell? ⟨p0, 3, none⟩ = some (.slice aq zq cq) ∧ W.cell? ⟨p0, 4, none⟩ = some (.int .i64 iq)) ∧ W.cell? ⟨b, off + k * 5, none⟩ = some (.int .i64 K) ∧ W.cell? ⟨b, off + k * 5 + 1, none⟩ = some (.int .i64 N) ∧ W.cell? ⟨b, off + k * 5 + 2, none⟩ = some (.float .f64 F) ∧ W.cell? ⟨b, off + k * 5 + 3, none⟩ = some (.slice a1 z c1) ∧ W.cell? ⟨b, off + k * 5 + 4, none⟩ = some (.int .i64 id)) (by kernel_rfl) (HKq.out _ BC.out) (fun hh => ?_)
    generalize wr.drew = vd at *
    refine qT 0 rfl hh 12 rfl ?_
    refine qT 1 rfl hh 13 rfl ?_
    refine qT 2 rfl hh 14 rfl ?_
    refine qT 3 rfl hh 15 rfl ?_
    refine qT 4 rfl hh 16 rfl ?_
    refine qS 5 rfl fun KP hK => ?_
    go_simp
    have HWv := hid (HBX.out.trans ((HB.out.trans (BC.out.mono HB.out.size)).mono HBX.out.size))
    refine (spec_less K N F c1 id KQ NQ FQ cq iq hF HQQ.out.2.1 (HRz.out.below HWv.out qN) (HQ.out.below HWv.out qN) hz1 HQQ.out.2.2).mono ?_
    rintro e v1 ⟨rfl, b1⟩
    replace BC := hid (BC.out.trans (b1.mono BC.out.size))
    have HEX1 := hid (show ltE ⟨K, N, F, Z, id⟩ ⟨KQ, NQ, FQ, ZQ, iq⟩ = ltB (cmpI K N F z Z KQ NQ FQ zq ZQ) id iq by unfold ltE cmpE; simp only [HZ.out, HQQ.out.1])
    generalize ltB (cmpI K N F z Z KQ NQ FQ zq ZQ) id iq = X1 at *
    clear b1 hh HWv
    go_wp2_with fail
    refine hK.out _ _ (HKq.out _ BC.out) (fun hh => ?_)
    clear hK KP
    try simp only [qP]
    cases X1 with
    | true =>
     refine qT 6 rfl hh 18 rfl ?_
     refine qT 7 rfl hh 19 rfl ?_
     refine qK 8 rfl hh 20 rfl ?_
     refine qK 9 rfl hh 21 rfl ?_
     refine qK 10 rfl hh 22 rfl ?_
     refine qK 11 rfl hh 23 rfl ?_
     refine qK 12 rfl hh 24 rfl ?_
     refine qK 13 rfl hh 25 rfl ?_
     refine qK 14 rfl hh 26 rfl ?_
     refine qT 15 rfl hh 27 rfl ?_
     refine anyK_done (by kernel_rfl) ?_ _
     clear hh
     have HNo := hid (HNx.out (by unfold offE; rw [HEX1.out, Bool.true_or]))
     have HB9 := hid (HB.out.trans (BC.out.mono HB.out.size))
     go_wp2_with fail
     go_roundw
     case rel => exact ⟨k + 1, by omega, by go_num, HNo, HB9⟩
     case measure => simp [intOf]; omega
    | false =>
     refine qT 6 rfl hh 18 rfl ?_
     refine qT 7 rfl hh 19 rfl ?_
     refine qT 8 rfl hh 20 rfl ?_
     refine qT 9 rfl hh 21 rfl ?_
     refine qT 10 rfl hh 22 rfl ?_
     refine qT 11 rfl hh 23 rfl ?_
     refine qT 12 rfl hh 24 rfl ?_
     refine qS 13 rfl fun KP hK => ?_
     go_simp
     have HWv := hid (HBX.out.trans ((HB.out.trans (BC.out.mono HB.out.size)).mono HBX.out.size))
     refine (spec_less KQ NQ FQ cq iq K N F c1 id HQQ.out.2.1 hF (HQ.out.below HWv.out qN) (HRz.out.below HWv.out qN) HQQ.out.2.2 hz1).mono ?_
     rintro e v2 ⟨rfl, b1⟩
     replace BC := hid (BC.out.trans (b1.mono BC.out.size))
     have HEX2 := hid (show ltE ⟨KQ, NQ, FQ, ZQ, iq⟩ ⟨K, N, F, Z, id⟩ = ltB (cmpI KQ NQ FQ zq ZQ K N F z Z) iq id by unfold ltE cmpE; simp only [HZ.out, HQQ.out.1])
     generalize ltB (cmpI KQ NQ FQ zq ZQ K N F z Z) iq id = X2 at *
     clear b1 hh HWv
     go_wp2_with fail
     refine hK.out _ _ (HKq.out _ BC.out) (fun hh => ?_)
     clear hK KP
     try simp only [qP]
     cases X2 with
     | true =>
      refine qT 14 rfl hh 26 rfl ?_
      refine qT 15 rfl hh 27 rfl ?_
      refine anyK_done (by kernel_rfl) ?_ _
      clear hh
      have HNo := hid (HNx.out (by unfold offE; rw [HEX2.out, Bool.or_true]))
      have HB9 := hid (HB.out.trans (BC.out.mono HB.out.size))
      go_wp2_with fail
      go_roundw
      case rel => exact ⟨k + 1, by omega, by go_num, HNo, HB9⟩
      case measure => simp [intOf]; omega
     | false =>
      refine qT 14 rfl hh 26 rfl ?_
      refine qT 15 rfl hh 27 rfl ?_
      refine anyK_done (by kernel_rfl) ?_ _
      clear hh
      have HYes := hid (HOne.out (by unfold offE; rw [HEX1.out, HEX2.out]; rfl))
      have HB9 := hid (HBX.out.trans ((HB.out.trans (BC.out.mono HB.out.size)).mono HBX.out.size))
      go_wp2_with fail
      go_ret
      exact ⟨by rw [HYes.out]; rfl, HB9.out⟩
  · have hlt' : ¬ (k : Int) < (n : Int) := by omega
    have HNo := hid (show es.any (fun z => !offE ⟨KQ, NQ, FQ, ZQ, iq⟩ z) = false from List.any_eq_false.2 (fun z hz => by
     obtain ⟨j, hj, e⟩ := List.mem_iff_getElem.1 hz
     have := HA.out j (by have := HN.out; omega)
     rw [List.getD_eq_getElem?_getD, List.getElem?_eq_getElem hj, Option.getD_some, e] at this
     rw [this]; simp))
    go_wp2_with fail
    go_ret
    exact ⟨by rw [HNo.out]; rfl, HBX.out.trans (HB.out.mono HBX.out.size)⟩
end Go.Proofs.YtlkoghdajpbffaaGreat
/- The specification's TreeDrop. Conditions: texts of at most 2^21 bytes. -/

namespace Go.Proofs.YtlkoghdajpbffaaGreat
open Go.RowKit
set_option maxRecDepth 100000
theorem NsR.other {w : World} {b : Nat} {v : Value} {ds : List Nd} {ys : List (Value × Value)} (h : NsR w b v ds ys) {p j : Nat} {cs : Array Value} {fz : Nat × Nat} (hp : w.heap[p]? = some (.cells cs 61 fz)) (hne : v.ownBlock ≠ some p) (u : Value) : NsR (w.setCell ⟨p, j, none⟩ u) b v ds ys := by
 refine ⟨h.len, ⟨h.own.1, ?_⟩, fun i hi => (h.nd i hi).kn (KN.set (p := ⟨p, j, none⟩) hp (.inl rfl) u)⟩
 rcases h.own.2 with hn | ⟨g, cap, cur, rfl, hb, hg, rest⟩
 · exact .inl hn
 · exact .inr ⟨g, cap, cur, rfl, hb, (heap_set_ne w p j g u (fun e => hne (by rw [← e]; rfl))).trans hg, rest⟩
theorem NsR.put {w : World} {b G N c : Nat} {ds : List Nd} {ys : List (Value × Value)} (h : NsR w b (.slice (some ⟨G, 0, none⟩) N c) ds ys) (hl : ds.length = N) {k : Nat} (hk : k < ds.length) {y : Value × Value} {d : Nd} (hn : NdR w y d) : NsR (((w.setCell ⟨G, k * 3, none⟩ (.bool d.leaf)).setCell ⟨G, k * 3 + 1, none⟩ y.1).setCell ⟨G, k * 3 + 2, none⟩ y.2) b (.slice (some ⟨G, 0, none⟩) N c) (ds.set k d) (ys.set k y) := by
 have ho := h.own
 rw [hl] at ho
 have S0 := ho.stored (k * 3) (.bool d.leaf)
 have S1 := S0.1.stored (k * 3 + 1) y.1
 have S2 := S1.1.stored (k * 3 + 2) y.2
 have ty : ∀ {W : World} {xs : List Value}, W.ownsRow b 61 3 (.slice (some ⟨G, 0, none⟩) N c) N xs → ∃ cs fz, W.heap[G]? = some (.cells cs 61 fz) := fun o => by
  rcases o.2 with ⟨e, _⟩ | ⟨g, cp, cu, e, _, hg, _⟩
  · cases e
  · cases e; exact ⟨_, _, hg⟩
 obtain ⟨c0, f0, t0⟩ := ty ho
 obtain ⟨c1, f1, t1⟩ := ty S0.1
 obtain ⟨c2, f2, t2⟩ := ty S1.1
 have kn := ((KN.set (p := ⟨G, k * 3, none⟩) t0 (.inl rfl) (.bool d.leaf)).trans (KN.set (p := ⟨G, k * 3 + 1, none⟩) t1 (.inl rfl) y.1)).trans (KN.set (p := ⟨G, k * 3 + 2, none⟩) t2 (.inl rfl) y.2)
 refine ⟨by simp [h.len], ?_, fun i hi => ?_⟩
 · have := S2.1
   rw [cellsD_set3 ds ys k d y h.len hk] at this
   rw [List.length_set, hl]
   exact this
 · rw [List.length_set] at hi
   rw [getD_set' ds k i d nd0 hk, getD_set' ys k i y nilP (by rw [h.len]; exact hk)]
   split
   · exact hn.kn kn
   · exact (h.nd i hi).kn kn
theorem good_pos (ns : List Nd) : ∀ (f : Nat) (x y : Int), good ns f x → y ∈ posL ns f x → formOk (ns.getD y.toNat nd0) = true
 | 0, _, _, _, hy => by simp [posL] at hy
 | f + 1, x, y, h, hy => by
  rcases pos_kid hy with e | ⟨i, hi', hy'⟩
  · rw [e]; exact h.1
  · exact good_pos ns f _ _ (h.2.2.2 _ (getD_mem11 hi')) hy'
theorem small_nodes {ns : List Nd} {root : Int} (h : treeIs ns root = true) (i : Nat) : (ns.getD i nd0).es.length ≤ 4 ∧ (ns.getD i nd0).ks.length ≤ 5 := by
 by_cases hi : i < ns.length
 · obtain ⟨hg, _, hp⟩ := treeIs_parts h
   have := good_pos ns _ _ _ hg (hp i hi)
   rw [Int.toNat_natCast] at this
   exact form_small this
 · rw [show ns.getD i nd0 = nd0 by simp [List.getD, List.getElem?_eq_none (Nat.le_of_not_lt hi)]]
   exact ⟨by simp [nd0], by simp [nd0]⟩
def BxD (w U2 : World) (p3 p6 p8 : Nat) (a b c : Obj) : Prop := ∀ W, Below U2.heap.size U2 W → W.heap[p3]? = some a ∧ W.heap[p6]? = some b ∧ W.heap[p8]? = some c ∧ Below w.heap.size w W
end Go.Proofs.YtlkoghdajpbffaaGreat
/- The contracts of the laws' toSnap, szSnap, eqSnap, toSnapS, szSnapS, eqSnapS. Conditions: lists of at most 2^21 numbers together. -/





namespace Go.Proofs.YtlkoghdajpbffaaGreat
open Go.RowKit
set_option maxRecDepth 100000
def lft9 (left : Int) (n : Nat) : Int := if left < n then -1 else left - n
theorem szIntS (ad : Option Addr) (n cap : Nat) (left : Int) (hn : n ≤ 9223372036854775807) (h0 : 0 ≤ left) (h1 : left ≤ 1048576) (w : World) :
 Calls Tryz.prog 68 #[.slice ad n cap, .int .i64 left] w fun e w' => e = .returned (.int .i64 (lft9 left n)) ∧ w' = w := by
 unfold lft9
 have a1 : (0 : Int) ≤ (n : Int) := by omega
 have a2 : (n : Int) ≤ 9223372036854775807 := by omega
 by_cases h : left < n
 · rw [if_pos h]
   have q : left - (n : Int) < 0 := by omega
   go_enter Tryz.func68, Tryz.ntmps68
   go_wp2
   go_ret
   exact ⟨rfl, rfl⟩
 · rw [if_neg h]
   have q : ¬ left - (n : Int) < 0 := by omega
   go_enter Tryz.func68, Tryz.ntmps68
   go_wp2
   go_ret
   exact ⟨rfl, rfl⟩
end Go.Proofs.YtlkoghdajpbffaaGreat
/- The contracts of the laws' toNode, szNode, eqNode. Conditions: nodes of at most 2^21 bytes, entries and kids together. -/


namespace Go.Proofs.YtlkoghdajpbffaaGreat
open Go.RowKit
set_option maxRecDepth 100000
theorem Tryz.infoNd : (Tryz.prog.info? 61).map (fun i => (i.zero, i.size, i.bytes)) = some (some (.agg #[.bool false, .slice none 0 0, .slice none 0 0]), 3, 56) := by kernel_rfl
theorem size_nd : (Tryz.prog.info? 61).map (·.size) = some 3 := by kernel_rfl
def szD (d : Nd) : Nat := d.es.length + sumE d.es + d.ks.length
set_option maxHeartbeats 3200000 in
theorem toNode (lf : Bool) {ad : Option Addr} {n : Nat} (cap : Nat) {kd : Option Addr} {m : Nat} (kc : Nat) {es : List En} {ks : List Int} {w : World} (h : ReadsE w ad es) (hk : ReadsI w kd m ks) (hl : es.length = n) (hm : ks.length = m) (hn : n ≤ 2097152) (hs : sumE es ≤ 2097152) (hmm : m ≤ 2097152) :
 Calls Tryz.prog 46 #[.agg #[.bool lf, .slice ad n cap, .slice kd m kc]] w fun e w' => ∃ g1 g2, e = .returned (.agg #[.bool lf, .slice (some ⟨g1, 0, none⟩) n n, .slice (some ⟨g2, 0, none⟩) m m]) ∧ OwnD1 w' w.heap.size w'.heap.size (.slice (some ⟨g1, 0, none⟩) n n, .slice (some ⟨g2, 0, none⟩) m m) ⟨lf, es, ks⟩ ∧ Below w.heap.size w w' := by
 obtain ⟨z3, r1, r2, b3⟩ := three w (.cells #[.bool lf, .slice ad n cap, .slice kd m kc] 86) (.cells #[.bool false, .slice none 0 0, .slice none 0 0] 61) (.cells #[.bool lf, .slice none 0 0, .slice none 0 0] 61)
 have r0 := three_first w (.cells #[.bool lf, .slice ad n cap, .slice kd m kc] 86) (.cells #[.bool false, .slice none 0 0, .slice none 0 0] 61) (.cells #[.bool lf, .slice none 0 0, .slice none 0 0] 61)
 have H0 := hid r0
 have H1 := hid r1
 have H2 := hid r2
 have HB := hid b3
 have HZ := hid z3
 have HE := hid (h.below b3 qN)
 have HK0 := hid hk
 have HKB := hid hk.bd
 clear r0 r1 r2 b3 z3 h hk
 go_enter Tryz.func46, Tryz.ntmps46
 go_wp2_with fail
 generalize (((w.alloc (.cells #[.bool lf, .slice ad n cap, .slice kd m kc] 86)).alloc (.cells #[.bool false, .slice none 0 0, .slice none 0 0] 61)).alloc (.cells #[.bool lf, .slice none 0 0, .slice none 0 0] 61)) = X at *
 refine (toEntryS cap HE.out hl hn hs).mono ?_
 rintro e w1 ⟨rfl, oE, b⟩
 have z := HZ.out
 have bs := b.size
 have t0 := (b.block w.heap.size (by omega)).trans H0.out
 have t1 := (b.block (w.heap.size + 1) (by omega)).trans H1.out
 have t2 := (b.block (w.heap.size + 1 + 1) (by omega)).trans H2.out
 have d1 : w1.cell? ⟨(w.heap.size + 1 + 1), 1, none⟩ = some (.slice none 0 0) := qC t2
 have f1 : w1.frozen? ⟨(w.heap.size + 1 + 1), 1, none⟩ = false := frozen_of_row _ _ _ _ _ t2
 have v2 := heap_setCell_same w1 (w.heap.size + 1 + 1) 1 _ 61 (.slice (some ⟨X.heap.size, 0, none⟩) n n) t2
 have v1 := (heap_setCell_other w1 ⟨(w.heap.size + 1 + 1), 1, none⟩ (w.heap.size + 1) (.slice (some ⟨X.heap.size, 0, none⟩) n n) (by simp)).trans t1
 have v0 := (heap_setCell_other w1 ⟨(w.heap.size + 1 + 1), 1, none⟩ w.heap.size (.slice (some ⟨X.heap.size, 0, none⟩) n n) (by simp; omega)).trans t0
 have c2 : (w1.setCell ⟨(w.heap.size + 1 + 1), 1, none⟩ (.slice (some ⟨X.heap.size, 0, none⟩) n n)).cell? ⟨w.heap.size, 2, none⟩ = some (.slice kd m kc) := qC v0
 have c2' : w1.cell? ⟨w.heap.size, 2, none⟩ = some (.slice kd m kc) := qC t0
 have bU := (HB.out.trans (b.mono (by omega))).setCell (p := ⟨(w.heap.size + 1 + 1), 1, none⟩) (by simp; omega) (.slice (some ⟨X.heap.size, 0, none⟩) n n)
 have gU := grown_set11 w1 (w.heap.size + 1 + 1) 1 (.slice (some ⟨X.heap.size, 0, none⟩) n n)
 have zU : (w1.setCell ⟨(w.heap.size + 1 + 1), 1, none⟩ (.slice (some ⟨X.heap.size, 0, none⟩) n n)).heap.size = w1.heap.size := set_size _ _ _
 have OE := hid (show OwnE (w1.setCell ⟨(w.heap.size + 1 + 1), 1, none⟩ (.slice (some ⟨X.heap.size, 0, none⟩) n n)) X.heap.size w1.heap.size (.slice (some ⟨X.heap.size, 0, none⟩) n n) es from oE.agree (fun k k1 k2 => gU.block k k2 (by simp; omega)))
 have HK1 := hid (HK0.out.below bU qN)
 have V1 := hid v1
 have V2 := hid v2
 have BU := hid bU
 have ZU := hid zU
 have ZB := hid bs
 clear t0 t1 t2 v0 v1 v2 bU gU zU oE b H0 H1 H2 HB z bs
 go_wp2_with fail
 clear d1 f1 c2 c2'
 generalize w1.setCell ⟨(w.heap.size + 1 + 1), 1, none⟩ (.slice (some ⟨X.heap.size, 0, none⟩) n n) = U at *
 refine (toIntS_any kc HK1.out hmm).mono ?_
 rintro e w2 ⟨rfl, oK, b⟩
 have bs2 := b.size
 have zu := ZU.out
 have z := HZ.out
 have bs := ZB.out
 have t1 := (b.block (w.heap.size + 1) (by omega)).trans V1.out
 have t2 := (b.block (w.heap.size + 1 + 1) (by omega)).trans V2.out
 have d2 : w2.cell? ⟨(w.heap.size + 1 + 1), 2, none⟩ = some (.slice none 0 0) := qC t2
 have f2 : w2.frozen? ⟨(w.heap.size + 1 + 1), 2, none⟩ = false := frozen_of_row _ _ _ _ _ t2
 have y2 := heap_setCell_same w2 (w.heap.size + 1 + 1) 2 _ 61 (.slice (some ⟨U.heap.size, 0, none⟩) m m) t2
 have y1 := (heap_setCell_other w2 ⟨(w.heap.size + 1 + 1), 2, none⟩ (w.heap.size + 1) (.slice (some ⟨U.heap.size, 0, none⟩) m m) (by simp)).trans t1
 have gA := grown_set11 w2 (w.heap.size + 1 + 1) 2 (.slice (some ⟨U.heap.size, 0, none⟩) m m)
 have gB := row_grown11 (w2.setCell ⟨(w.heap.size + 1 + 1), 2, none⟩ (.slice (some ⟨U.heap.size, 0, none⟩) m m)) (w.heap.size + 1) #[.bool lf, .slice (some ⟨X.heap.size, 0, none⟩) n n, .slice (some ⟨U.heap.size, 0, none⟩) m m]
 have B4 := hid (below_setRow ((BU.out.trans (b.mono (by omega))).setCell (p := ⟨(w.heap.size + 1 + 1), 2, none⟩) (by simp; omega) (.slice (some ⟨U.heap.size, 0, none⟩) m m)) (show w.heap.size ≤ (w.heap.size + 1) by omega) #[.bool lf, .slice (some ⟨X.heap.size, 0, none⟩) n n, .slice (some ⟨U.heap.size, 0, none⟩) m m])
 have OE2 := hid ((OE.out.agree (w' := (w2.setCell ⟨(w.heap.size + 1 + 1), 2, none⟩ (.slice (some ⟨U.heap.size, 0, none⟩) m m)).setRow (w.heap.size + 1) #[.bool lf, .slice (some ⟨X.heap.size, 0, none⟩) n n, .slice (some ⟨U.heap.size, 0, none⟩) m m]) (fun k k1 k2 => by
  rw [gB.block k (by rw [set_size]; omega) (by simp; omega), gA.block k (by omega) (by simp; omega), b.block k (by omega)])).mono (lo' := w.heap.size) (by omega) qN)
 have OK2 := hid ((oK.kept gA (.inr (by simp [Value.ownBlock]; omega))).kept gB (.inr (by simp [Value.ownBlock]; omega)))
 have HSZ := hid (show w.heap.size ≤ w1.heap.size ∧ w1.heap.size = U.heap.size ∧ U.heap.size < ((w2.setCell ⟨(w.heap.size + 1 + 1), 2, none⟩ (.slice (some ⟨U.heap.size, 0, none⟩) m m)).setRow (w.heap.size + 1) #[.bool lf, .slice (some ⟨X.heap.size, 0, none⟩) n n, .slice (some ⟨U.heap.size, 0, none⟩) m m]).heap.size by
  have h1 := (oK.lt U.heap.size rfl).2
  have h2 := gA.size
  have h3 := gB.size
  omega)
 have Y1 := hid y1
 have Y2 := hid y2
 clear t1 t2 y1 y2 gA gB oK b bs2 zu z bs V1 V2 OE BU ZU
 go_wp2_with (first
  | (refine wpList_load_row rfl 61 (.tmp 3) rfl (w.heap.size + 1 + 1) rfl 61 _ (0, 0) _ Y2.out Tryz.underlying61 rfl size_nd ?_)
  | (refine wpList_store_row rfl 61 (.tmp 2) (.tmp 15) rfl (w.heap.size + 1) #[.bool lf, .slice (some ⟨X.heap.size, 0, none⟩) n n, .slice (some ⟨U.heap.size, 0, none⟩) m m] rfl rfl 61 _ Y1.out ?s7 ?s8 ?s9 ?_))
 case s7 => exact size_nd
 case s8 => rfl
 case s9 => simp [Value.oneCell']
 have hsz := HSZ.out
 refine bodyPost_ret (results_cell_row Tryz.results46 _ _ (w.heap.size + 1) 61 _ (0, 0) _ rfl (setRow_heap _ _ _ _ _ _ Y1.out) Tryz.underlying61 rfl size_nd) rfl ⟨X.heap.size, U.heap.size, rfl, ⟨w1.heap.size, hsz.1, by omega, OE2.out, ?_⟩, B4.out⟩
 refine ⟨?_, fun g hg => ?_, HKB.out⟩
 · rw [hsz.2.1, hm]; exact OK2.out
 · have : g = U.heap.size := by simpa [Value.ownBlock] using hg.symm
   omega
set_option maxHeartbeats 1600000 in
theorem szNode (lf : Bool) {ad : Option Addr} {n : Nat} (cap : Nat) (kd : Option Addr) (m kc : Nat) {es : List En} {w : World} (h : ReadsE w ad es) (hl : es.length = n) (hn : n ≤ 9223372036854775807) (hmm : m ≤ 9223372036854775807) (left : Int) (h0 : 0 ≤ left) (h1 : left ≤ 1048576) :
 Calls Tryz.prog 39 #[.agg #[.bool lf, .slice ad n cap, .slice kd m kc], .int .i64 left] w fun e w' => e = .returned (.int .i64 (lft11 left (n + sumE es + m))) ∧ Below w.heap.size w w' := by
 have hB := Below.alloc1 w (.cells #[.bool lf, .slice ad n cap, .slice kd m kc] 86)
 have R0 := hid (heap_alloc_new w (.cells #[.bool lf, .slice ad n cap, .slice kd m kc] 86))
 have H1 := hid (h.below hB qN)
 have HB := hid hB
 have HZ := hid (alloc_size w (.cells #[.bool lf, .slice ad n cap, .slice kd m kc] 86))
 obtain ⟨M, hM⟩ : ∃ M : Int, lft11 left (n + sumE es) = M := ⟨_, rfl⟩
 have hM0 : (M = -1 ∧ left < (n + sumE es : Nat)) ∨ (0 ≤ M ∧ M ≤ 1048576 ∧ M = left - (n + sumE es : Nat)) := by
  unfold lft11 at hM
  by_cases hh : left < (n + sumE es : Nat)
  · rw [if_pos hh] at hM; exact .inl ⟨hM.symm, hh⟩
  · rw [if_neg hh] at hM; exact .inr ⟨by omega, by omega, hM.symm⟩
 have HM := hid hM
 have HM0 := hid hM0
 clear hM hM0 hB h
 go_enter Tryz.func39, Tryz.ntmps39
 go_wp2_with fail
 refine (szEntryS cap H1.out hl hn left h0 h1).mono ?_
 rintro e w1 ⟨rfl, b⟩
 rw [HM.out]
 have hz := HZ.out
 have c2 : w1.cell? ⟨w.heap.size, 2, none⟩ = some (.slice kd m kc) := by rw [cell_of_row _ _ _ _ _ _ ((b.block w.heap.size (by omega)).trans R0.out)]; rfl
 replace HB := hid (HB.out.trans (b.mono HB.out.size))
 clear b hz
 rcases HM0.out with ⟨rfl, hq⟩ | ⟨hq0, hq1, hq2⟩
 · go_wp2_with fail
   go_ret
   exact ⟨by unfold lft11; rw [if_pos (by omega)]; rfl, HB.out⟩
 · have hq3 : ¬ M < 0 := by omega
   have HQ2 := hid hq2
   clear hq2
   go_wp2_with fail
   refine (szIntS kd m kc M hmm hq0 hq1 w1).mono ?_
   rintro e w2 ⟨rfl, e1⟩
   subst e1
   obtain ⟨Y, hY⟩ : ∃ Y : Int, lft9 M m = Y := ⟨_, rfl⟩
   rw [hY]
   have HY := hid hY
   have HG := hid (show lft11 left (n + sumE es + m) = Y by
    rw [← hY]
    have := HQ2.out
    unfold lft11 lft9
    by_cases hh : M < m
    · rw [if_pos (by omega), if_pos hh]
    · rw [if_neg (by omega), if_neg hh]; omega)
   have hY0 : Y < 0 → Y = -1 := by unfold lft9 at hY; split at hY <;> omega
   have HY0 := hid hY0
   clear hY hY0 c2
   by_cases hq : Y < 0
   · go_wp2_with fail
     go_ret
     exact ⟨by rw [HG.out, HY0.out hq]; rfl, HB.out⟩
   · go_wp2_with fail
     go_ret
     exact ⟨by rw [HG.out]; rfl, HB.out⟩
set_option maxHeartbeats 3200000 in
theorem eqNode (lf : Bool) {ad bd : Option Addr} {n : Nat} (cap cp : Nat) {kd ld : Option Addr} {m : Nat} (kc lc : Nat) {es : List En} {ks : List Int} {w : World} (h : ReadsE w ad es) (h' : ReadsE w bd es) (hk : ReadsI w kd m ks) (hk' : ReadsI w ld m ks) (hl : es.length = n) (hn : n ≤ 2097152) (hs : sumE es ≤ 2097152) (hmm : m ≤ 2097152) :
 Calls Tryz.prog 62 #[.agg #[.bool lf, .slice ad n cap, .slice kd m kc], .agg #[.bool lf, .slice bd n cp, .slice ld m lc]] w fun e w' => e = .returned (.bool true) ∧ Below w.heap.size w w' := by
 have hB := two w (.cells #[.bool lf, .slice ad n cap, .slice kd m kc] 61) (.cells #[.bool lf, .slice bd n cp, .slice ld m lc] 61)
 obtain ⟨R1, R2, z⟩ := two_rows11 w (.cells #[.bool lf, .slice ad n cap, .slice kd m kc] 61) (.cells #[.bool lf, .slice bd n cp, .slice ld m lc] 61)
 have H1 := hid (h.below hB qN)
 have H2 := hid (h'.below hB qN)
 have K1 := hid (hk.below hB qN)
 have K2 := hid (hk'.below hB qN)
 have HB := hid hB
 have HR1 := hid R1
 have HR2 := hid R2
 have HZ := hid z
 have q0 : (lf != lf) = false := by simp
 clear hB R1 R2 z h h' hk hk'
 go_enter Tryz.func62, Tryz.ntmps62
 go_wp2_with fail
 refine (eqEntryS cap cp H1.out H2.out hl hn hs).mono ?_
 rintro e w2 ⟨rfl, b⟩
 have hz := HZ.out
 have c1 : w2.cell? ⟨w.heap.size, 2, none⟩ = some (.slice kd m kc) := by rw [cell_of_row _ _ _ _ _ _ ((b.block w.heap.size (by omega)).trans HR1.out)]; rfl
 have c2 : w2.cell? ⟨w.heap.size + 1, 2, none⟩ = some (.slice ld m lc) := by rw [cell_of_row _ _ _ _ _ _ ((b.block (w.heap.size + 1) (by omega)).trans HR2.out)]; rfl
 replace HB := hid (HB.out.trans (b.mono HB.out.size))
 replace K1 := hid (K1.out.below b qN)
 replace K2 := hid (K2.out.below b qN)
 clear b hz
 go_wp2_with fail
 refine (eqIntS_any kc lc K1.out K2.out hmm).mono ?_
 rintro e w3 ⟨rfl, st⟩
 replace HB := hid (HB.out.trans (st.below _))
 clear st c1 c2
 go_wp2_with fail
 go_ret
 exact ⟨rfl, HB.out⟩
end Go.Proofs.YtlkoghdajpbffaaGreat
