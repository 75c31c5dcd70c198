/- The program's TreeDrop. Conditions: texts of at most 2^21 bytes. -/
import Derived.Test.YtphmlndkjgldkaaNj11
namespace Go.Proofs.Ytphmlndkjgldkaa
open Go.RowKit
set_option maxRecDepth 100000
theorem results_cell_tmp11 {P : Program} {fn : Func} {p q : Tmp} {ty : TypeId} (h : fn.results = #[.cell p ty, .tmp q]) (tmps : Array Value) (w : World) (g : Nat) (t : TypeId) (cs : Array Value) (fr : Nat × Nat) (d : TypeDesc)
 (hp : tmps.getD p undef = .pointer (some ⟨g, 0, none⟩)) (hg : w.heap[g]? = some (.cells cs t fr))
 (hu : P.underlying ty = some d) (hd : (match d with | .struct _ | .array _ _ => true | _ => false) = true) (hi : (P.info? ty).map (·.size) = some cs.size) :
 (results fn tmps).run P w = .ok (.tuple #[.agg cs, tmps.getD q undef]) w := by
 have hp' : tmps[p]?.getD undef = .pointer (some ⟨g, 0, none⟩) := by simpa using hp
 simp [results, h, hp', asAddr, run_loadVar_row w g t ty cs fr d hg hu hd hi]
def dropT (ns : List Nd) (root : Int) (q : En) : List Nd × Int × Bool := if (treeIs ns root && (entOk q && isAt ns root q)) = true then (dropN ns q, root, true) else ([], 0, false)
theorem dropT_no {ns : List Nd} {root : Int} {q : En} (h : (treeIs ns root && (entOk q && isAt ns root q)) = false) : dropT ns root q = ([], 0, false) := by unfold dropT; rw [if_neg (by rw [h]; simp)]
theorem three11 (w : World) (a b c : Obj) : ((w.alloc a).alloc b |>.alloc c).heap[w.heap.size]? = some a ∧ ((w.alloc a).alloc b |>.alloc c).heap[w.heap.size + 1]? = some b ∧ ((w.alloc a).alloc b |>.alloc c).heap[w.heap.size + 1 + 1]? = some c ∧ ((w.alloc a).alloc b |>.alloc c).heap.size = w.heap.size + 3 ∧ Below w.heap.size w ((w.alloc a).alloc b |>.alloc c) := by
 obtain ⟨h1, h2, h3⟩ := two_rows11 w a b
 have hb := two w a b
 have hc := Below.alloc1 ((w.alloc a).alloc b) c
 have hn := heap_alloc_new ((w.alloc a).alloc b) c
 have hz := alloc_size ((w.alloc a).alloc b) c
 rw [h3] at hn
 exact ⟨(hc.block _ (by omega)).trans h1, (hc.block _ (by omega)).trans h2, hn, by omega, hb.trans (hc.mono hb.size)⟩
theorem treeIs_len {ns : List Nd} {root : Int} (h : treeIs ns root = true) : ns.length ≤ 300 := by
 unfold treeIs at h
 rw [Bool.and_eq_true] at h
 exact (of_decide_eq_true h.1).2
theorem isAt_null {ns : List Nd} {root : Int} {q : En} (h : treeIs ns root = true) (hq : entOk q = true) : isAt ns root q = (decide (0 < upsB (ns.getD (leafW ns (ns.length + 1) root q).toNat nd0).es q) && nullE ((ns.getD (leafW ns (ns.length + 1) root q).toNat nd0).es.getD (upsB (ns.getD (leafW ns (ns.length + 1) root q).toNat nd0).es q - 1) en0) q) := by
 obtain ⟨hg, -, -⟩ := treeIs_parts h
 obtain ⟨-, -, l3, l4⟩ := leafW_pos ns q _ _ hg
 obtain ⟨lo, hi, hn⟩ := node_ok h (i := (leafW ns (ns.length + 1) root q).toNat) (by omega)
 have hle := upsB_le (ns.getD (leafW ns (ns.length + 1) root q).toNat nd0).es q
 unfold isAt
 dsimp only
 by_cases h0 : 0 < upsB (ns.getD (leafW ns (ns.length + 1) root q).toNat nd0).es q
 · rw [decide_eq_true h0, Bool.true_and, Bool.true_and, null_off (ento_at hn (by omega)).1 hq]
 · rw [decide_eq_false h0, Bool.false_and, Bool.false_and]
theorem form_small {d : Nd} (h : formOk d = true) : d.es.length ≤ 4 ∧ d.ks.length ≤ 5 := by
 cases hl : d.leaf with
 | true => have := form_leaf h hl; omega
 | false => have := form_kids h hl; omega
theorem erase_get {es : List En} (k j : Nat) : (es.eraseIdx k).getD j en0 = es.getD j en0 ∨ (es.eraseIdx k).getD j en0 = es.getD (j + 1) en0 := by
 by_cases h : j < k
 · left; simp [List.getD, List.getElem?_eraseIdx, h]
 · right; simp [List.getD, List.getElem?_eraseIdx, h]
set_option maxHeartbeats 12800000 in
theorem impl_TreeDrop {ad : Option Addr} {N : Nat} (cap : Nat) (root : Int) {ns : List Nd} (KQ NQ : Int) (FQ : Nat) {aq : Option Addr} {zq : Nat} (cq : Nat) (iq : Int) {ZQ : List Int} {w : World} (hR : ReadsD w ad ns) (hns : ns.length = N) (hm : ∀ i j, ((ns.getD i nd0).es.getD j en0).Z.length ≤ 2097152) (hcap : CapD w ad N) (hq : Reads w aq zq ZQ) (hqq : ZQ.length = zq ∧ FQ < 18446744073709551616 ∧ zq ≤ 2097152) :
 Calls Try.prog 16 #[.agg #[.slice ad N cap, .int .i64 root], .agg #[.int .i64 KQ, .int .i64 NQ, .float .f64 FQ, .slice aq zq cq], .int .i64 iq] w fun e w' => ∃ v, e = .returned (.tuple #[.agg #[v, .int .i64 (dropT ns root ⟨KQ, NQ, FQ, ZQ, iq⟩).2.1], .bool (dropT ns root ⟨KQ, NQ, FQ, ZQ, iq⟩).2.2]) ∧ OwnD w' w.heap.size w'.heap.size v (dropT ns root ⟨KQ, NQ, FQ, ZQ, iq⟩).1 ∧ Below w.heap.size w w' := by
 have hst := fun w a m => run_store Try.prog w a (.float .f64 FQ) m rfl
 have HRR := hid (three11 w (.cells #[.slice ad N cap, .int .i64 root] 26) (.cells #[.int .i64 KQ, .int .i64 NQ, .float .f64 FQ, .slice aq zq cq] 32) (.cells #[.slice none 0 0, .int .i64 0] 26))
 have HR := hid hR
 have HNs := hid hns
 have HM := hid hm
 have HCp := hid hcap
 have HQ := hid hq
 have HQQ := hid hqq
 clear hR hns hm hcap hq hqq
 go_enter Try.func16, Try.ntmps16
 go_upto_region 1 with fail
 generalize (((w.alloc (.cells #[.slice ad N cap, .int .i64 root] 26)).alloc (.cells #[.int .i64 KQ, .int .i64 NQ, .float .f64 FQ, .slice aq zq cq] 32)).alloc (.cells #[.slice none 0 0, .int .i64 0] 26)) = U at *
 obtain ⟨p6, hp6⟩ : ∃ p6, w.heap.size + 1 + 1 = p6 := ⟨_, rfl⟩
 obtain ⟨p4, hp4⟩ : ∃ p4, w.heap.size + 1 = p4 := ⟨_, rfl⟩
 obtain ⟨p3, hp3⟩ : ∃ p3, w.heap.size = p3 := ⟨_, rfl⟩
 have HPe := hid (And.intro hp3 (And.intro hp4 hp6))
 have hRR := HRR.out
 rw [hp6, hp4, hp3] at hRR
 obtain ⟨r3, r4, r6, hzU, -⟩ := hRR
 have HP := hid (show w.heap.size ≤ p3 ∧ p3 < p4 ∧ p4 < p6 ∧ p6 < U.heap.size by omega)
 have HBU := hid HRR.out.2.2.2.2
 have HR3 := hid r3
 have HR4 := hid r4
 have HR6 := hid r6
 try simp only [hp6]
 try simp only [hp4]
 try simp only [hp3]
 clear hp3 hp4 hp6 r3 r4 r6 hzU HRR
 have c0 : U.cell? ⟨p4, 0, none⟩ = some (.int .i64 KQ) := by rw [cell_of_row _ _ _ _ _ _ HR4.out]; rfl
 have c1 : U.cell? ⟨p4, 1, none⟩ = some (.int .i64 NQ) := by rw [cell_of_row _ _ _ _ _ _ HR4.out]; rfl
 have c2 : U.cell? ⟨p4, 2, none⟩ = some (.float .f64 FQ) := by rw [cell_of_row _ _ _ _ _ _ HR4.out]; rfl
 have c3 : U.cell? ⟨p4, 3, none⟩ = some (.slice aq zq cq) := by rw [cell_of_row _ _ _ _ _ _ HR4.out]; rfl
 go_upto_region 2 with fail
 clear c0 c1 c2 c3
 have HBD := hid (Below.alloc1 U (.cells #[.int .i64 KQ, .int .i64 NQ, .float .f64 FQ, .slice aq zq cq, .int .i64 iq] 35))
 have HR8 := hid (heap_alloc_new U (.cells #[.int .i64 KQ, .int .i64 NQ, .float .f64 FQ, .slice aq zq cq, .int .i64 iq] 35))
 have HZ8 := hid (alloc_size U (.cells #[.int .i64 KQ, .int .i64 NQ, .float .f64 FQ, .slice aq zq cq, .int .i64 iq] 35))
 generalize U.alloc (.cells #[.int .i64 KQ, .int .i64 NQ, .float .f64 FQ, .slice aq zq cq, .int .i64 iq] 35) = U1 at *
 obtain ⟨p8, hp8⟩ : ∃ p8, U.heap.size = p8 := ⟨_, rfl⟩
 rw [hp8] at HR8 HZ8
 have HP8 := hid hp8
 try simp only [hp8]
 clear hp8
 have HB1 := hid (HBU.out.trans (HBD.out.mono HBU.out.size))
 -- what stands in the boxes, in every later world
 have HBx := hid (show ∀ W, Below U1.heap.size U1 W → W.heap[p3]? = some (.cells #[.slice ad N cap, .int .i64 root] 26) ∧ W.heap[p6]? = some (.cells #[.slice none 0 0, .int .i64 0] 26) ∧ W.heap[p8]? = some (.cells #[.int .i64 KQ, .int .i64 NQ, .float .f64 FQ, .slice aq zq cq, .int .i64 iq] 35) ∧ Below w.heap.size w W from fun W b => by
  have h1 := HP.out; have h2 := HZ8.out; have h3 := HP8.out
  exact ⟨(b.block p3 (by omega)).trans ((HBD.out.block p3 (by omega)).trans HR3.out), (b.block p6 (by omega)).trans ((HBD.out.block p6 (by omega)).trans HR6.out), (b.block p8 (by omega)).trans HR8.out, HB1.out.trans (b.mono HB1.out.size)⟩)
 have c0 : U1.cell? ⟨p3, 0, none⟩ = some (.slice ad N cap) := by rw [cell_of_row _ _ _ _ _ _ (HBx.out U1 (Below.refl _ _)).1]; rfl
 have c1 : U1.cell? ⟨p3, 1, none⟩ = some (.int .i64 root) := by rw [cell_of_row _ _ _ _ _ _ (HBx.out U1 (Below.refl _ _)).1]; rfl
 go_wp2_with fail
 clear c0 c1
 have hcap1 : CapD U1 ad N := fun k hk b off n c a e h => by
  obtain ⟨b', off', a', c', a2, c2, e', h0, h1, _⟩ := HR.out.at (k := k) (by have := HNs.out; omega)
  rw [e] at e'
  cases e'
  have hb := World.block_lt_of_cell? w _ h1
  exact HCp.out k hk e ((HB1.out.cell (p := ⟨b, off + k * 3 + 1, none⟩) hb).symm.trans h)
 refine (impl_linkedOfT cap root (HR.out.below HB1.out (Nat.le_refl _)) HNs.out HM.out hcap1).mono ?_
 rintro e w2 ⟨hl, b2⟩
 have HB2 := hid b2
 clear b2 hcap1
 cases ht : treeIs ns root with
 | false =>
  obtain rfl := hl.1 ht
  have HNo := hid (dropT_no (ns := ns) (root := root) (q := ⟨KQ, NQ, FQ, ZQ, iq⟩) (by rw [ht]; rfl))
  have HC6 := hid (HBx.out w2 HB2.out).2.1
  have HBw := hid (HBx.out w2 HB2.out).2.2.2
  clear ht hl
  go_wp2_with (refine wpList_store_row rfl 26 (.tmp 6) _ rfl p6 #[.slice none 0 0, .int .i64 0] rfl rfl 26 _ HC6.out size_tr11 rfl (by simp [Value.oneCell']) ?_)
  exact bodyPost_ret (results_cell_tmp11 Try.results16 _ _ p6 26 #[.slice none 0 0, .int .i64 0] (0, 0) _ rfl (setRow_heap _ _ _ _ _ _ HC6.out) Try.underlying26 rfl size_tr11) rfl ⟨.slice none 0 0, by rw [HNo.out]; rfl, by rw [HNo.out]; exact OwnD.nil _ _ _, below_setRow HBw.out (by have := HP.out; omega) _⟩
 | true =>
  obtain ⟨q, rfl, hlt⟩ := hl.2 ht
  obtain ⟨r, g0, tb, lo, hi, sd, hq0, hrow, h1, h2, h3, h4, h5, hk⟩ := hlt.ex
  have HT := hid ht
  have HLen := hid (treeIs_len ht)
  have hN3 : N ≤ 300 := by have := HLen.out; have := HNs.out; omega
  have HQ0 := hid hq0
  have HRow := hid hrow
  have HK := hid hk
  have HZ := hid (show U1.heap.size ≤ r ∧ r < q ∧ q < lo ∧ hi ≤ w2.heap.size ∧ r < lo from ⟨h1, h2, h3, h4, h5⟩)
  have HR8w := hid (HBx.out w2 HB2.out).2.2.1
  have e0 : w2.cell? ⟨p8, 0, none⟩ = some (.int .i64 KQ) := by rw [cell_of_row _ _ _ _ _ _ HR8w.out]; rfl
  have e1 : w2.cell? ⟨p8, 1, none⟩ = some (.int .i64 NQ) := by rw [cell_of_row _ _ _ _ _ _ HR8w.out]; rfl
  have e2 : w2.cell? ⟨p8, 2, none⟩ = some (.float .f64 FQ) := by rw [cell_of_row _ _ _ _ _ _ HR8w.out]; rfl
  have e3 : w2.cell? ⟨p8, 3, none⟩ = some (.slice aq zq cq) := by rw [cell_of_row _ _ _ _ _ _ HR8w.out]; rfl
  have e4 : w2.cell? ⟨p8, 4, none⟩ = some (.int .i64 iq) := by rw [cell_of_row _ _ _ _ _ _ HR8w.out]; rfl
  clear ht hl hlt hq0 hrow hk h1 h2 h3 h4 h5
  go_wp2_with fail
  clear e0 e1 e2 e3 e4
  refine (impl_entry KQ NQ FQ aq zq cq iq HQQ.out.2.1 HQQ.out.2.2 w2).mono ?_
  rintro e w3 ⟨rfl, b3⟩
  have HEn := hid (show entOk ⟨KQ, NQ, FQ, ZQ, iq⟩ = entB KQ NQ FQ zq iq by unfold entOk; simp only [HQQ.out.1])
  have HB3 := hid (HB2.out.trans (b3.mono HB2.out.size))
  have HZ3 := hid b3.size
  have HK3 := hid (LkT.agree (Agree.below b3 HZ.out.2.2.2.1) _ _ _ HK.out)
  have HQ3 := hid ((b3.block q (Array.getElem?_eq_some_iff.1 HQ0.out).1).trans HQ0.out)
  have HRow3 := hid (HRow.out.agree (b3.block r (Array.getElem?_eq_some_iff.1 HRow.out.row).1))
  clear b3 HK HQ0 HRow HR8w
  cases hen : entB KQ NQ FQ zq iq with
  | false =>
   have HNo := hid (dropT_no (ns := ns) (root := root) (q := ⟨KQ, NQ, FQ, ZQ, iq⟩) (by rw [HT.out, HEn.out, hen]; rfl))
   have HC6 := hid (HBx.out w3 HB3.out).2.1
   have HBw := hid (HBx.out w3 HB3.out).2.2.2
   clear hen
   go_wp2_with (refine wpList_store_row rfl 26 (.tmp 6) _ rfl p6 #[.slice none 0 0, .int .i64 0] rfl rfl 26 _ HC6.out size_tr11 rfl (by simp [Value.oneCell']) ?_)
   exact bodyPost_ret (results_cell_tmp11 Try.results16 _ _ p6 26 #[.slice none 0 0, .int .i64 0] (0, 0) _ rfl (setRow_heap _ _ _ _ _ _ HC6.out) Try.underlying26 rfl size_tr11) rfl ⟨.slice none 0 0, by rw [HNo.out]; rfl, by rw [HNo.out]; exact OwnD.nil _ _ _, below_setRow HBw.out (by have := HP.out; omega) _⟩
  | true =>
   replace HEn := hid (HEn.out.trans hen)
   clear hen
   have HR8w := hid (HBx.out w3 HB3.out).2.2.1
   have e0 : w3.cell? ⟨p8, 0, none⟩ = some (.int .i64 KQ) := by rw [cell_of_row _ _ _ _ _ _ HR8w.out]; rfl
   have e1 : w3.cell? ⟨p8, 1, none⟩ = some (.int .i64 NQ) := by rw [cell_of_row _ _ _ _ _ _ HR8w.out]; rfl
   have e2 : w3.cell? ⟨p8, 2, none⟩ = some (.float .f64 FQ) := by rw [cell_of_row _ _ _ _ _ _ HR8w.out]; rfl
   have e3 : w3.cell? ⟨p8, 3, none⟩ = some (.slice aq zq cq) := by rw [cell_of_row _ _ _ _ _ _ HR8w.out]; rfl
   have e4 : w3.cell? ⟨p8, 4, none⟩ = some (.int .i64 iq) := by rw [cell_of_row _ _ _ _ _ _ HR8w.out]; rfl
   go_wp2_with fail
   clear e0 e1 e2 e3 e4
   refine (impl_wayTo KQ NQ FQ cq iq (HQ.out.below HB1.out (Nat.le_refl _)) HQQ.out HM.out (by omega) (by have := HZ.out; have := HZ3.out; omega) HB3.out HK3.out HQ3.out).mono ?_
   rintro e w4 ⟨⟨gg, m, c, g, f, pre, rfl, ho, hk4, hlf, hm9⟩, b4⟩
   have HB4 := hid (HB3.out.trans (b4.mono HB3.out.size))
   have HK4 := hid (LkT.agree (Agree.below b4 (by have := HZ.out; have := HZ3.out; omega)) _ _ _ HK3.out)
   have HQ4 := hid ((b4.block q (Array.getElem?_eq_some_iff.1 HQ3.out).1).trans HQ3.out)
   have HRow4 := hid (HRow3.out.agree (b4.block r (Array.getElem?_eq_some_iff.1 HRow3.out.row).1))
   have HZ4 := hid (show hi ≤ w4.heap.size by have := HZ.out; have := HZ3.out; have := b4.size; omega)
   obtain ⟨y, hy⟩ : ∃ y, leafW ns (N + 1) root ⟨KQ, NQ, FQ, ZQ, iq⟩ = y := ⟨_, rfl⟩
   rw [hy] at ho hk4 hlf
   have HY := hid hy
   obtain ⟨k0, k1, k2, k3, ae, ce, kv, gs, hce, kg, kre, kgl, kkr, kks⟩ := hk4
   have HKg := hid (show LkT tb U1 w4 ns lo hi (f + 1) y g from ⟨k0, k1, k2, k3, ae, ce, kv, gs, hce, kg, kre, kgl, kkr, kks⟩)
   have HLf := hid hlf
   have HMy := hid (HM.out y.toNat)
   have hle := upsB_le (ns.getD y.toNat nd0).es ⟨KQ, NQ, FQ, ZQ, iq⟩
   have hn4 := (form_small k3).1
   obtain ⟨d, hd⟩ : ∃ d, ns.getD y.toNat nd0 = d := ⟨_, rfl⟩
   rw [hd] at ho kg kre hce HMy hle hn4
   have HD := hid hd
   obtain ⟨n, hn⟩ : ∃ n, d.es.length = n := ⟨_, rfl⟩
   rw [hn] at kg hce hle hn4
   have HN := hid hn
   obtain ⟨up, hup⟩ : ∃ up, upsB d.es ⟨KQ, NQ, FQ, ZQ, iq⟩ = up := ⟨_, rfl⟩
   rw [hup] at ho hle
   have HUp := hid hup
   have HG := hid kg
   have HRe := hid kre
   have HCe := hid hce
   have HGl := hid (show lo ≤ g ∧ g < hi from ⟨k1, k2⟩)
   have hpl : pre.length = m * 2 := by have := ho.1; simp at this; omega
   have s0 : w4.cell? ⟨gg, m * 2, none⟩ = some (.pointer (some ⟨g, 0, none⟩)) := (ho.cellAt (m * 2) (by omega)).trans (by rw [List.getElem?_append_right (by omega), hpl, Nat.sub_self]; rfl)
   have s1 : w4.cell? ⟨gg, m * 2 + 1, none⟩ = some (.int .i64 (up : Int)) := (ho.cellAt (m * 2 + 1) (by omega)).trans (by rw [List.getElem?_append_right (by omega), hpl, show m * 2 + 1 - m * 2 = 1 by omega]; rfl)
   obtain ⟨M1, hM1⟩ : ∃ M1, m + 1 = M1 := ⟨_, rfl⟩
   rw [hM1]
   have hw1 : IntKind.i64.wrap ((M1 : Int) - 1) = (m : Int) := by
    rw [show (M1 : Int) - 1 = (m : Int) by omega]; simp [IntKind.wrap, IntKind.bits, IntKind.signed]; omega
   have hmM : (m : Int) < (M1 : Int) := by omega
   have hm0 : (0 : Int) ≤ (m : Int) := by omega
   have HR8x := hid (HBx.out w4 HB4.out).2.2.1
   have HBE := hid (Below.alloc1 w4 (.cells #[.pointer (some ⟨g, 0, none⟩), .int .i64 (up : Int)] 80))
   have HR12 := hid (heap_alloc_new w4 (.cells #[.pointer (some ⟨g, 0, none⟩), .int .i64 (up : Int)] 80))
   have HZ12 := hid (alloc_size w4 (.cells #[.pointer (some ⟨g, 0, none⟩), .int .i64 (up : Int)] 80))
   have HB5 := hid (HB4.out.trans (HBE.out.mono HB4.out.size))
   have HR8w := hid ((HBE.out.block p8 (Array.getElem?_eq_some_iff.1 HR8x.out).1).trans HR8x.out)
   have e0 : (w4.alloc (.cells #[.pointer (some ⟨g, 0, none⟩), .int .i64 (up : Int)] 80)).cell? ⟨p8, 0, none⟩ = some (.int .i64 KQ) := by rw [cell_of_row _ _ _ _ _ _ HR8w.out]; rfl
   have e1 : (w4.alloc (.cells #[.pointer (some ⟨g, 0, none⟩), .int .i64 (up : Int)] 80)).cell? ⟨p8, 1, none⟩ = some (.int .i64 NQ) := by rw [cell_of_row _ _ _ _ _ _ HR8w.out]; rfl
   have e2 : (w4.alloc (.cells #[.pointer (some ⟨g, 0, none⟩), .int .i64 (up : Int)] 80)).cell? ⟨p8, 2, none⟩ = some (.float .f64 FQ) := by rw [cell_of_row _ _ _ _ _ _ HR8w.out]; rfl
   have e3 : (w4.alloc (.cells #[.pointer (some ⟨g, 0, none⟩), .int .i64 (up : Int)] 80)).cell? ⟨p8, 3, none⟩ = some (.slice aq zq cq) := by rw [cell_of_row _ _ _ _ _ _ HR8w.out]; rfl
   have e4 : (w4.alloc (.cells #[.pointer (some ⟨g, 0, none⟩), .int .i64 (up : Int)] 80)).cell? ⟨p8, 4, none⟩ = some (.int .i64 iq) := by rw [cell_of_row _ _ _ _ _ _ HR8w.out]; rfl
   clear hy k0 k1 k2 k3 kg kre kgl kkr kks hce hlf hd hn hup hM1 b4 ho hpl hm9
   go_wp2_with fail
   clear e0 e1 e2 e3 e4 s0 s1 hw1 hmM hm0
   generalize w4.alloc (.cells #[.pointer (some ⟨g, 0, none⟩), .int .i64 (up : Int)] 80) = W5 at *
   obtain ⟨p12, hp12⟩ : ∃ p12, w4.heap.size = p12 := ⟨_, rfl⟩
   rw [hp12] at HR12 HZ12
   have HP12 := hid hp12
   try simp only [hp12]
   clear hp12
   have HG5 := hid ((HBE.out.block g (by have := HGl.out; have := HZ4.out; omega)).trans HG.out)
   refine (impl_isBehind KQ NQ FQ cq iq (HQ.out.below HB1.out (Nat.le_refl _)) HQQ.out up HRe.out HN.out hn4 HMy.out hle HB5.out HG5.out).mono ?_
   rintro e w6 ⟨rfl, b6⟩
   have hat := isAt_null HT.out HEn.out
   rw [HNs.out, HY.out, HD.out, HUp.out] at hat
   have HAt := hid hat
   have HB6 := hid (HB5.out.trans (b6.mono HB5.out.size))
   clear hat
   cases hb : (decide (0 < up) && nullE (d.es.getD (up - 1) en0) ⟨KQ, NQ, FQ, ZQ, iq⟩) with
   | false =>
    have HNo := hid (dropT_no (ns := ns) (root := root) (q := ⟨KQ, NQ, FQ, ZQ, iq⟩) (by rw [HT.out, HEn.out, HAt.out, hb]; rfl))
    have HC6 := hid (HBx.out w6 HB6.out).2.1
    have HBw := hid (HBx.out w6 HB6.out).2.2.2
    clear hb b6
    go_wp2_with (refine wpList_store_row rfl 26 (.tmp 6) _ rfl p6 #[.slice none 0 0, .int .i64 0] rfl rfl 26 _ HC6.out size_tr11 rfl (by simp [Value.oneCell']) ?_)
    exact bodyPost_ret (results_cell_tmp11 Try.results16 _ _ p6 26 #[.slice none 0 0, .int .i64 0] (0, 0) _ rfl (setRow_heap _ _ _ _ _ _ HC6.out) Try.underlying26 rfl size_tr11) rfl ⟨.slice none 0 0, by rw [HNo.out]; rfl, by rw [HNo.out]; exact OwnD.nil _ _ _, below_setRow HBw.out (by have := HP.out; omega) _⟩
   | true =>
    have HYes := hid (HAt.out.trans hb)
    have hup0 : 0 < up := by rw [Bool.and_eq_true] at hb; exact of_decide_eq_true hb.1
    have hdr := drop_same HT.out HEn.out HYes.out
    rw [HNs.out, HY.out, HD.out, HUp.out] at hdr
    obtain ⟨k, hk⟩ : ∃ k, up - 1 = k := ⟨_, rfl⟩
    rw [hk] at hdr
    have HDr := hid hdr
    have hkn : k < n := by omega
    have hwr : IntKind.i64.wrap ((up : Int) - 1) = (k : Int) := by
     rw [show (up : Int) - 1 = (k : Int) by omega]; simp [IntKind.wrap, IntKind.bits, IntKind.signed]; omega
    obtain ⟨be, oe, hae⟩ : ∃ be oe, ae = some ⟨be, oe, none⟩ := by
     rcases HRe.out.cells with h0 | ⟨b, off, e, _⟩
     · have := HN.out; omega
     · exact ⟨b, off, e⟩
    subst hae
    have HB46 := hid (show Below w4.heap.size w4 w6 from HBE.out.trans (b6.mono HBE.out.size))
    have HR12w := hid ((b6.block p12 (by have := HZ12.out; omega)).trans HR12.out)
    have HG6 := hid ((b6.block g (by have := HGl.out; have := HZ4.out; have := HZ12.out; have := HP12.out; omega)).trans HG5.out)
    have HS := hid (show (fun W => W.cell? ⟨p12, 0, none⟩ = some (.pointer (some ⟨g, 0, none⟩)) ∧ W.cell? ⟨p12, 1, none⟩ = some (.int .i64 (up : Int)) ∧ W.cell? ⟨g, 2, none⟩ = some (.slice (some ⟨be, oe, none⟩) n ce)) w6 from ⟨by rw [cell_of_row _ _ _ _ _ _ HR12w.out]; rfl, by rw [cell_of_row _ _ _ _ _ _ HR12w.out]; rfl, by rw [cell_of_row _ _ _ _ _ _ HG6.out]; rfl⟩)
    have HSz6 := hid (show w4.heap.size ≤ w6.heap.size from HB46.out.size)
    clear hb b6 hdr hk HG HG5
    go_wp2_with fail
    refine region_K 13 (fun W => W.cell? ⟨p12, 0, none⟩ = some (.pointer (some ⟨g, 0, none⟩)) ∧ W.cell? ⟨p12, 1, none⟩ = some (.int .i64 (up : Int)) ∧ W.cell? ⟨g, 2, none⟩ = some (.slice (some ⟨be, oe, none⟩) n ce)) (by kernel_rfl) HS.out (fun hHeld => ?_)
    have HBw := hid (show Below w6.heap.size w6 w6.drew from (Still.drew w6).below _)
    generalize w6.drew = vd at *
    refine anyK_take (i := 0) (v := ?vh0) rfl (by kernel_rfl) (by kernel_rfl) (by kernel_rfl) (by kernel_rfl) (fun _ _ _ h => h) (by rfl) hHeld ?hyh0 (some 43) (by rfl) ?resth0
    case hyh0 => (intro W hSw; obtain ⟨x0, x1, x2⟩ := hSw; go_simp; (try with_reducible rfl))
    try simp only [Act.put]
    try simp only [List.setIfInBounds_toArray]
    try simp only [List.set_cons_succ, List.set_cons_zero]
    refine anyK_take (i := 1) (v := ?vh1) rfl (by kernel_rfl) (by kernel_rfl) (by kernel_rfl) (by kernel_rfl) (fun _ _ _ h => h) (by rfl) hHeld ?hyh1 (some 44) (by rfl) ?resth1
    case hyh1 => (intro W hSw; obtain ⟨x0, x1, x2⟩ := hSw; go_simp; (try with_reducible rfl))
    try simp only [Act.put]
    try simp only [List.setIfInBounds_toArray]
    try simp only [List.set_cons_succ, List.set_cons_zero]
    refine anyK_take (i := 2) (v := ?vh2) rfl (by kernel_rfl) (by kernel_rfl) (by kernel_rfl) (by kernel_rfl) (fun _ _ _ h => h) (by rfl) hHeld ?hyh2 (some 45) (by rfl) ?resth2
    case hyh2 => (intro W hSw; obtain ⟨x0, x1, x2⟩ := hSw; go_simp; (try with_reducible rfl))
    try simp only [Act.put]
    try simp only [List.setIfInBounds_toArray]
    try simp only [List.set_cons_succ, List.set_cons_zero]
    refine anyK_take (i := 3) (v := ?vh3) rfl (by kernel_rfl) (by kernel_rfl) (by kernel_rfl) (by kernel_rfl) (fun _ _ _ h => h) (by rfl) hHeld ?hyh3 (some 46) (by rfl) ?resth3
    case hyh3 => (intro W hSw; obtain ⟨x0, x1, x2⟩ := hSw; go_simp; (try with_reducible rfl))
    try simp only [Act.put]
    try simp only [List.setIfInBounds_toArray]
    try simp only [List.set_cons_succ, List.set_cons_zero]
    refine anyK_take (i := 4) (v := ?vh4) rfl (by kernel_rfl) (by kernel_rfl) (by kernel_rfl) (by kernel_rfl) (fun _ _ _ h => h) (by rfl) hHeld ?hyh4 (some 47) (by rfl) ?resth4
    case hyh4 => (intro W hSw; obtain ⟨x0, x1, x2⟩ := hSw; go_simp; (try with_reducible rfl))
    try simp only [Act.put]
    try simp only [List.setIfInBounds_toArray]
    try simp only [List.set_cons_succ, List.set_cons_zero]
    refine anyK_take (i := 5) (v := ?vh5) rfl (by kernel_rfl) (by kernel_rfl) (by kernel_rfl) (by kernel_rfl) (fun _ _ _ h => h) (by rfl) hHeld ?hyh5 (some 48) (by rfl) ?resth5
    case hyh5 => (intro W hSw; obtain ⟨x0, x1, x2⟩ := hSw; go_simp; (try with_reducible rfl))
    try simp only [Act.put]
    try simp only [List.setIfInBounds_toArray]
    try simp only [List.set_cons_succ, List.set_cons_zero]
    refine anyK_take (i := 6) (v := ?vh6) rfl (by kernel_rfl) (by kernel_rfl) (by kernel_rfl) (by kernel_rfl) (fun _ _ _ h => h) (by rfl) hHeld ?hyh6 (some 49) (by rfl) ?resth6
    case hyh6 => (intro W hSw; obtain ⟨x0, x1, x2⟩ := hSw; go_simp; (try with_reducible rfl))
    try simp only [Act.put]
    try simp only [List.setIfInBounds_toArray]
    try simp only [List.set_cons_succ, List.set_cons_zero]
    refine anyK_take (i := 7) (v := ?vh7) rfl (by kernel_rfl) (by kernel_rfl) (by kernel_rfl) (by kernel_rfl) (fun _ _ _ h => h) (by rfl) hHeld ?hyh7 (some 50) (by rfl) ?resth7
    case hyh7 => (intro W hSw; obtain ⟨x0, x1, x2⟩ := hSw; go_simp; (try with_reducible rfl))
    try simp only [Act.put]
    try simp only [List.setIfInBounds_toArray]
    try simp only [List.set_cons_succ, List.set_cons_zero]
    refine anyK_take (i := 8) (v := ?vh8) rfl (by kernel_rfl) (by kernel_rfl) (by kernel_rfl) (by kernel_rfl) (fun _ _ _ h => h) (by rfl) hHeld ?hyh8 (some 51) (by rfl) ?resth8
    case hyh8 => (intro W hSw; obtain ⟨x0, x1, x2⟩ := hSw; go_simp; (try with_reducible rfl))
    try simp only [Act.put]
    try simp only [List.setIfInBounds_toArray]
    try simp only [List.set_cons_succ, List.set_cons_zero]
    refine anyK_take (i := 9) (v := ?vh9) rfl (by kernel_rfl) (by kernel_rfl) (by kernel_rfl) (by kernel_rfl) (fun _ _ _ h => h) (by rfl) hHeld ?hyh9 (some 52) (by rfl) ?resth9
    case hyh9 => (intro W hSw; obtain ⟨x0, x1, x2⟩ := hSw; go_simp; (try with_reducible rfl))
    try simp only [Act.put]
    try simp only [List.setIfInBounds_toArray]
    try simp only [List.set_cons_succ, List.set_cons_zero]
    refine anyK_step (i := 10) (by kernel_rfl) rfl (fun KP hK => ?_)
    go_simp
    have HB6v := hid (HB6.out.trans (HBw.out.mono HB6.out.size))
    refine (impl_without HRe.out HN.out hn4 hkn HCe.out HB6v.out).mono ?_
    rintro e w7 ⟨a', c', rfl, hr7, b7⟩
    have HR7 := hid hr7
    have HB67 := hid (HBw.out.trans (b7.mono HBw.out.size))
    have HB47 := hid (HB46.out.trans (HB67.out.mono HB46.out.size))
    have HS7 := hid (show (fun W => W.cell? ⟨p12, 0, none⟩ = some (.pointer (some ⟨g, 0, none⟩)) ∧ W.cell? ⟨p12, 1, none⟩ = some (.int .i64 (up : Int)) ∧ W.cell? ⟨g, 2, none⟩ = some (.slice (some ⟨be, oe, none⟩) n ce)) w7 from ⟨(HB67.out.cell (World.block_lt_of_cell? w6 _ HS.out.1)).trans HS.out.1, (HB67.out.cell (World.block_lt_of_cell? w6 _ HS.out.2.1)).trans HS.out.2.1, (HB67.out.cell (World.block_lt_of_cell? w6 _ HS.out.2.2)).trans HS.out.2.2⟩)
    clear hr7 b7 hHeld
    go_wp2_with fail
    refine hK.out _ _ HS7.out (fun hHeld => ?_)
    clear hK KP
    try simp only [Act.put]
    try simp only [List.setIfInBounds_toArray]
    try simp only [List.set_cons_succ, List.set_cons_zero]
    refine anyK_step (i := 11) (by kernel_rfl) rfl (fun KP hK => ?_)
    go_simp
    clear hHeld
    refine hK.out _ _ HS7.out (fun hHeld => ?_)
    clear hK KP
    try simp only [Act.put]
    try simp only [List.setIfInBounds_toArray]
    try simp only [List.set_cons_succ, List.set_cons_zero]
    refine anyK_step (i := 12) (by kernel_rfl) rfl (fun KP hK => ?_)
    go_simp
    clear hHeld
    refine hK.out _ _ HS7.out (fun hHeld => ?_)
    clear hK KP
    try simp only [Act.put]
    try simp only [List.setIfInBounds_toArray]
    try simp only [List.set_cons_succ, List.set_cons_zero]
    have HG7 := hid ((HB67.out.block g (by have := HGl.out; have := HZ4.out; have := HSz6.out; omega)).trans HG6.out)
    have HK7 := hid (LkT.agree (Agree.below HB47.out HZ4.out) _ _ _ HK4.out)
    have HKg7 := hid (LkT.agree (Agree.below HB47.out HZ4.out) _ _ _ HKg.out)
    have HQ7 := hid ((HB47.out.block q (Array.getElem?_eq_some_iff.1 HQ4.out).1).trans HQ4.out)
    have HRow7 := hid (HRow4.out.agree (HB47.out.block r (Array.getElem?_eq_some_iff.1 HRow4.out.row).1))
    have HB7 := hid (HB4.out.trans (HB47.out.mono HB4.out.size))
    have kc := HS7.out.2.2
    have kf := frozen_of_row _ _ 2 _ _ HG7.out
    refine anyK_last (by kernel_rfl) rfl (fun KP hK => ?_)
    go_simp
    refine hK.out _ _ ?_
    clear hK KP hHeld kc kf
    try simp only [Act.put]
    refine anyK_done (by kernel_rfl) ?_ _
    have hU1 : U1.heap.size ≤ g := by have := HGl.out; have := HZ.out; omega
    have HB8 := hid (HB7.out.setCell (show U1.heap.size ≤ (⟨g, 2, none⟩ : Addr).block from hU1) (.slice a' (n - 1) c'))
    have hHq : (w7.setCell ⟨g, 2, none⟩ (.slice a' (n - 1) c')).heap[q]? = some (.cells #[.slice (some ⟨r, 0, none⟩) N N, .pointer (some ⟨g0, 0, none⟩)] 90) := (heap_set_ne w7 g 2 q _ (by have := HGl.out; have := HZ.out; omega)).trans HQ7.out
    have hRoot : (w7.setCell ⟨g, 2, none⟩ (.slice a' (n - 1) c')).cell? ⟨g0, 0, none⟩ = some (.int .i64 root) := by
     obtain ⟨l, y', z, e⟩ := LkT.num HK7.out
     exact cell_set2 e
    have hlen : (dropN ns ⟨KQ, NQ, FQ, ZQ, iq⟩).length = N := by rw [HDr.out, List.length_set]; exact HNs.out
    have hy0 : 0 ≤ y ∧ y < N := by
     have := leafW_pos ns ⟨KQ, NQ, FQ, ZQ, iq⟩ _ _ (treeIs_parts HT.out).1
     rw [HNs.out, HY.out] at this
     exact this.2.2
    have hget : ∀ i : Nat, (dropN ns ⟨KQ, NQ, FQ, ZQ, iq⟩).getD i nd0 = if i = y.toNat then ⟨true, d.es.eraseIdx k, d.ks⟩ else ns.getD i nd0 := fun i => by
     rw [HDr.out]
     by_cases e : i = y.toNat
     · subst e; rw [if_pos rfl]; simp [List.getD, show y.toNat < ns.length by have := HNs.out; omega]
     · rw [if_neg e]; simp only [List.getD, List.getElem?_set_ne (fun q => e q.symm)]
    have hel : (d.es.eraseIdx k).length = n - 1 := by have := HN.out; rw [List.length_eraseIdx, if_pos (by omega)]; omega
    have hTab : TabR (w7.setCell ⟨g, 2, none⟩ (.slice a' (n - 1) c')) r N (dropN ns ⟨KQ, NQ, FQ, ZQ, iq⟩) := by
     refine tab_of HT.out HNs.out (HRow7.out.agree (heap_set_ne w7 g 2 r _ (by have := HGl.out; have := HZ.out; omega))) HK7.out (fun i f' gi hi hL => ?_)
     rw [hget]
     by_cases e : i = y.toNat
     · rw [if_pos e]
       have t1 := hL.told.1
       have t2 := HKg7.out.told.1
       rw [Int.toNat_natCast, e, t2] at t1
       have e3 : gi = g := by cases t1; rfl
       have e4 : (i : Int) = y := by omega
       have hh := HKg7.out.leaf_set (n' := n - 1) (a' := a') (c' := c') (es' := d.es.eraseIdx k) HLf.out hel (HR7.out _ HB8.out (fun p p1 p2 => heap_set_ne w7 g 2 p _ (by have := HGl.out; have := HZ4.out; have := HSz6.out; have := HBw.out.size; omega)))
       rw [HD.out] at hh
       rw [e3, e4]
       exact hh
     · rw [if_neg e]
       refine hL.node_set (cs := _) HB8.out HG7.out (fun e2 => ?_) |> fun h => by rwa [Int.toNat_natCast] at h
       subst e2
       obtain ⟨l, y', z, en⟩ := LkT.num hL
       have := en.symm.trans HG7.out
       simp only [Option.some.injEq, Obj.cells.injEq] at this
       have h9 := this.1
       simp at h9
       omega
    have hnil : ∀ i, ¬ i < N → ns.getD i nd0 = nd0 := fun i hi => by simp [List.getD, List.getElem?_eq_none (show ns.length ≤ i by have := HNs.out; omega)]
    have hsm : ∀ i, (ns.getD i nd0).es.length ≤ 4 ∧ (ns.getD i nd0).ks.length ≤ 5 := fun i => by
     by_cases hi : i < N
     · have hps := (treeIs_parts HT.out).2.2 i (by have := HNs.out; omega)
       rw [HNs.out] at hps
       obtain ⟨f', gi, hL⟩ := LkT.pos _ _ _ HK7.out _ hps
       have := hL.told.2.2.2
       rw [Int.toNat_natCast] at this
       exact form_small this
     · rw [hnil i hi]; exact ⟨by simp [nd0], by simp [nd0]⟩
    have hkbs : ∀ i j, -9223372036854775808 ≤ (ns.getD i nd0).ks.getD j 0 ∧ (ns.getD i nd0).ks.getD j 0 ≤ 9223372036854775807 := fun i j => by
     by_cases hi : i < N
     · obtain ⟨b, off, a2, c2, a3, c3, _, _, _, _, _, _, ri, _⟩ := HR.out.at (k := i) (by have := HNs.out; omega)
       exact ri.bd j
     · rw [hnil i hi]; simp [nd0]
    have hes' : ∀ i, ((dropN ns ⟨KQ, NQ, FQ, ZQ, iq⟩).getD i nd0).es.length ≤ 4 := fun i => by
     rw [hget]
     split
     · dsimp only; omega
     · exact (hsm i).1
    have hks' : ∀ i, ((dropN ns ⟨KQ, NQ, FQ, ZQ, iq⟩).getD i nd0).ks.length ≤ 5 := fun i => by
     rw [hget]
     split
     · have := (hsm y.toNat).2; rw [HD.out] at this; exact this
     · exact (hsm i).2
    have hm' : ∀ i j, (((dropN ns ⟨KQ, NQ, FQ, ZQ, iq⟩).getD i nd0).es.getD j en0).Z.length ≤ 2097152 := fun i j => by
     rw [hget]
     split
     · dsimp only
       rcases erase_get (es := d.es) k j with e | e
       · rw [e]; exact HMy.out j
       · rw [e]; exact HMy.out (j + 1)
     · exact HM.out i j
    have hkb' : ∀ i j, -9223372036854775808 ≤ ((dropN ns ⟨KQ, NQ, FQ, ZQ, iq⟩).getD i nd0).ks.getD j 0 ∧ ((dropN ns ⟨KQ, NQ, FQ, ZQ, iq⟩).getD i nd0).ks.getD j 0 ≤ 9223372036854775807 := fun i j => by
     rw [hget]
     split
     · have := hkbs y.toNat j; rw [HD.out] at this; exact this
     · exact hkbs i j
    have HYs := hid (show dropT ns root ⟨KQ, NQ, FQ, ZQ, iq⟩ = (dropN ns ⟨KQ, NQ, FQ, ZQ, iq⟩, root, true) by unfold dropT; rw [if_pos (by rw [HT.out, HEn.out, HYes.out]; rfl)])
    have HArg := hid (And.intro hHq (And.intro hRoot (And.intro hTab (And.intro hlen (And.intro hes' (And.intro hks' (And.intro hm' hkb')))))))
    clear hHq hRoot hTab hlen hes' hks' hm' hkb' hnil hsm hkbs hget hel hy0 hU1 HS7 HG7 HK7 HKg7 HQ7 HRow7 HB7 hwr hup0 hkn
    generalize w7.setCell ⟨g, 2, none⟩ (.slice a' (n - 1) c') = w8 at *
    go_wp2_with fail
    refine (impl_tree HArg.out.1 HArg.out.2.1 HArg.out.2.2.1 hN3 HArg.out.2.2.2.1 HArg.out.2.2.2.2.1 HArg.out.2.2.2.2.2.1 HArg.out.2.2.2.2.2.2.1 HArg.out.2.2.2.2.2.2.2).mono ?_
    rintro e w9 ⟨v, rfl, ov, b9⟩
    obtain ⟨av, cv, hv⟩ := ov.slice
    rw [HArg.out.2.2.2.1] at hv
    subst hv
    have HOv := hid ov
    have HB9 := hid (HB8.out.trans (b9.mono HB8.out.size))
    have HC6 := hid (HBx.out w9 HB9.out).2.1
    have HBw9 := hid (HBx.out w9 HB9.out).2.2.2
    have HSz8 := hid (show p6 < w8.heap.size by have := HP.out; have := HP8.out; have := HZ8.out; have := HB8.out.size; omega)
    clear ov b9
    go_wp2_with (refine wpList_store_row rfl 26 (.tmp 6) _ rfl p6 #[.slice av N cv, .int .i64 root] rfl rfl 26 _ HC6.out size_tr11 rfl (by simp [Value.oneCell']) ?_)
    refine bodyPost_ret (results_cell_tmp11 Try.results16 _ _ p6 26 #[.slice av N cv, .int .i64 root] (0, 0) _ rfl (setRow_heap _ _ _ _ _ _ HC6.out) Try.underlying26 rfl size_tr11) rfl ⟨.slice av N cv, by rw [HYs.out]; rfl, ?_, below_setRow HBw9.out (by have := HP.out; omega) _⟩
    rw [HYs.out]
    have g2 := row_grown11 w9 p6 #[.slice av N cv, .int .i64 root]
    have hsz : (w9.setRow p6 #[.slice av N cv, .int .i64 root]).heap.size = w9.heap.size := by simp
    rw [hsz]
    exact (HOv.out.agree (fun p p1 p2 => g2.block p p2 (by have := HSz8.out; simp; omega))).mono (by have := HSz8.out; have := HP.out; have := HB8.out.size; have := HB1.out.size; omega) (Nat.le_refl _)
end Go.Proofs.Ytphmlndkjgldkaa
