/- Texts of this proof in one: Ut11 Uv11. -/
import Derived.Test.YtlkoghdajpbffaaGreatMgr
import Derived.Test.YtlkoghdajpbffaaGreatMgz
import Derived.Test.YtlkoghdajpbffaaGreatMgt
import Derived.Test.YtlkoghdajpbffaaGreatMgs
/- The program's TreeAdd. Conditions: texts of at most 2^21 bytes. -/



namespace Go.Proofs.YtlkoghdajpbffaaGreat
open Go.RowKit
set_option maxRecDepth 100000
set_option maxHeartbeats 12800000 in
theorem impl_TreeAdd {ad : Option Addr} {N : Nat} (cap : Nat) (root : Int) {ns : List Nd} (KQ NQ : Int) (FQ : Nat) {aq : Option Addr} {zq : Nat} (cq : Nat) (iq : Int) {ZQ : List Int} {w : World} (hR : ReadsD w ad ns) (hns : ns.length = N) (hm : ∀ i j, ((ns.getD i nd0).es.getD j en0).Z.length ≤ 2097152) (_ : KapD w ad N) (hcap : CapD w ad N) (_ : EapD w ad N) (hq : Reads w aq zq ZQ) (hqq : ZQ.length = zq ∧ FQ < 18446744073709551616 ∧ zq ≤ 2097152) (hcq : aq = none → cq = 0) :
 Calls Tryz.prog 9 #[.agg #[.slice ad N cap, .int .i64 root], .agg #[.int .i64 KQ, .int .i64 NQ, .float .f64 FQ, .slice aq zq cq], .int .i64 iq] w fun e w' => ∃ v, e = .returned (.tuple #[.agg #[v, .int .i64 (addT ns root ⟨KQ, NQ, FQ, ZQ, iq⟩).2.1], .bool (addT ns root ⟨KQ, NQ, FQ, ZQ, iq⟩).2.2]) ∧ OwnD w' w.heap.size w'.heap.size v (addT ns root ⟨KQ, NQ, FQ, ZQ, iq⟩).1 ∧ Below w.heap.size w w' := by
 have hst := fun w a m => run_store Tryz.prog w a (.float .f64 FQ) m rfl
 have HRR := hid (three11 w (.cells #[.slice ad N cap, .int .i64 root] 33) (.cells #[.int .i64 KQ, .int .i64 NQ, .float .f64 FQ, .slice aq zq cq] 37) (.cells #[.slice none 0 0, .int .i64 0] 33))
 have HR := hid hR
 have HNs := hid hns
 have HM := hid hm
 have HCp := hid hcap
 have HCq := hid hcq
 have HQ := hid hq
 have HQQ := hid hqq
 clear hR hns hm hcap hq hqq hcq
 go_enter Tryz.func9, Tryz.ntmps9
 go_upto_region 1 with fail
 generalize (((w.alloc (.cells #[.slice ad N cap, .int .i64 root] 33)).alloc (.cells #[.int .i64 KQ, .int .i64 NQ, .float .f64 FQ, .slice aq zq cq] 37)).alloc (.cells #[.slice none 0 0, .int .i64 0] 33)) = U at *
 obtain ⟨p6, hp6⟩ : ∃ p6, w.heap.size + 1 + 1 = p6 := ⟨_, rfl⟩
 obtain ⟨p4, hp4⟩ : ∃ p4, w.heap.size + 1 = p4 := ⟨_, rfl⟩
 obtain ⟨p3, hp3⟩ : ∃ p3, w.heap.size = p3 := ⟨_, rfl⟩
 have HPe := hid (And.intro hp3 (And.intro hp4 hp6))
 have hRR := HRR.out
 rw [hp6, hp4, hp3] at hRR
 obtain ⟨r3, r4, r6, hzU, -⟩ := hRR
 have HP := hid (show w.heap.size ≤ p3 ∧ p3 < p4 ∧ p4 < p6 ∧ p6 < U.heap.size by omega)
 have HBU := hid HRR.out.2.2.2.2
 have HR3 := hid r3
 have HR4 := hid r4
 have HR6 := hid r6
 try simp only [hp6]
 try simp only [hp4]
 try simp only [hp3]
 clear hp3 hp4 hp6 r3 r4 r6 hzU HRR
 have c0 : U.cell? ⟨p4, 0, none⟩ = some (.int .i64 KQ) := qC HR4.out
 have c1 : U.cell? ⟨p4, 1, none⟩ = some (.int .i64 NQ) := qC HR4.out
 have c2 : U.cell? ⟨p4, 2, none⟩ = some (.float .f64 FQ) := qC HR4.out
 have c3 : U.cell? ⟨p4, 3, none⟩ = some (.slice aq zq cq) := qC HR4.out
 go_upto_region 2 with fail
 clear c0 c1 c2 c3
 have HBD := hid (Below.alloc1 U (.cells #[.int .i64 KQ, .int .i64 NQ, .float .f64 FQ, .slice aq zq cq, .int .i64 iq] 48))
 have HR8 := hid (heap_alloc_new U (.cells #[.int .i64 KQ, .int .i64 NQ, .float .f64 FQ, .slice aq zq cq, .int .i64 iq] 48))
 have HZ8 := hid (alloc_size U (.cells #[.int .i64 KQ, .int .i64 NQ, .float .f64 FQ, .slice aq zq cq, .int .i64 iq] 48))
 generalize U.alloc (.cells #[.int .i64 KQ, .int .i64 NQ, .float .f64 FQ, .slice aq zq cq, .int .i64 iq] 48) = U1 at *
 obtain ⟨p8, hp8⟩ : ∃ p8, U.heap.size = p8 := ⟨_, rfl⟩
 rw [hp8] at HR8 HZ8
 have HP8 := hid hp8
 try simp only [hp8]
 clear hp8
 have HB1 := hid (HBU.out.trans (HBD.out.mono HBU.out.size))
 -- what stands in the boxes, in every later world
 have HBx := hid (show ∀ W, Below U1.heap.size U1 W → W.heap[p3]? = some (.cells #[.slice ad N cap, .int .i64 root] 33) ∧ W.heap[p6]? = some (.cells #[.slice none 0 0, .int .i64 0] 33) ∧ W.heap[p8]? = some (.cells #[.int .i64 KQ, .int .i64 NQ, .float .f64 FQ, .slice aq zq cq, .int .i64 iq] 48) ∧ Below w.heap.size w W from fun W b => by
  have h1 := HP.out; have h2 := HZ8.out; have h3 := HP8.out
  exact ⟨(b.block p3 (by omega)).trans ((HBD.out.block p3 (by omega)).trans HR3.out), (b.block p6 (by omega)).trans ((HBD.out.block p6 (by omega)).trans HR6.out), (b.block p8 (by omega)).trans HR8.out, HB1.out.trans (b.mono HB1.out.size)⟩)
 have c0 : U1.cell? ⟨p3, 0, none⟩ = some (.slice ad N cap) := by rw [cell_of_row _ _ _ _ _ _ (HBx.out U1 (Below.refl _ _)).1]; rfl
 have c1 : U1.cell? ⟨p3, 1, none⟩ = some (.int .i64 root) := by rw [cell_of_row _ _ _ _ _ _ (HBx.out U1 (Below.refl _ _)).1]; rfl
 go_wp2_with fail
 clear c0 c1
 have hcap1 : CapD U1 ad N := fun k hk b off n c a e h => by
  obtain ⟨b', off', a', c', a2, c2, e', h0, h1, _⟩ := HR.out.at (k := k) (by have := HNs.out; omega)
  rw [e] at e'
  cases e'
  have hb := World.block_lt_of_cell? w _ h1
  exact HCp.out k hk e ((HB1.out.cell (p := ⟨b, off + k * 3 + 1, none⟩) hb).symm.trans h)
 refine (impl_linkedOfT cap root (HR.out.below HB1.out qN) HNs.out HM.out hcap1).mono ?_
 rintro e w2 ⟨hl, b2⟩
 have HB2 := hid b2
 clear b2 hcap1
 cases ht : treeIs ns root with
 | false =>
  obtain rfl := hl.1 ht
  have HNo := hid (addT_no (ns := ns) (root := root) (q := ⟨KQ, NQ, FQ, ZQ, iq⟩) (by rw [ht]; rfl))
  have HC6 := hid (HBx.out w2 HB2.out).2.1
  have HBw := hid (HBx.out w2 HB2.out).2.2.2
  clear ht hl
  go_wp2_with (refine wpList_store_row rfl 33 (.tmp 6) _ rfl p6 #[.slice none 0 0, .int .i64 0] rfl rfl 33 _ HC6.out size_tr11 rfl (by simp [Value.oneCell']) ?_)
  exact bodyPost_ret (results_cell_tmp11 Tryz.results9 _ _ p6 33 #[.slice none 0 0, .int .i64 0] (0, 0) _ rfl (setRow_heap _ _ _ _ _ _ HC6.out) Tryz.underlying33 rfl size_tr11) rfl ⟨.slice none 0 0, by rw [HNo.out]; rfl, by rw [HNo.out]; exact OwnD.nil _ _ _, below_setRow HBw.out (by have := HP.out; omega) _⟩
 | true =>
  obtain ⟨q, rfl, hlt⟩ := hl.2 ht
  obtain ⟨r, g0, tb, lo, hi, sd, hq0, hrow, h1, h2, h3, h4, h5, hk⟩ := hlt.ex
  have HT := hid ht
  have HLen := hid (treeIs_len ht)
  have hN3 : N ≤ 300 := by have := HLen.out; have := HNs.out; omega
  have HQ0 := hid hq0
  have HRow := hid hrow
  have HTab := hid (tab_start ht HNs.out HM.out HB2.out hq0 hrow h1 h2 h3 hk)
  have HK := hid hk
  have HZ := hid (show U1.heap.size ≤ r ∧ r < q ∧ q < lo ∧ hi ≤ w2.heap.size ∧ r < lo from ⟨h1, h2, h3, h4, h5⟩)
  have HR8w := hid (HBx.out w2 HB2.out).2.2.1
  have e0 : w2.cell? ⟨p8, 0, none⟩ = some (.int .i64 KQ) := qC HR8w.out
  have e1 : w2.cell? ⟨p8, 1, none⟩ = some (.int .i64 NQ) := qC HR8w.out
  have e2 : w2.cell? ⟨p8, 2, none⟩ = some (.float .f64 FQ) := qC HR8w.out
  have e3 : w2.cell? ⟨p8, 3, none⟩ = some (.slice aq zq cq) := qC HR8w.out
  have e4 : w2.cell? ⟨p8, 4, none⟩ = some (.int .i64 iq) := qC HR8w.out
  clear ht hl hlt hq0 hrow hk h1 h2 h3 h4 h5
  go_wp2_with fail
  clear e0 e1 e2 e3 e4
  refine (impl_entry KQ NQ FQ aq zq cq iq HQQ.out.2.1 HQQ.out.2.2 w2).mono ?_
  rintro e w3 ⟨rfl, b3⟩
  have HEn := hid (show entOk ⟨KQ, NQ, FQ, ZQ, iq⟩ = entB KQ NQ FQ zq iq by unfold entOk; simp only [HQQ.out.1])
  have HB3 := hid (HB2.out.trans (b3.mono HB2.out.size))
  have HZ3 := hid b3.size
  have HK3 := hid (LkT.agree (Agree.below b3 HZ.out.2.2.2.1) _ _ _ HK.out)
  have HQ3 := hid ((b3.block q (qL HQ0.out)).trans HQ0.out)
  have HRow3 := hid (HRow.out.agree (b3.block r (qL HRow.out.row)))
  have HB23 := hid b3
  clear b3 HK HQ0 HRow HR8w
  cases hen : entB KQ NQ FQ zq iq with
  | false =>
   have HNo := hid (addT_no (ns := ns) (root := root) (q := ⟨KQ, NQ, FQ, ZQ, iq⟩) (by rw [HT.out, HEn.out, hen]; rfl))
   have HC6 := hid (HBx.out w3 HB3.out).2.1
   have HBw := hid (HBx.out w3 HB3.out).2.2.2
   clear hen
   go_wp2_with (refine wpList_store_row rfl 33 (.tmp 6) _ rfl p6 #[.slice none 0 0, .int .i64 0] rfl rfl 33 _ HC6.out size_tr11 rfl (by simp [Value.oneCell']) ?_)
   exact bodyPost_ret (results_cell_tmp11 Tryz.results9 _ _ p6 33 #[.slice none 0 0, .int .i64 0] (0, 0) _ rfl (setRow_heap _ _ _ _ _ _ HC6.out) Tryz.underlying33 rfl size_tr11) rfl ⟨.slice none 0 0, by rw [HNo.out]; rfl, by rw [HNo.out]; exact OwnD.nil _ _ _, below_setRow HBw.out (by have := HP.out; omega) _⟩
  | true =>
   replace HEn := hid (HEn.out.trans hen)
   clear hen
   have HR8w := hid (HBx.out w3 HB3.out).2.2.1
   have e0 : w3.cell? ⟨p8, 0, none⟩ = some (.int .i64 KQ) := qC HR8w.out
   have e1 : w3.cell? ⟨p8, 1, none⟩ = some (.int .i64 NQ) := qC HR8w.out
   have e2 : w3.cell? ⟨p8, 2, none⟩ = some (.float .f64 FQ) := qC HR8w.out
   have e3 : w3.cell? ⟨p8, 3, none⟩ = some (.slice aq zq cq) := qC HR8w.out
   have e4 : w3.cell? ⟨p8, 4, none⟩ = some (.int .i64 iq) := qC HR8w.out
   go_wp2_with fail
   clear e0 e1 e2 e3 e4
   refine (impl_wayToA KQ NQ FQ cq iq (HQ.out.below HB1.out qN) HQQ.out HM.out (by omega) (by have := HZ.out; have := HZ3.out; omega) HB3.out HK3.out HQ3.out).mono ?_
   rintro e w4 ⟨⟨gg, m, c, g, f, pre, rfl, ho, hk4, hlf, hm9, hst⟩, b4⟩
   have HB4 := hid (HB3.out.trans (b4.mono HB3.out.size))
   have HK4 := hid (LkT.agree (Agree.below b4 (by have := HZ.out; have := HZ3.out; omega)) _ _ _ HK3.out)
   have HQ4 := hid ((b4.block q (qL HQ3.out)).trans HQ3.out)
   have HRow4 := hid (HRow3.out.agree (b4.block r (qL HRow3.out.row)))
   have HWay := hid (way_told (root := root) HT.out HNs.out HK4.out ho hst)
   have HB24 := hid (HB23.out.trans (b4.mono HB23.out.size))
   clear hst
   have HZ4 := hid (show hi ≤ w4.heap.size by have := HZ.out; have := HZ3.out; have := b4.size; omega)
   obtain ⟨y, hy⟩ : ∃ y, leafW ns (N + 1) root ⟨KQ, NQ, FQ, ZQ, iq⟩ = y := ⟨_, rfl⟩
   rw [hy] at ho hk4 hlf
   have HY := hid hy
   obtain ⟨k0, k1, k2, k3, ae, ce, kv, gs, hce, kg, kre, kgl, kkr, kks⟩ := hk4
   have hle := upsB_le (ns.getD y.toNat nd0).es ⟨KQ, NQ, FQ, ZQ, iq⟩
   have HMy := hid (HM.out y.toNat)
   have hn4 := (form_small' k3).1
   obtain ⟨d, hd⟩ : ∃ d, ns.getD y.toNat nd0 = d := ⟨_, rfl⟩
   rw [hd] at ho kg kre hce HMy hle hn4
   have HD := hid hd
   obtain ⟨n, hn⟩ : ∃ n, d.es.length = n := ⟨_, rfl⟩
   rw [hn] at kg hce hle hn4
   have HN := hid hn
   obtain ⟨up, hup⟩ : ∃ up, upsB d.es ⟨KQ, NQ, FQ, ZQ, iq⟩ = up := ⟨_, rfl⟩
   rw [hup] at ho hle
   have HUp := hid hup
   have HG := hid kg
   have HRe := hid kre
   have hpl : pre.length = m * 2 := by have := ho.1; simp at this; omega
   have s0 : w4.cell? ⟨gg, m * 2, none⟩ = some (.pointer (some ⟨g, 0, none⟩)) := (ho.cellAt (m * 2) (by omega)).trans (by rw [List.getElem?_append_right (by omega), hpl, Nat.sub_self]; rfl)
   have s1 : w4.cell? ⟨gg, m * 2 + 1, none⟩ = some (.int .i64 (up : Int)) := (ho.cellAt (m * 2 + 1) (by omega)).trans (by rw [List.getElem?_append_right (by omega), hpl, show m * 2 + 1 - m * 2 = 1 by omega]; rfl)
   obtain ⟨M1, hM1⟩ : ∃ M1, m + 1 = M1 := ⟨_, rfl⟩
   have HM1 := hid hM1
   rw [hM1]
   have hw1 : IntKind.i64.wrap ((M1 : Int) - 1) = (m : Int) := by
    rw [show (M1 : Int) - 1 = (m : Int) by omega]; simp [IntKind.wrap, IntKind.bits, IntKind.signed]; omega
   have hmM : (m : Int) < (M1 : Int) := by omega
   have hm0 : (0 : Int) ≤ (m : Int) := by omega
   have HR8w := hid (HBx.out w4 HB4.out).2.2.1
   have e0 : w4.cell? ⟨p8, 0, none⟩ = some (.int .i64 KQ) := qC HR8w.out
   have e1 : w4.cell? ⟨p8, 1, none⟩ = some (.int .i64 NQ) := qC HR8w.out
   have e2 : w4.cell? ⟨p8, 2, none⟩ = some (.float .f64 FQ) := qC HR8w.out
   have e3 : w4.cell? ⟨p8, 3, none⟩ = some (.slice aq zq cq) := qC HR8w.out
   have e4 : w4.cell? ⟨p8, 4, none⟩ = some (.int .i64 iq) := qC HR8w.out
   have HS0 := hid (show (fun W => W.cell? ⟨p8, 0, none⟩ = some (.int .i64 KQ) ∧ W.cell? ⟨p8, 1, none⟩ = some (.int .i64 NQ) ∧ W.cell? ⟨p8, 2, none⟩ = some (.float .f64 FQ) ∧ W.cell? ⟨p8, 3, none⟩ = some (.slice aq zq cq) ∧ W.cell? ⟨p8, 4, none⟩ = some (.int .i64 iq) ∧ W.cell? ⟨gg, m * 2, none⟩ = some (.pointer (some ⟨g, 0, none⟩)) ∧ W.cell? ⟨gg, m * 2 + 1, none⟩ = some (.int .i64 (up : Int))) w4 from ⟨e0, e1, e2, e3, e4, s0, s1⟩)
   have HM9 := hid hm9
   clear e0 e1 e2 e3 e4 s0 s1 hy k0 k1 k2 k3 kg kre kgl kkr kks hce hlf hd hn hup hM1 b4 ho hpl hm9
   go_wp2_with fail
   refine region_K 99 (fun W => W.cell? ⟨p8, 0, none⟩ = some (.int .i64 KQ) ∧ W.cell? ⟨p8, 1, none⟩ = some (.int .i64 NQ) ∧ W.cell? ⟨p8, 2, none⟩ = some (.float .f64 FQ) ∧ W.cell? ⟨p8, 3, none⟩ = some (.slice aq zq cq) ∧ W.cell? ⟨p8, 4, none⟩ = some (.int .i64 iq) ∧ W.cell? ⟨gg, m * 2, none⟩ = some (.pointer (some ⟨g, 0, none⟩)) ∧ W.cell? ⟨gg, m * 2 + 1, none⟩ = some (.int .i64 (up : Int))) (by kernel_rfl) HS0.out (fun hh => ?_)
   have HBd := hid (show Below w4.heap.size w4 w4.drew from (Still.drew w4).below _)
   generalize w4.drew = v4 at *
   refine qT 0 rfl hh 31 rfl ?_
   refine qT 1 rfl hh 32 rfl ?_
   refine qT 2 rfl hh 33 rfl ?_
   refine qT 3 rfl hh 34 rfl ?_
   refine qT 4 rfl hh 35 rfl ?_
   refine qT 5 rfl hh 36 rfl ?_
   refine qT 6 rfl hh 37 rfl ?_
   refine qS 7 rfl fun KP hK => ?_
   go_simp
   have HB4d := hid (HB4.out.trans (HBd.out.mono HB4.out.size))
   have HG4 := hid ((HBd.out.block g (qL HG.out)).trans HG.out)
   refine (impl_isBehind KQ NQ FQ cq iq (HQ.out.below HB1.out qN) HQQ.out up HRe.out HN.out hn4 HMy.out hle HB4d.out HG4.out).mono ?_
   obtain ⟨bv, hbv⟩ : ∃ bv, (decide (0 < up) && nullE (d.es.getD (up - 1) en0) ⟨KQ, NQ, FQ, ZQ, iq⟩) = bv := ⟨_, rfl⟩
   rw [hbv]
   rintro e w6 ⟨rfl, b6⟩
   have HB46 := hid (HBd.out.trans (b6.mono HBd.out.size))
   have HB6 := hid (HB4.out.trans (HB46.out.mono HB4.out.size))
   have hat := isAt_null HT.out HEn.out
   rw [HNs.out, HY.out, HD.out, HUp.out, hbv] at hat
   have HAt := hid hat
   have HS6 := hid (show (fun W => W.cell? ⟨p8, 0, none⟩ = some (.int .i64 KQ) ∧ W.cell? ⟨p8, 1, none⟩ = some (.int .i64 NQ) ∧ W.cell? ⟨p8, 2, none⟩ = some (.float .f64 FQ) ∧ W.cell? ⟨p8, 3, none⟩ = some (.slice aq zq cq) ∧ W.cell? ⟨p8, 4, none⟩ = some (.int .i64 iq) ∧ W.cell? ⟨gg, m * 2, none⟩ = some (.pointer (some ⟨g, 0, none⟩)) ∧ W.cell? ⟨gg, m * 2 + 1, none⟩ = some (.int .i64 (up : Int))) w6 from ⟨(b6.cell (World.block_lt_of_cell? v4 _ hh.1)).trans hh.1, (b6.cell (World.block_lt_of_cell? v4 _ hh.2.1)).trans hh.2.1, (b6.cell (World.block_lt_of_cell? v4 _ hh.2.2.1)).trans hh.2.2.1, (b6.cell (World.block_lt_of_cell? v4 _ hh.2.2.2.1)).trans hh.2.2.2.1, (b6.cell (World.block_lt_of_cell? v4 _ hh.2.2.2.2.1)).trans hh.2.2.2.2.1, (b6.cell (World.block_lt_of_cell? v4 _ hh.2.2.2.2.2.1)).trans hh.2.2.2.2.2.1, (b6.cell (World.block_lt_of_cell? v4 _ hh.2.2.2.2.2.2)).trans hh.2.2.2.2.2.2⟩)
   clear hat b6 hbv
   go_wp2_with fail
   refine hK.out _ _ HS6.out (fun _ => ?_)
   clear hK KP hh hw1 hmM hm0
   try simp only [qP]
   refine anyK_done (by kernel_rfl) ?_ _
   cases hb : bv with
   | true =>
    have HNo := hid (addT_no (ns := ns) (root := root) (q := ⟨KQ, NQ, FQ, ZQ, iq⟩) (by rw [HT.out, HEn.out, HAt.out, hb]; rfl))
    have HC6 := hid (HBx.out w6 HB6.out).2.1
    have HBw := hid (HBx.out w6 HB6.out).2.2.2
    clear hb
    go_wp2_with (refine wpList_store_row rfl 33 (.tmp 6) _ rfl p6 #[.slice none 0 0, .int .i64 0] rfl rfl 33 _ HC6.out size_tr11 rfl (by simp [Value.oneCell']) ?_)
    exact bodyPost_ret (results_cell_tmp11 Tryz.results9 _ _ p6 33 #[.slice none 0 0, .int .i64 0] (0, 0) _ rfl (setRow_heap _ _ _ _ _ _ HC6.out) Tryz.underlying33 rfl size_tr11) rfl ⟨.slice none 0 0, by rw [HNo.out]; rfl, by rw [HNo.out]; exact OwnD.nil _ _ _, below_setRow HBw.out (by have := HP.out; omega) _⟩
   | false =>
    have HNot := hid (HAt.out.trans hb)
    clear hb
    have HTab6 := hid (HTab.out.1.below (HB24.out.trans (HB46.out.mono HB24.out.size)))
    have HWay6 := hid (HWay.out.below HB46.out)
    have HWR := hid (way_rev ⟨KQ, NQ, FQ, ZQ, iq⟩ HT.out)
    have HFm := hid (tree_forms HT.out)
    have HRt := hid (And.intro (treeIs_parts HT.out).1.2.1 (treeIs_parts HT.out).1.2.2.1)
    have hrow6 : Row U1 (.slice aq zq cq) ZQ := ⟨aq, cq, by rw [HQQ.out.1], by rw [HQQ.out.1]; exact HQ.out.below HB1.out qN, HCq.out, by rw [HQQ.out.1]; have := HQQ.out.2.2; unfold maxLen; omega⟩
    have HRow6 := hid hrow6
    have HR8w := hid (HBx.out w6 HB6.out).2.2.1
    have e0 : w6.cell? ⟨p8, 0, none⟩ = some (.int .i64 KQ) := qC HR8w.out
    have e1 : w6.cell? ⟨p8, 1, none⟩ = some (.int .i64 NQ) := qC HR8w.out
    have e2 : w6.cell? ⟨p8, 2, none⟩ = some (.float .f64 FQ) := qC HR8w.out
    have e3 : w6.cell? ⟨p8, 3, none⟩ = some (.slice aq zq cq) := qC HR8w.out
    have e4 : w6.cell? ⟨p8, 4, none⟩ = some (.int .i64 iq) := qC HR8w.out
    clear hrow6
    go_wp2_with fail
    clear e0 e1 e2 e3 e4
    refine (impl_add (m := M1) (e := ⟨KQ, NQ, FQ, ZQ, iq⟩) (root := root) HTab6.out HTab.out.2 HRt.out HFm.out HRow6.out HQQ.out.2.1 (by rw [HQQ.out.1]; exact HQQ.out.2.2) (by rw [List.length_reverse, HWay6.out.len]; exact HM1.out) (by have := HWR.out.len; rw [List.length_reverse, HWay6.out.len] at this; have := HLen.out; have := HM1.out; omega) (by have := HM1.out; omega) HLen.out (fun j hj => HWR.out.st j (by rw [List.length_reverse, HWay6.out.len]; have := HM1.out; omega)) HWay6.out.ty (by have := HWay6.out.rev; rw [HM1.out] at this; exact this)).mono ?_
    rintro e w7 ⟨rfl, ha⟩
    obtain ⟨A9, gF, gsF, nsF, rF, ht7, hgF, hrF, hfm, hadd⟩ := added_end HT.out HEn.out HNot.out ha
    obtain ⟨rr, cr, hq7, htab, hnum, hm7, hkb7⟩ := ht7.laid (by omega) hfm
    have HB7 := hid ht7.bel
    have hroot7 : w7.cell? ⟨gF, 0, none⟩ = some (.int .i64 rF) := by
     have := hnum rF.toNat hrF.2
     rw [hgF] at this
     rw [this]
     congr 2
     omega
    obtain ⟨LN, hLN⟩ : ∃ LN, nsF.length = LN := ⟨_, rfl⟩
    rw [hLN] at hq7 htab hadd hkb7
    have HLN := hid hLN
    have HQ7 := hid hq7
    have HRt7 := hid hroot7
    have HTb7 := hid htab
    have HM7 := hid hm7
    have HKb7 := hid hkb7
    have HAdd := hid hadd
    have HSm7 := hid (all_small hfm)
    have cq0 : w7.cell? ⟨q, 0, none⟩ = some (.slice (some ⟨rr, 0, none⟩) LN cr) := qC HQ7.out
    clear ha ht7 hgF hrF hfm hadd hq7 htab hnum hm7 hkb7 hroot7 hLN
    by_cases h300 : 300 < LN
    · have hgt : (300 : Int) < (LN : Int) := by omega
      have HNo := hid (HAdd.out.trans (if_pos h300))
      have HC6 := hid (HBx.out w7 HB7.out).2.1
      have HBw := hid (HBx.out w7 HB7.out).2.2.2
      clear h300
      go_wp2_with (refine wpList_store_row rfl 33 (.tmp 6) _ rfl p6 #[.slice none 0 0, .int .i64 0] rfl rfl 33 _ HC6.out size_tr11 rfl (by simp [Value.oneCell']) ?_)
      exact bodyPost_ret (results_cell_tmp11 Tryz.results9 _ _ p6 33 #[.slice none 0 0, .int .i64 0] (0, 0) _ rfl (setRow_heap _ _ _ _ _ _ HC6.out) Tryz.underlying33 rfl size_tr11) rfl ⟨.slice none 0 0, by rw [HNo.out]; rfl, by rw [HNo.out]; exact OwnD.nil _ _ _, below_setRow HBw.out (by have := HP.out; omega) _⟩
    · have hgt : ¬ (300 : Int) < (LN : Int) := by omega
      have HYs := hid (HAdd.out.trans (if_neg h300))
      have H300 := hid (show LN ≤ 300 by omega)
      clear h300
      go_wp2_with fail
      clear cq0 hgt
      refine (impl_tree HQ7.out HRt7.out HTb7.out H300.out HLN.out (fun i => (HSm7.out i).1) (fun i => (HSm7.out i).2) HM7.out (fun i j => ⟨by have := (HKb7.out i j).1; omega, by have := (HKb7.out i j).2; have := H300.out; omega⟩)).mono ?_
      rintro e w9 ⟨v, rfl, ov, b9⟩
      obtain ⟨av, cv, hv⟩ := ov.slice
      rw [HLN.out] at hv
      subst hv
      have HOv := hid ov
      have HB9 := hid (HB7.out.trans (b9.mono HB7.out.size))
      have HC6 := hid (HBx.out w9 HB9.out).2.1
      have HBw9 := hid (HBx.out w9 HB9.out).2.2.2
      have HSz8 := hid (show p6 < w7.heap.size by have := HP.out; have := HP8.out; have := HZ8.out; have := HB7.out.size; omega)
      clear ov b9
      go_wp2_with (refine wpList_store_row rfl 33 (.tmp 6) _ rfl p6 #[.slice av LN cv, .int .i64 rF] rfl rfl 33 _ HC6.out size_tr11 rfl (by simp [Value.oneCell']) ?_)
      refine bodyPost_ret (results_cell_tmp11 Tryz.results9 _ _ p6 33 #[.slice av LN cv, .int .i64 rF] (0, 0) _ rfl (setRow_heap _ _ _ _ _ _ HC6.out) Tryz.underlying33 rfl size_tr11) rfl ⟨.slice av LN cv, by rw [HYs.out]; rfl, ?_, below_setRow HBw9.out (by have := HP.out; omega) _⟩
      rw [HYs.out]
      have g2 := row_grown11 w9 p6 #[.slice av LN cv, .int .i64 rF]
      have hsz : (w9.setRow p6 #[.slice av LN cv, .int .i64 rF]).heap.size = w9.heap.size := by simp
      rw [hsz]
      exact (HOv.out.agree (fun p p1 p2 => g2.block p p2 (by have := HSz8.out; simp; omega))).mono (by have := HSz8.out; have := HP.out; have := HB7.out.size; have := HB1.out.size; omega) qN
end Go.Proofs.YtlkoghdajpbffaaGreat
/- How many entries are not above one, as the specification counts them. Conditions: at most 100000 entries, texts of at most 2^21 bytes. -/


namespace Go.Proofs.YtlkoghdajpbffaaGreat
open Go.RowKit
set_option maxRecDepth 100000
theorem ups_step (es : List En) (q : En) {k : Nat} (hk : k < es.length) : upsB (es.take (k + 1)) q = upsB (es.take k) q + (if ltE q (es.getD k en0) then 0 else 1) := by
 unfold upsB
 rw [take_snoc es k en0 hk, List.countP_append]
 congr 1
 generalize es.getD k en0 = z
 cases h : ltE q z <;> simp [h]
set_option maxHeartbeats 6400000 in
theorem spec_l11ups {a : Option Addr} {n : Nat} (c : Nat) {es : List En} (KQ NQ : Int) (FQ : Nat) {aq : Option Addr} {zq : Nat} (cq : Nat) (iq : Int) {ZQ : List Int} {w : World} (hr : ReadsE w a es) (hn : es.length = n) (hn4 : n ≤ 100000) (hm : ∀ j, (es.getD j en0).Z.length ≤ 2097152) (hq : Reads w aq zq ZQ) (hqq : ZQ.length = zq ∧ FQ < 18446744073709551616 ∧ zq ≤ 2097152) :
 Calls Tryz.prog 44 #[.slice a n c, .agg #[.int .i64 KQ, .int .i64 NQ, .float .f64 FQ, .slice aq zq cq, .int .i64 iq]] w fun e w' => e = .returned (.int .i64 (upsB es ⟨KQ, NQ, FQ, ZQ, iq⟩ : Nat)) ∧ Below w.heap.size w w' := by
 have hst := fun w a m => run_store Tryz.prog w a (.float .f64 FQ) m rfl
 have HBX := hid (Below.alloc1 w (.cells #[.int .i64 KQ, .int .i64 NQ, .float .f64 FQ, .slice aq zq cq, .int .i64 iq] 48))
 have HR0 := hid (heap_alloc_new w (.cells #[.int .i64 KQ, .int .i64 NQ, .float .f64 FQ, .slice aq zq cq, .int .i64 iq] 48))
 have HZ0 := hid (alloc_size w (.cells #[.int .i64 KQ, .int .i64 NQ, .float .f64 FQ, .slice aq zq cq, .int .i64 iq] 48))
 have HR := hid hr
 have HN := hid hn
 have HM := hid hm
 have HQ := hid hq
 have HQQ := hid hqq
 clear hr hn hm hq hqq
 go_enter Tryz.func44, Tryz.ntmps44
 go_wp2_with fail
 generalize w.alloc (.cells #[.int .i64 KQ, .int .i64 NQ, .float .f64 FQ, .slice aq zq cq, .int .i64 iq] 48) = V at *
 obtain ⟨p0, hp0⟩ : ∃ p0, w.heap.size = p0 := ⟨_, rfl⟩
 have HP := hid hp0
 rw [hp0] at HR0
 try simp only [hp0]
 clear hp0
 go_loopw [5, 6] (fun s i wr => ∃ (k m : Nat), k ≤ n ∧ m ≤ k ∧ i = .int .i64 k ∧ s = .int .i64 m ∧ Hid (upsB (es.take k) ⟨KQ, NQ, FQ, ZQ, iq⟩ = m) ∧ Hid (Below V.heap.size V wr)) (fun _ i _ => n - (intOf i).toNat)
 case atStart => exact ⟨0, 0, Nat.zero_le _, Nat.zero_le _, rfl, rfl, hid rfl, hid (Below.refl _ _)⟩
 case round =>
  obtain ⟨k, m, hk, hmk, rfl, rfl, HA, HB⟩ := hrel
  by_cases hlt : k < n
  · have hlt' : (k : Int) < (n : Int) := by omega
    have hk0 : (0 : Int) ≤ (k : Int) := by omega
    have hkl : k < es.length := by have := HN.out; omega
    obtain ⟨b, off, a1, c1, rfl, bx, rz, _, _, hF⟩ := HR.out.at hkl
    have hz1 := HM.out k
    have HNx := hid (ups_step es ⟨KQ, NQ, FQ, ZQ, iq⟩ hkl)
    generalize es.getD k en0 = ee at *
    obtain ⟨K, N, F, Z, id⟩ := ee
    simp only at bx rz hz1 hF
    obtain ⟨z, hz⟩ : ∃ z, Z.length = z := ⟨_, rfl⟩
    rw [hz] at bx rz hz1
    have HZ := hid hz
    have HRz := hid rz
    have HBx := hid bx
    have hstF := fun w a m => run_store Tryz.prog w a (.float .f64 F) m rfl
    have HKq := hid (show ∀ W, Below wr.heap.size wr W → (W.cell? ⟨p0, 0, none⟩ = some (.int .i64 KQ) ∧ W.cell? ⟨p0, 1, none⟩ = some (.int .i64 NQ) ∧ W.cell? ⟨p0, 2, none⟩ = some (.float .f64 FQ) ∧ W.cell? ⟨p0, 3, none⟩ = some (.slice aq zq cq) ∧ W.cell? ⟨p0, 4, none⟩ = some (.int .i64 iq)) ∧ W.cell? ⟨b, off + k * 5, none⟩ = some (.int .i64 K) ∧ W.cell? ⟨b, off + k * 5 + 1, none⟩ = some (.int .i64 N) ∧ W.cell? ⟨b, off + k * 5 + 2, none⟩ = some (.float .f64 F) ∧ W.cell? ⟨b, off + k * 5 + 3, none⟩ = some (.slice a1 z c1) ∧ W.cell? ⟨b, off + k * 5 + 4, none⟩ = some (.int .i64 id) from fun W bb => by
     have h1 := HP.out; have h2 := HZ0.out; have h3 := HB.out.size
     have r1 := (bb.block p0 (by omega)).trans ((HB.out.block p0 (by omega)).trans HR0.out)
     obtain ⟨y0, y1, y2, y3, y4⟩ := HBx.out.below (HBX.out.trans ((HB.out.trans (bb.mono HB.out.size)).mono HBX.out.size)) qN
     exact ⟨⟨qC r1, qC r1, qC r1, qC r1, qC r1⟩, y0, y1, y2, y3, y4⟩)
    have BC := hid ((Still.drew wr).below wr.heap.size)
    clear bx rz hz
    go_wp2_with fail
    refine region_K 99 (fun W => (W.cell? ⟨p0, 0, none⟩ = some (.int .i64 KQ) ∧ W.cell? ⟨p0, 1, none⟩ = some (.int .i64 NQ) ∧ W.cell? ⟨p0, 2, none⟩ = some (.float .f64 FQ) ∧ W.cell? ⟨p0, 3, none⟩ = some (.slice aq zq cq) ∧ W.cell? ⟨p0, 4, none⟩ = some (.int .i64 iq)) ∧ W.cell? ⟨b, off + k * 5, none⟩ = some (.int .i64 K) ∧ W.cell? ⟨b, off + k * 5 + 1, none⟩ = some (.int .i64 N) ∧ W.cell? ⟨b, off + k * 5 + 2, none⟩ = some (.float .f64 F) ∧ W.cell? ⟨b, off + k * 5 + 3, none⟩ = some (.slice a1 z c1) ∧ W.cell? ⟨b, off + k * 5 + 4, none⟩ = some (.int .i64 id)) (by kernel_rfl) (HKq.out _ BC.out) (fun hh => ?_)
    generalize wr.drew = vd at *
    refine qT 0 rfl hh 13 rfl ?_
    refine qT 1 rfl hh 14 rfl ?_
    refine qT 2 rfl hh 15 rfl ?_
    refine qT 3 rfl hh 16 rfl ?_
    refine qT 4 rfl hh 17 rfl ?_
    refine qS 5 rfl fun KP hK => ?_
    go_simp
    have HWv := hid (HBX.out.trans ((HB.out.trans (BC.out.mono HB.out.size)).mono HBX.out.size))
    refine (spec_less KQ NQ FQ cq iq K N F c1 id HQQ.out.2.1 hF (HQ.out.below HWv.out qN) (HRz.out.below HWv.out qN) HQQ.out.2.2 hz1).mono ?_
    rintro e v1 ⟨rfl, b1⟩
    replace BC := hid (BC.out.trans (b1.mono BC.out.size))
    have HEX2 := hid (show ltE ⟨KQ, NQ, FQ, ZQ, iq⟩ ⟨K, N, F, Z, id⟩ = ltB (cmpI KQ NQ FQ zq ZQ K N F z Z) iq id by unfold ltE cmpE; simp only [HZ.out, HQQ.out.1])
    generalize ltB (cmpI KQ NQ FQ zq ZQ K N F z Z) iq id = X2 at *
    clear b1 hh HWv
    go_wp2_with fail
    refine hK.out _ _ (HKq.out _ BC.out) (fun hh => ?_)
    clear hK KP
    try simp only [qP]
    cases X2 with
    | true =>
     refine qT 6 rfl hh 19 rfl ?_
     refine anyK_done (by kernel_rfl) ?_ _
     clear hh
     have HNo := hid (show upsB (es.take (k + 1)) ⟨KQ, NQ, FQ, ZQ, iq⟩ = m from by rw [HNx.out, HA.out, HEX2.out]; rfl)
     have HB9 := hid (HB.out.trans (BC.out.mono HB.out.size))
     go_wp2_with fail
     go_roundw
     case rel => exact ⟨k + 1, m, by omega, by omega, by go_num, rfl, HNo, HB9⟩
     case measure => simp [intOf]; omega
    | false =>
     refine qT 6 rfl hh 19 rfl ?_
     refine anyK_done (by kernel_rfl) ?_ _
     clear hh
     have HNo := hid (show upsB (es.take (k + 1)) ⟨KQ, NQ, FQ, ZQ, iq⟩ = m + 1 from by rw [HNx.out, HA.out, HEX2.out]; rfl)
     have HB9 := hid (HB.out.trans (BC.out.mono HB.out.size))
     go_wp2_with fail
     go_roundw
     case rel => exact ⟨k + 1, m + 1, by omega, by omega, by go_num, by go_num, HNo, HB9⟩
     case measure => simp [intOf]; omega
  · have hlt' : ¬ (k : Int) < (n : Int) := by omega
    have HNo := hid (show upsB es ⟨KQ, NQ, FQ, ZQ, iq⟩ = m from by have := HA.out; rwa [List.take_of_length_le (by have := HN.out; omega)] at this)
    go_wp2_with fail
    go_ret
    exact ⟨by rw [HNo.out]; rfl, HBX.out.trans (HB.out.mono HBX.out.size)⟩
end Go.Proofs.YtlkoghdajpbffaaGreat
