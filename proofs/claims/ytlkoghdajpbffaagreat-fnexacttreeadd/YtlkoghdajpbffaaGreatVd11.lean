/- The specification's TreeAdd. Conditions: texts of at most 2^21 bytes. -/
import Derived.Test.YtlkoghdajpbffaaGreatMgC
import Derived.Test.YtlkoghdajpbffaaGreatVc11
import Derived.Test.YtlkoghdajpbffaaGreatMgt
namespace Go.Proofs.YtlkoghdajpbffaaGreat
open Go.RowKit
set_option maxRecDepth 100000
set_option maxHeartbeats 12800000 in
theorem spec_TreeAdd {ad : Option Addr} {N : Nat} (cap : Nat) (root : Int) {ns : List Nd} (KQ NQ : Int) (FQ : Nat) {aq : Option Addr} {zq : Nat} (cq : Nat) (iq : Int) {ZQ : List Int} {w : World} (hR : ReadsD w ad ns) (hns : ns.length = N) (hm : ∀ i j, ((ns.getD i nd0).es.getD j en0).Z.length ≤ 2097152) (hkap : KapD w ad N) (hqn : aq = none → cq = 0) (hq : Reads w aq zq ZQ) (hqq : ZQ.length = zq ∧ FQ < 18446744073709551616 ∧ zq ≤ 2097152) :
 Calls Tryz.prog 6 #[.agg #[.slice ad N cap, .int .i64 root], .agg #[.int .i64 KQ, .int .i64 NQ, .float .f64 FQ, .slice aq zq cq], .int .i64 iq] w fun e w' => ∃ a c, e = .returned (.tuple #[.agg #[.slice a (addT ns root ⟨KQ, NQ, FQ, ZQ, iq⟩).1.length c, .int .i64 (addT ns root ⟨KQ, NQ, FQ, ZQ, iq⟩).2.1], .bool (addT ns root ⟨KQ, NQ, FQ, ZQ, iq⟩).2.2]) ∧ (∃ b ys, NsR w' b (.slice a (addT ns root ⟨KQ, NQ, FQ, ZQ, iq⟩).1.length c) (addT ns root ⟨KQ, NQ, FQ, ZQ, iq⟩).1 ys) ∧ Below w.heap.size w w' := by
 have hst := fun w a m => run_store Tryz.prog w a (.float .f64 FQ) m rfl
 have HRR := hid (three11 w (.cells #[.slice ad N cap, .int .i64 root] 33) (.cells #[.int .i64 KQ, .int .i64 NQ, .float .f64 FQ, .slice aq zq cq] 37) (.cells #[.slice none 0 0, .int .i64 0] 33))
 have HR := hid hR
 have HNs := hid hns
 have HM := hid hm
 have HKap := hid hkap
 have HQn := hid hqn
 have HQ := hid hq
 have HQQ := hid hqq
 clear hR hns hm hkap hqn hq hqq
 go_enter Tryz.func6, Tryz.ntmps6
 go_upto_region 1 with fail
 generalize (((w.alloc (.cells #[.slice ad N cap, .int .i64 root] 33)).alloc (.cells #[.int .i64 KQ, .int .i64 NQ, .float .f64 FQ, .slice aq zq cq] 37)).alloc (.cells #[.slice none 0 0, .int .i64 0] 33)) = U at *
 obtain ⟨p6, hp6⟩ : ∃ p6, w.heap.size + 1 + 1 = p6 := ⟨_, rfl⟩
 obtain ⟨p4, hp4⟩ : ∃ p4, w.heap.size + 1 = p4 := ⟨_, rfl⟩
 obtain ⟨p3, hp3⟩ : ∃ p3, w.heap.size = p3 := ⟨_, rfl⟩
 have hRR := HRR.out
 rw [hp6, hp4, hp3] at hRR
 obtain ⟨r3, r4, r6, hzU, -⟩ := hRR
 have HP := hid (show w.heap.size ≤ p3 ∧ p3 < p4 ∧ p4 < p6 ∧ p6 < U.heap.size by omega)
 have HBU := hid HRR.out.2.2.2.2
 have HR3 := hid r3
 have HR4 := hid r4
 have HR6 := hid r6
 try simp only [hp6]
 try simp only [hp4]
 try simp only [hp3]
 clear hp3 hp4 hp6 r3 r4 r6 hzU HRR
 have e0 : U.cell? ⟨p4, 0, none⟩ = some (.int .i64 KQ) := qC HR4.out
 have e1 : U.cell? ⟨p4, 1, none⟩ = some (.int .i64 NQ) := qC HR4.out
 have e2 : U.cell? ⟨p4, 2, none⟩ = some (.float .f64 FQ) := qC HR4.out
 have e3 : U.cell? ⟨p4, 3, none⟩ = some (.slice aq zq cq) := qC HR4.out
 go_wp2_with fail
 clear e0 e1 e2 e3
 refine (spec_l3copy KQ NQ FQ cq HQn.out (HQ.out.below HBU.out qN) HQQ.out.2.2).mono ?_
 rintro e u1 ⟨vq, rfl, oq, b1⟩
 obtain ⟨a2, c2, ev, rq, -⟩ := Reads.own oq HQ.out.bd
 subst ev
 have HRq := hid rq
 have HTq0 := hid (show TxR u1 (.slice a2 zq c2) ZQ from ⟨⟨_, by rw [HQQ.out.1]; exact oq⟩, HQ.out.bd⟩)
 have HBu := hid b1
 clear oq b1 rq
 go_upto_region 2 with fail
 have HBD := hid (Below.alloc1 u1 (.cells #[.int .i64 KQ, .int .i64 NQ, .float .f64 FQ, .slice a2 zq c2, .int .i64 iq] 48))
 have HR8 := hid (heap_alloc_new u1 (.cells #[.int .i64 KQ, .int .i64 NQ, .float .f64 FQ, .slice a2 zq c2, .int .i64 iq] 48))
 have HZ8 := hid (alloc_size u1 (.cells #[.int .i64 KQ, .int .i64 NQ, .float .f64 FQ, .slice a2 zq c2, .int .i64 iq] 48))
 generalize u1.alloc (.cells #[.int .i64 KQ, .int .i64 NQ, .float .f64 FQ, .slice a2 zq c2, .int .i64 iq] 48) = U2 at *
 obtain ⟨p8, hp8⟩ : ∃ p8, u1.heap.size = p8 := ⟨_, rfl⟩
 rw [hp8] at HR8 HZ8
 have HP8 := hid hp8
 try simp only [hp8]
 clear hp8
 have HBu2 := hid (show Below U.heap.size U U2 from HBu.out.trans (HBD.out.mono HBu.out.size))
 have HB1 := hid (HBU.out.trans (HBu2.out.mono HBU.out.size))
 have HBx := hid (show BxD w U2 p3 p6 p8 (.cells #[.slice ad N cap, .int .i64 root] 33) (.cells #[.slice none 0 0, .int .i64 0] 33) (.cells #[.int .i64 KQ, .int .i64 NQ, .float .f64 FQ, .slice a2 zq c2, .int .i64 iq] 48) from fun W b => by
  have h1 := HP.out; have h2 := HZ8.out; have h3 := HP8.out; have h4 := HBu.out.size
  exact ⟨(b.block p3 (by omega)).trans ((HBu2.out.block p3 (by omega)).trans HR3.out), (b.block p6 (by omega)).trans ((HBu2.out.block p6 (by omega)).trans HR6.out), (b.block p8 (by omega)).trans HR8.out, HB1.out.trans (b.mono HB1.out.size)⟩)
 have HQ2 := hid (HRq.out.below HBD.out qN)
 have HTq := hid (HTq0.out.kn (KN.below HBD.out))
 have HEn := hid (show entOk ⟨KQ, NQ, FQ, ZQ, iq⟩ = entB KQ NQ FQ zq iq by unfold entOk; simp only [HQQ.out.1])
 have HSame := hid (tree_same ns root)
 have HKq := hid (show ∀ W, Below U2.heap.size U2 W → (W.cell? ⟨p3, 0, none⟩ = some (.slice ad N cap) ∧ W.cell? ⟨p3, 1, none⟩ = some (.int .i64 root)) ∧ W.cell? ⟨p8, 0, none⟩ = some (.int .i64 KQ) ∧ W.cell? ⟨p8, 1, none⟩ = some (.int .i64 NQ) ∧ W.cell? ⟨p8, 2, none⟩ = some (.float .f64 FQ) ∧ W.cell? ⟨p8, 3, none⟩ = some (.slice a2 zq c2) ∧ W.cell? ⟨p8, 4, none⟩ = some (.int .i64 iq) from fun W bb => by
  obtain ⟨r3, _, r8, _⟩ := HBx.out W bb
  exact ⟨⟨qC r3, qC r3⟩, qC r8, qC r8, qC r8, qC r8, qC r8⟩)
 have BC := hid ((Still.drew U2).below U2.heap.size)
 refine region_K 99 (fun W => (W.cell? ⟨p3, 0, none⟩ = some (.slice ad N cap) ∧ W.cell? ⟨p3, 1, none⟩ = some (.int .i64 root)) ∧ W.cell? ⟨p8, 0, none⟩ = some (.int .i64 KQ) ∧ W.cell? ⟨p8, 1, none⟩ = some (.int .i64 NQ) ∧ W.cell? ⟨p8, 2, none⟩ = some (.float .f64 FQ) ∧ W.cell? ⟨p8, 3, none⟩ = some (.slice a2 zq c2) ∧ W.cell? ⟨p8, 4, none⟩ = some (.int .i64 iq)) (by kernel_rfl) (HKq.out _ BC.out) (fun hh => ?_)
 generalize U2.drew = vd at *
 refine qT 0 rfl hh 17 rfl ?_
 refine qS 1 rfl fun KP hK => ?_
 go_simp
 refine (spec_TreeOk cap root (HR.out.below (HB1.out.trans (BC.out.mono HB1.out.size)) qN) HNs.out HM.out).mono ?_
 rintro e v1 ⟨rfl, b1⟩
 replace BC := hid (BC.out.trans (b1.mono BC.out.size))
 clear b1
 generalize treeOk ns root = X1 at *
 clear hh
 go_wp2_with fail
 refine hK.out _ _ (HKq.out _ BC.out) (fun hh => ?_)
 clear hK KP
 try simp only [qP]
 cases X1 with
 | false =>
  refine qT 2 rfl hh 19 rfl ?_
  refine qT 3 rfl hh 20 rfl ?_
  refine qK 4 rfl hh 21 rfl ?_
  refine qK 5 rfl hh 22 rfl ?_
  refine qK 6 rfl hh 23 rfl ?_
  refine qT 7 rfl hh 24 rfl ?_
  refine qT 8 rfl hh 25 rfl ?_
  refine qK 9 rfl hh 26 rfl ?_
  refine qK 10 rfl hh 27 rfl ?_
  refine qK 11 rfl hh 28 rfl ?_
  refine qK 12 rfl hh 29 rfl ?_
  refine qT 13 rfl hh 30 rfl ?_
  refine anyK_done (by kernel_rfl) ?_ _
  clear hh
  have HNo := hid (addT_not (ns := ns) (root := root) (q := ⟨KQ, NQ, FQ, ZQ, iq⟩) (by rw [← HSame.out]; rfl))
  have HC6 := hid (HBx.out v1 BC.out).2.1
  have HBw := hid (HBx.out v1 BC.out).2.2.2
  go_wp2_with (refine wpList_store_row rfl 33 (.tmp 6) _ rfl p6 #[.slice none 0 0, .int .i64 0] rfl rfl 33 _ HC6.out size_tr11 rfl (by simp [Value.oneCell']) ?_)
  exact bodyPost_ret (results_cell_tmp11 Tryz.results6 _ _ p6 33 #[.slice none 0 0, .int .i64 0] (0, 0) _ rfl (setRow_heap _ _ _ _ _ _ HC6.out) Tryz.underlying33 rfl size_tr11) rfl ⟨none, 0, by rw [HNo.out]; rfl, by rw [HNo.out]; exact ⟨0, [], NsR.nil _ _⟩, below_setRow HBw.out (by have := HP.out; omega) _⟩
 | true =>
  refine qT 2 rfl hh 19 rfl ?_
  refine qT 3 rfl hh 20 rfl ?_
  refine qT 4 rfl hh 21 rfl ?_
  refine qS 5 rfl fun KP hK => ?_
  go_simp
  refine (spec_entry KQ NQ FQ a2 zq c2 iq HQQ.out.2.1 HQQ.out.2.2 v1).mono ?_
  rintro e v2 ⟨rfl, b1⟩
  replace BC := hid (BC.out.trans (b1.mono BC.out.size))
  clear b1
  generalize entB KQ NQ FQ zq iq = X2 at *
  clear hh
  go_wp2_with fail
  refine hK.out _ _ (HKq.out _ BC.out) (fun hh => ?_)
  clear hK KP
  try simp only [qP]
  cases X2 with
  | false =>
   refine qT 6 rfl hh 23 rfl ?_
   refine qT 7 rfl hh 24 rfl ?_
   refine qT 8 rfl hh 25 rfl ?_
   refine qK 9 rfl hh 26 rfl ?_
   refine qK 10 rfl hh 27 rfl ?_
   refine qK 11 rfl hh 28 rfl ?_
   refine qK 12 rfl hh 29 rfl ?_
   refine qT 13 rfl hh 30 rfl ?_
   refine anyK_done (by kernel_rfl) ?_ _
   clear hh
   have HNo := hid (addT_not (ns := ns) (root := root) (q := ⟨KQ, NQ, FQ, ZQ, iq⟩) (by rw [HEn.out, Bool.false_and, Bool.and_false]))
   have HC6 := hid (HBx.out v2 BC.out).2.1
   have HBw := hid (HBx.out v2 BC.out).2.2.2
   go_wp2_with (refine wpList_store_row rfl 33 (.tmp 6) _ rfl p6 #[.slice none 0 0, .int .i64 0] rfl rfl 33 _ HC6.out size_tr11 rfl (by simp [Value.oneCell']) ?_)
   exact bodyPost_ret (results_cell_tmp11 Tryz.results6 _ _ p6 33 #[.slice none 0 0, .int .i64 0] (0, 0) _ rfl (setRow_heap _ _ _ _ _ _ HC6.out) Tryz.underlying33 rfl size_tr11) rfl ⟨none, 0, by rw [HNo.out]; rfl, by rw [HNo.out]; exact ⟨0, [], NsR.nil _ _⟩, below_setRow HBw.out (by have := HP.out; omega) _⟩
  | true =>
   refine qT 6 rfl hh 23 rfl ?_
   refine qT 7 rfl hh 24 rfl ?_
   refine qT 8 rfl hh 25 rfl ?_
   refine qT 9 rfl hh 26 rfl ?_
   refine qT 11 rfl hh 28 rfl ?_
   have HT := hid (show treeIs ns root = true from HSame.out.symm)
   refine qS 10 rfl fun KP hK => ?_
   go_simp
   refine (spec_TreeAll cap root (HR.out.below (HB1.out.trans (BC.out.mono HB1.out.size)) qN) HNs.out HM.out).mono ?_
   rintro e v3 ⟨va, rfl, oa, b1⟩
   obtain ⟨aa, ca, ea⟩ := oa.slice
   subst ea
   replace BC := hid (BC.out.trans (b1.mono BC.out.size))
   have HAll := hid oa.rd
   obtain ⟨na, hna⟩ : ∃ na, (allS ns root).length = na := ⟨_, rfl⟩
   rw [hna]
   have HNa := hid hna
   clear b1 oa hna
   clear hh
   go_wp2_with fail
   refine hK.out _ _ (HKq.out _ BC.out) (fun hh => ?_)
   clear hK KP
   try simp only [qP]
   refine qS 12 rfl fun KP hK => ?_
   go_simp
   refine (spec_l11there ca KQ NQ FQ c2 iq HAll.out HNa.out (by have := allS_small ns root; have := HNa.out; omega) (fun j => by
    rcases getD_mem_or (allS ns root) j en0 with e | e
    · rw [e]; simp [en0]
    · have := entOk_small (allS_ok ns root _ e); omega) (HQ2.out.below BC.out qN) HQQ.out).mono ?_
   rintro e v4 ⟨rfl, b1⟩
   replace BC := hid (BC.out.trans (b1.mono BC.out.size))
   have HTh := hid (there_iff HT.out (e := ⟨KQ, NQ, FQ, ZQ, iq⟩) HEn.out)
   generalize (allS ns root).any (fun z => !offE ⟨KQ, NQ, FQ, ZQ, iq⟩ z) = X3 at *
   clear b1 HAll
   clear hh
   go_wp2_with fail
   refine hK.out _ _ (HKq.out _ BC.out) (fun hh => ?_)
   clear hK KP
   try simp only [qP]
   cases X3 with
   | true =>
    refine qT 13 rfl hh 30 rfl ?_
    refine anyK_done (by kernel_rfl) ?_ _
    clear hh
    have HNo := hid (addT_not (ns := ns) (root := root) (q := ⟨KQ, NQ, FQ, ZQ, iq⟩) (by rw [← HTh.out, Bool.not_true, Bool.and_false, Bool.and_false]))
    have HC6 := hid (HBx.out v4 BC.out).2.1
    have HBw := hid (HBx.out v4 BC.out).2.2.2
    go_wp2_with (refine wpList_store_row rfl 33 (.tmp 6) _ rfl p6 #[.slice none 0 0, .int .i64 0] rfl rfl 33 _ HC6.out size_tr11 rfl (by simp [Value.oneCell']) ?_)
    exact bodyPost_ret (results_cell_tmp11 Tryz.results6 _ _ p6 33 #[.slice none 0 0, .int .i64 0] (0, 0) _ rfl (setRow_heap _ _ _ _ _ _ HC6.out) Tryz.underlying33 rfl size_tr11) rfl ⟨none, 0, by rw [HNo.out]; rfl, by rw [HNo.out]; exact ⟨0, [], NsR.nil _ _⟩, below_setRow HBw.out (by have := HP.out; omega) _⟩
   | false =>
    refine qT 13 rfl hh 30 rfl ?_
    refine anyK_done (by kernel_rfl) ?_ _
    clear hh
    have HNot := hid (show isAt ns root ⟨KQ, NQ, FQ, ZQ, iq⟩ = false from HTh.out.symm)
    have hsn := small_nodes HT.out
    have HNl := hid (treeIs_len HT.out)
    have hN3 : N ≤ 300 := by have := HNl.out; have := HNs.out; omega
    have HBv := hid (HB1.out.trans (BC.out.mono HB1.out.size))
    have c3a : v4.cell? ⟨p3, 0, none⟩ = some (.slice ad N cap) := (HKq.out _ BC.out).1.1
    have c3b : v4.cell? ⟨p3, 1, none⟩ = some (.int .i64 root) := (HKq.out _ BC.out).1.2
    have hkap4 : KapD v4 ad N := fun k hk b off n c a e h => by
     obtain ⟨b', off', a', c', a5, c5, e', h0, h1, h2, _⟩ := HR.out.at (k := k) (by have := HNs.out; omega)
     rw [e] at e'
     cases e'
     have hb := World.block_lt_of_cell? w _ h2
     exact HKap.out k hk e ((HBv.out.cell (p := ⟨b, off + k * 3 + 2, none⟩) hb).symm.trans h)
    have HKap4 := hid hkap4
    have HSn := hid hsn
    clear hkap4 hsn
    go_wp2_with fail
    clear c3a c3b
    refine (spec_l11copy cap root (HR.out.below HBv.out qN) HNs.out hN3 (fun i => (HSn.out i).1) (fun i => (HSn.out i).2) HM.out HKap4.out).mono ?_
    rintro e v5 ⟨aG, cG, ys0, rfl, hns0, b5⟩
    have HB5 := hid (BC.out.trans (b5.mono BC.out.size))
    have HSz5 := hid (show U2.heap.size ≤ v4.heap.size from BC.out.size)
    have hN1 : 0 < N := by
     have h := HT.out
     unfold treeIs at h
     rw [Bool.and_eq_true] at h
     have := (of_decide_eq_true h.1).1
     have := HNs.out
     omega
    obtain ⟨G, rfl⟩ : ∃ G, aG = some ⟨G, 0, none⟩ := by
     rcases hns0.own.2 with ⟨e, hz⟩ | ⟨g', cp, cu, e, _⟩
     · have := HNs.out; omega
     · cases e; exact ⟨g', rfl⟩
    have HG := hid (hns0.own.lt G rfl)
    have HBA := hid (Below.alloc1 v5 (.cells #[.slice (some ⟨G, 0, none⟩) N cG, .int .i64 root] 33))
    have HR9 := hid (heap_alloc_new v5 (.cells #[.slice (some ⟨G, 0, none⟩) N cG, .int .i64 root] 33))
    have HZ9 := hid (alloc_size v5 (.cells #[.slice (some ⟨G, 0, none⟩) N cG, .int .i64 root] 33))
    have HS0 := hid (hns0.below HBA.out)
    have HB6 := hid (HB5.out.trans (HBA.out.mono HB5.out.size))
    have HSz6 := hid b5.size
    have HTq6 := hid (HTq.out.kn (KN.below HB6.out))
    clear hns0 b5 hN1
    go_upto_region 5 with fail
    generalize v5.alloc (.cells #[.slice (some ⟨G, 0, none⟩) N cG, .int .i64 root] 33) = v6 at *
    obtain ⟨p9, hp9⟩ : ∃ p9, v5.heap.size = p9 := ⟨_, rfl⟩
    rw [hp9] at HR9 HZ9 HG HSz6
    try simp only [hp9]
    have HP9 := hid hp9
    clear hp9 HBA
    have c9 : v6.cell? ⟨p9, 1, none⟩ = some (.int .i64 root) := qC HR9.out
    have hx6 := HKq.out _ HB6.out
    obtain ⟨⟨-, -⟩, e0, e1, e2, e3, e4⟩ := hx6
    obtain ⟨xr, hxr⟩ := good_nat (treeIs_parts HT.out).1
    have HTold := hid (down_told (q := ⟨KQ, NQ, FQ, ZQ, iq⟩) HT.out HM.out (by show ZQ.length ≤ _; rw [HQQ.out.1]; exact HQQ.out.2.2))
    have HFmR := hid (down_form ⟨KQ, NQ, FQ, ZQ, iq⟩ HT.out)
    obtain ⟨R, hRd⟩ : ∃ R, downS (ns.length + 1) ns root ⟨KQ, NQ, FQ, ZQ, iq⟩ = R := ⟨_, rfl⟩
    rw [hRd] at HTold HFmR
    have hih := (spec_l11down (pT := p9) (b := v4.heap.size) (root := root) (e := ⟨KQ, NQ, FQ, ZQ, iq⟩) innerS HM.out HQQ.out.2.1 (by show ZQ.length ≤ _; rw [HQQ.out.1]; exact HQQ.out.2.2) (ns.length + 1) xr HTold.out.2.1 (by rw [← hxr]; exact (treeIs_parts HT.out).1) (by rw [← hxr]; exact HTold.out.2.2.2.2)).ok (A := fun _ => False) (G0 := G) (N := N) (c := cG) (ys := ys0) (ax := a2) (cx := c2) HR9.out HNs.out HS0.out (by have := HZ9.out; have := HSz6.out; omega) (by show TxR _ (.slice a2 ZQ.length c2) ZQ; rw [HQQ.out.1]; exact HTq6.out) (fun g h => h.elim) (fun i hi g e h => h.elim)
    dsimp only at hih
    rw [← hxr, HQQ.out.1, hRd] at hih
    have HRd := hid hRd
    clear hxr hRd
    go_wp2_with fail
    clear c9 e0 e1 e2 e3 e4
    refine hih.mono ?_
    clear hih
    rintro e v7 hd
    obtain ⟨G', c', ys', t1, t2, t3, t4⟩ := hd.ex
    have kp7 := hd.kp
    obtain ⟨q, ax, nx, cx, kk, rfl, han⟩ := hd.ans
    have HAn := hid han
    have HR97 := hid t1
    have HS7 := hid t2
    have HB7 := hid (HB6.out.trans (kp7.below (B := U2.heap.size) HB6.out.size (fun k hk e => by have := HG.out; have := HSz5.out; have := HP9.out; have := HB5.out.size; rcases e with e | e <;> omega)))
    have HSz7 := hid (show v6.heap.size ≤ v7.heap.size from kp7.size)
    clear hd t1 t2 t3 t4 kp7 han HS0 HR9
    obtain ⟨N1, hN1⟩ : ∃ N1, R.1.length = N1 := ⟨_, rfl⟩
    rw [hN1] at HR97 HS7 HTold
    have HN1 := hid hN1
    clear hN1
    have hstq := fun w a m => run_store Tryz.prog w a (.float .f64 q.F) m rfl
    have HBA := hid (Below.alloc1 v7 (.cells #[.int .i64 q.K, .int .i64 q.N, .float .f64 q.F, .slice ax nx cx, .int .i64 q.id] 48))
    have HR10 := hid (heap_alloc_new v7 (.cells #[.int .i64 q.K, .int .i64 q.N, .float .f64 q.F, .slice ax nx cx, .int .i64 q.id] 48))
    have HZ10 := hid (alloc_size v7 (.cells #[.int .i64 q.K, .int .i64 q.N, .float .f64 q.F, .slice ax nx cx, .int .i64 q.id] 48))
    go_upto_region 6 with fail
    have HS8 := hid (HS7.out.below HBA.out)
    have HR98 := hid ((HBA.out.block p9 (qL HR97.out)).trans HR97.out)
    have HB8 := hid (HB7.out.trans (HBA.out.mono HB7.out.size))
    have HAn8 := hid (show (R.2 = none ∧ kk = -1) ∨ (R.2 = some (q, kk) ∧ TxR (v7.alloc (.cells #[.int .i64 q.K, .int .i64 q.N, .float .f64 q.F, .slice ax nx cx, .int .i64 q.id] 48)) (.slice ax nx cx) q.Z ∧ q.F < 18446744073709551616) from by
     rcases HAn.out with h | ⟨h1, h2, h3⟩
     · exact .inl h
     · exact .inr ⟨h1, h2.kn (KN.below HBA.out), h3⟩)
    clear HS7 HR97 HAn
    generalize v7.alloc (.cells #[.int .i64 q.K, .int .i64 q.N, .float .f64 q.F, .slice ax nx cx, .int .i64 q.id] 48) = v8 at *
    obtain ⟨p10, hp10⟩ : ∃ p10, v7.heap.size = p10 := ⟨_, rfl⟩
    rw [hp10] at HR10 HZ10
    try simp only [hp10]
    have HP10 := hid hp10
    clear hp10 HBA
    rcases HAn8.out with ⟨h1, h2⟩ | ⟨h1, h2, h3⟩
    · subst h2
      have hkk : ¬ (0 : Int) ≤ -1 := by omega
      have HAd := hid (addT_none (ns1 := R.1) HT.out HEn.out HNot.out (by rw [HRd.out]; exact Prod.ext rfl h1))
      have HSmR := hid HTold.out.2.2.1
      clear h1
      have c9 : v8.cell? ⟨p9, 0, none⟩ = some (.slice (some ⟨G', 0, none⟩) N1 c') := qC HR98.out
      by_cases h300 : 300 < N1
      · have hgt : (300 : Int) < (N1 : Int) := by omega
        have HNo := hid (HAd.out.trans (if_pos (by rw [HN1.out]; exact h300)))
        clear h300
        have HC6 := hid (HBx.out v8 HB8.out).2.1
        have HBw := hid (HBx.out v8 HB8.out).2.2.2
        go_wp2_with (refine wpList_store_row rfl 33 (.tmp 6) _ rfl p6 #[.slice none 0 0, .int .i64 0] rfl rfl 33 _ HC6.out size_tr11 rfl (by simp [Value.oneCell']) ?_)
        exact bodyPost_ret (results_cell_tmp11 Tryz.results6 _ _ p6 33 #[.slice none 0 0, .int .i64 0] (0, 0) _ rfl (setRow_heap _ _ _ _ _ _ HC6.out) Tryz.underlying33 rfl size_tr11) rfl ⟨none, 0, by rw [HNo.out]; rfl, by rw [HNo.out]; exact ⟨0, [], NsR.nil _ _⟩, below_setRow HBw.out (by have := HP.out; omega) _⟩
      · have hgt : ¬ (300 : Int) < (N1 : Int) := by omega
        have HYs := hid (HAd.out.trans (if_neg (by rw [HN1.out]; exact h300)))
        have H300 := hid (show N1 ≤ 300 by omega)
        have c9b : v8.cell? ⟨p9, 1, none⟩ = some (.int .i64 root) := qC HR98.out
        clear h300
        go_wp2_with fail
        clear c9 c9b hgt
        refine (spec_l11copy c' root HS8.out.rd HN1.out H300.out (fun i => (forms_le HFmR.out i).1) (fun i => (forms_le HFmR.out i).2) HSmR.out (HS8.out.cap HN1.out).2).mono ?_
        rintro e w9 ⟨aZ, cZ, ysZ, rfl, hnz, b9⟩
        have HB9 := hid (HB8.out.trans (b9.mono HB8.out.size))
        have HC6 := hid (HBx.out w9 HB9.out).2.1
        have HBw := hid (HBx.out w9 HB9.out).2.2.2
        have HNz := hid (hnz.row (cs' := #[.slice aZ N1 cZ, .int .i64 root]) HC6.out)
        clear hnz b9
        go_wp2_with (refine wpList_store_row rfl 33 (.tmp 6) _ rfl p6 #[.slice aZ N1 cZ, .int .i64 root] rfl rfl 33 _ HC6.out size_tr11 rfl (by simp [Value.oneCell']) ?_)
        exact bodyPost_ret (results_cell_tmp11 Tryz.results6 _ _ p6 33 #[.slice aZ N1 cZ, .int .i64 root] (0, 0) _ rfl (setRow_heap _ _ _ _ _ _ HC6.out) Tryz.underlying33 rfl size_tr11) rfl ⟨aZ, cZ, by rw [HYs.out]; dsimp only; rw [HN1.out]; try rfl, ⟨_, ysZ, by rw [HYs.out]; dsimp only; rw [HN1.out]; exact HNz.out⟩, below_setRow HBw.out (by have := HP.out; omega) _⟩
    · obtain ⟨hq1, hq2, hq3⟩ := HTold.out.2.2.2.1 q kk h1
      have hkk : (0 : Int) ≤ kk := hq2
      have HTx := hid (And.intro h2 h3)
      have HAd := hid (addT_some (ns1 := R.1) (up := q) (k := kk) HT.out HEn.out HNot.out (by rw [HRd.out]; exact Prod.ext rfl h1))
      have HFmF := hid (root_form HFmR.out q root kk)
      have HSmF := hid (show ∀ i j, (((R.1 ++ [(⟨false, [q], [root, kk]⟩ : Nd)]).getD i nd0).es.getD j en0).Z.length ≤ 2097152 from root_sm HTold.out.2.2.1 q hq1 root kk)
      have HLnF := hid (show (R.1 ++ [(⟨false, [q], [root, kk]⟩ : Nd)]).length = N1 + 1 by rw [List.length_append, HN1.out]; rfl)
      have HNb := hid HTold.out.1
      have HMq := hid (show ∀ j, (([q] : List En).getD j en0).Z.length ≤ 2097152 from fun j => by
       cases j with
       | zero => exact hq1
       | succ j => simp [en0])
      have HBk := hid (show ∀ i, -9223372036854775808 ≤ ([root, kk] : List Int).getD i 0 ∧ ([root, kk] : List Int).getD i 0 ≤ 9223372036854775807 from fun i => by
       have h1 := (treeIs_parts HT.out).1.2.1
       have h2 := (treeIs_parts HT.out).1.2.2.1
       have := HNl.out
       match i with
       | 0 => simp only [List.getD_cons_zero]; omega
       | 1 => simp only [List.getD_cons_succ, List.getD_cons_zero]; omega
       | i + 2 => simp)
      have HSk := hid (show ∀ W, Below v8.heap.size v8 W → (fun W => W.cell? ⟨p10, 0, none⟩ = some (.int .i64 q.K) ∧ W.cell? ⟨p10, 1, none⟩ = some (.int .i64 q.N) ∧ W.cell? ⟨p10, 2, none⟩ = some (.float .f64 q.F) ∧ W.cell? ⟨p10, 3, none⟩ = some (.slice ax nx cx) ∧ W.cell? ⟨p10, 4, none⟩ = some (.int .i64 q.id) ∧ W.cell? ⟨p9, 1, none⟩ = some (.int .i64 root)) W from fun W bb => by
       have r10 := (bb.block p10 (qL HR10.out)).trans HR10.out
       have r9 := (bb.block p9 (qL HR98.out)).trans HR98.out
       exact ⟨qC r10, qC r10, qC r10, qC r10, qC r10, qC r9⟩)
      clear h1 h2 h3 hq1 hq2 hq3
      go_upto_region 7 with fail
      clear hkk
      go_cut [12] (fun s12 wx => ∃ (p12 : Nat) (am : Option Addr) (cm : Nat) (g6 : Nat) (xm : List Value), s12 = .pointer (some ⟨p12, 0, none⟩) ∧ Hid (wx.heap[p12]? = some (.cells #[.bool false, .slice am 1 cm, .slice (some ⟨g6, 0, none⟩) 2 2] 61)) ∧ Hid (EnR wx v8.heap.size (.slice am 1 cm) [q] xm) ∧ Hid (InR wx (.slice (some ⟨g6, 0, none⟩) 2 2) [root, kk]) ∧ Hid (Below v8.heap.size v8 wx) ∧ Hid (v8.heap.size ≤ p12))
      case first =>
       have BC := hid ((Still.drew v8).below v8.heap.size)
       refine region_K 99 (fun W => W.cell? ⟨p10, 0, none⟩ = some (.int .i64 q.K) ∧ W.cell? ⟨p10, 1, none⟩ = some (.int .i64 q.N) ∧ W.cell? ⟨p10, 2, none⟩ = some (.float .f64 q.F) ∧ W.cell? ⟨p10, 3, none⟩ = some (.slice ax nx cx) ∧ W.cell? ⟨p10, 4, none⟩ = some (.int .i64 q.id) ∧ W.cell? ⟨p9, 1, none⟩ = some (.int .i64 root)) (by kernel_rfl) (HSk.out _ BC.out) (fun hh => ?_)
       generalize v8.drew = vd at *
       refine qT 0 rfl hh 43 rfl ?_
       refine qT 3 rfl hh 46 rfl ?_
       refine qT 4 rfl hh 47 rfl ?_
       refine qT 5 rfl hh 48 rfl ?_
       refine anyK_three (i := 1) (j := 6) (k := 8) (by kernel_rfl) rfl rfl rfl (fun KP hK => ?_) (fun KP hK => ?_) (fun KP hK => ?_)
       · go_simp
         have HBL := hid (Below.alloc1 vd (.cells #[.int .i64 q.K, .int .i64 q.N, .float .f64 q.F, .slice ax nx cx, .int .i64 q.id] 48))
         have HEq := hid (show EnR (vd.alloc (.cells #[.int .i64 q.K, .int .i64 q.N, .float .f64 q.F, .slice ax nx cx, .int .i64 q.id] 48)) v8.heap.size (.slice (some ⟨vd.heap.size, 0, none⟩) 1 1) [q] [.slice ax nx cx] from ⟨rfl, World.ownsRow_lit (base := v8.heap.size) (e := 48) (size := 5) vd #[.int .i64 q.K, .int .i64 q.N, .float .f64 q.F, .slice ax nx cx, .int .i64 q.id] 1 BC.out.size (by unfold maxLen; omega) rfl, fun i hi => by obtain rfl : i = 0 := (by simpa using hi); exact ⟨(HTx.out.1.kn (KN.below BC.out)).kn (KN.below HBL.out), HTx.out.2⟩⟩)
         replace BC := hid (BC.out.trans (HBL.out.mono BC.out.size))
         clear hh
         refine hK.out _ _ (HSk.out _ BC.out) (fun hh => ?_)
         clear hK KP
         try simp only [qP]
         generalize vd.alloc (.cells #[.int .i64 q.K, .int .i64 q.N, .float .f64 q.F, .slice ax nx cx, .int .i64 q.id] 48) = x2 at *
         generalize vd.heap.size = g1 at *
         clear HBL
         refine anyK_three (i := 2) (j := 6) (k := 8) (by kernel_rfl) rfl rfl rfl (fun KP hK => ?_) (fun KP hK => ?_) (fun KP hK => ?_)
         · go_simp
           refine (spec_entries (n := 1) _ HEq.out.rd rfl (by omega) HMq.out).mono ?_
           rintro e x4 ⟨y, rfl, oe, b1⟩
           obtain ⟨am, cm, ey⟩ := oe.slice
           subst ey
           obtain ⟨xm, hem⟩ := oe.enr
           have HEm := hid (hem.lower BC.out.size)
           replace BC := hid (BC.out.trans (b1.mono BC.out.size))
           clear oe b1 hem hh HEq
           go_wp2_with fail
           refine hK.out _ _ (HSk.out _ BC.out) (fun hh => ?_)
           clear hK KP
           try simp only [qP]
           refine anyK_two (i := 6) (j := 8) (by kernel_rfl) rfl rfl (fun KP hK => ?_) (fun KP hK => ?_)
           · go_simp
             have HBL := hid (Below.alloc1 x4 (.cells #[.int .i64 root, .int .i64 kk] 3))
             have HI6 := hid (show InR (x4.alloc (.cells #[.int .i64 root, .int .i64 kk] 3)) (.slice (some ⟨x4.heap.size, 0, none⟩) 2 2) [root, kk] from ⟨⟨v8.heap.size, World.ownsRow_lit (base := v8.heap.size) (e := 3) (size := 1) x4 #[.int .i64 root, .int .i64 kk] 2 BC.out.size (by unfold maxLen; omega) rfl⟩, HBk.out⟩)
             replace HEm := hid (HEm.out.kn (KN.below HBL.out))
             replace BC := hid (BC.out.trans (HBL.out.mono BC.out.size))
             clear hh
             refine hK.out _ _ (HSk.out _ BC.out) (fun hh => ?_)
             clear hK KP
             try simp only [qP]
             generalize x4.alloc (.cells #[.int .i64 root, .int .i64 kk] 3) = x6 at *
             generalize x4.heap.size = g6 at *
             clear HBL
             refine qT 7 rfl hh 50 rfl ?_
             refine qS 8 rfl fun KP hK => ?_
             go_simp
             have HBL := hid (Below.alloc1 x6 (.cells #[.bool false, .slice none 0 0, .slice none 0 0] 61))
             have HR12 := hid (heap_alloc_new x6 (.cells #[.bool false, .slice none 0 0, .slice none 0 0] 61))
             have HP12 := hid (show v8.heap.size ≤ x6.heap.size from BC.out.size)
             replace HEm := hid (HEm.out.kn (KN.below HBL.out))
             replace HI6 := hid (HI6.out.kn (KN.below HBL.out))
             replace BC := hid (BC.out.trans (HBL.out.mono BC.out.size))
             clear hh
             refine hK.out _ _ (HSk.out _ BC.out) (fun hh => ?_)
             clear hK KP
             try simp only [qP]
             generalize x6.alloc (.cells #[.bool false, .slice none 0 0, .slice none 0 0] 61) = x7 at *
             generalize x6.heap.size = p12 at *
             clear HBL
             have HB9 := hid (below_setRow BC.out HP12.out #[.bool false, .slice am 1 cm, .slice (some ⟨g6, 0, none⟩) 2 2])
             have kn := KN.grown (row_grown11 x7 p12 #[.bool false, .slice am 1 cm, .slice (some ⟨g6, 0, none⟩) 2 2]) (fun k q => by obtain rfl := Option.some.inj q; exact ⟨_, _, _, HR12.out, .inl rfl⟩)
             refine qS 9 rfl fun KP hK => ?_
             refine wp_store_row 61 (.tmp 12) (.tmp 50) rfl p12 #[.bool false, .slice am 1 cm, .slice (some ⟨g6, 0, none⟩) 2 2] rfl rfl 61 _ HR12.out size_nd11 rfl (by simp [Value.oneCell']) ?_
             clear hh
             refine hK.out _ _ (HSk.out _ HB9.out) (fun hh => ?_)
             clear hK KP hh
             try simp only [qP]
             refine anyK_done (by kernel_rfl) ?_ _
             go_wp2_with fail
             go_meet
             exact ⟨p12, am, cm, g6, xm, rfl, hid (setRow_heap _ _ _ _ _ _ HR12.out), hid (HEm.out.kn kn), hid (HI6.out.kn kn), HB9, HP12⟩
           · go_simp
             have HBL := hid (Below.alloc1 x4 (.cells #[.bool false, .slice none 0 0, .slice none 0 0] 61))
             have HR12 := hid (heap_alloc_new x4 (.cells #[.bool false, .slice none 0 0, .slice none 0 0] 61))
             have HP12 := hid (show v8.heap.size ≤ x4.heap.size from BC.out.size)
             replace HEm := hid (HEm.out.kn (KN.below HBL.out))
             replace BC := hid (BC.out.trans (HBL.out.mono BC.out.size))
             clear hh
             refine hK.out _ _ (HSk.out _ BC.out) (fun hh => ?_)
             clear hK KP
             try simp only [qP]
             generalize x4.alloc (.cells #[.bool false, .slice none 0 0, .slice none 0 0] 61) = x9 at *
             generalize x4.heap.size = p12 at *
             clear HBL
             refine qS 6 rfl fun KP hK => ?_
             go_simp
             have HBL := hid (Below.alloc1 x9 (.cells #[.int .i64 root, .int .i64 kk] 3))
             have HI6 := hid (show InR (x9.alloc (.cells #[.int .i64 root, .int .i64 kk] 3)) (.slice (some ⟨x9.heap.size, 0, none⟩) 2 2) [root, kk] from ⟨⟨v8.heap.size, World.ownsRow_lit (base := v8.heap.size) (e := 3) (size := 1) x9 #[.int .i64 root, .int .i64 kk] 2 BC.out.size (by unfold maxLen; omega) rfl⟩, HBk.out⟩)
             replace HEm := hid (HEm.out.kn (KN.below HBL.out))
             replace HR12 := hid ((HBL.out.block p12 (qL HR12.out)).trans HR12.out)
             replace BC := hid (BC.out.trans (HBL.out.mono BC.out.size))
             clear hh
             refine hK.out _ _ (HSk.out _ BC.out) (fun hh => ?_)
             clear hK KP
             try simp only [qP]
             generalize x9.alloc (.cells #[.int .i64 root, .int .i64 kk] 3) = x10 at *
             generalize x9.heap.size = g6 at *
             clear HBL
             refine qT 7 rfl hh 50 rfl ?_
             have HB9 := hid (below_setRow BC.out HP12.out #[.bool false, .slice am 1 cm, .slice (some ⟨g6, 0, none⟩) 2 2])
             have kn := KN.grown (row_grown11 x10 p12 #[.bool false, .slice am 1 cm, .slice (some ⟨g6, 0, none⟩) 2 2]) (fun k q => by obtain rfl := Option.some.inj q; exact ⟨_, _, _, HR12.out, .inl rfl⟩)
             refine qS 9 rfl fun KP hK => ?_
             refine wp_store_row 61 (.tmp 12) (.tmp 50) rfl p12 #[.bool false, .slice am 1 cm, .slice (some ⟨g6, 0, none⟩) 2 2] rfl rfl 61 _ HR12.out size_nd11 rfl (by simp [Value.oneCell']) ?_
             clear hh
             refine hK.out _ _ (HSk.out _ HB9.out) (fun hh => ?_)
             clear hK KP hh
             try simp only [qP]
             refine anyK_done (by kernel_rfl) ?_ _
             go_wp2_with fail
             go_meet
             exact ⟨p12, am, cm, g6, xm, rfl, hid (setRow_heap _ _ _ _ _ _ HR12.out), hid (HEm.out.kn kn), hid (HI6.out.kn kn), HB9, HP12⟩
         · go_simp
           have HBL := hid (Below.alloc1 x2 (.cells #[.int .i64 root, .int .i64 kk] 3))
           have HI6 := hid (show InR (x2.alloc (.cells #[.int .i64 root, .int .i64 kk] 3)) (.slice (some ⟨x2.heap.size, 0, none⟩) 2 2) [root, kk] from ⟨⟨v8.heap.size, World.ownsRow_lit (base := v8.heap.size) (e := 3) (size := 1) x2 #[.int .i64 root, .int .i64 kk] 2 BC.out.size (by unfold maxLen; omega) rfl⟩, HBk.out⟩)
           replace HEq := hid (HEq.out.kn (KN.below HBL.out))
           replace BC := hid (BC.out.trans (HBL.out.mono BC.out.size))
           clear hh
           refine hK.out _ _ (HSk.out _ BC.out) (fun hh => ?_)
           clear hK KP
           try simp only [qP]
           generalize x2.alloc (.cells #[.int .i64 root, .int .i64 kk] 3) = x12 at *
           generalize x2.heap.size = g6 at *
           clear HBL
           refine anyK_two (i := 2) (j := 8) (by kernel_rfl) rfl rfl (fun KP hK => ?_) (fun KP hK => ?_)
           · go_simp
             refine (spec_entries (n := 1) _ HEq.out.rd rfl (by omega) HMq.out).mono ?_
             rintro e x14 ⟨y, rfl, oe, b1⟩
             obtain ⟨am, cm, ey⟩ := oe.slice
             subst ey
             obtain ⟨xm, hem⟩ := oe.enr
             have HEm := hid (hem.lower BC.out.size)
             replace HI6 := hid (HI6.out.kn (KN.below b1))
             replace BC := hid (BC.out.trans (b1.mono BC.out.size))
             clear oe b1 hem hh HEq
             go_wp2_with fail
             refine hK.out _ _ (HSk.out _ BC.out) (fun hh => ?_)
             clear hK KP
             try simp only [qP]
             refine qT 7 rfl hh 50 rfl ?_
             refine qS 8 rfl fun KP hK => ?_
             go_simp
             have HBL := hid (Below.alloc1 x14 (.cells #[.bool false, .slice none 0 0, .slice none 0 0] 61))
             have HR12 := hid (heap_alloc_new x14 (.cells #[.bool false, .slice none 0 0, .slice none 0 0] 61))
             have HP12 := hid (show v8.heap.size ≤ x14.heap.size from BC.out.size)
             replace HEm := hid (HEm.out.kn (KN.below HBL.out))
             replace HI6 := hid (HI6.out.kn (KN.below HBL.out))
             replace BC := hid (BC.out.trans (HBL.out.mono BC.out.size))
             clear hh
             refine hK.out _ _ (HSk.out _ BC.out) (fun hh => ?_)
             clear hK KP
             try simp only [qP]
             generalize x14.alloc (.cells #[.bool false, .slice none 0 0, .slice none 0 0] 61) = x15 at *
             generalize x14.heap.size = p12 at *
             clear HBL
             have HB9 := hid (below_setRow BC.out HP12.out #[.bool false, .slice am 1 cm, .slice (some ⟨g6, 0, none⟩) 2 2])
             have kn := KN.grown (row_grown11 x15 p12 #[.bool false, .slice am 1 cm, .slice (some ⟨g6, 0, none⟩) 2 2]) (fun k q => by obtain rfl := Option.some.inj q; exact ⟨_, _, _, HR12.out, .inl rfl⟩)
             refine qS 9 rfl fun KP hK => ?_
             refine wp_store_row 61 (.tmp 12) (.tmp 50) rfl p12 #[.bool false, .slice am 1 cm, .slice (some ⟨g6, 0, none⟩) 2 2] rfl rfl 61 _ HR12.out size_nd11 rfl (by simp [Value.oneCell']) ?_
             clear hh
             refine hK.out _ _ (HSk.out _ HB9.out) (fun hh => ?_)
             clear hK KP hh
             try simp only [qP]
             refine anyK_done (by kernel_rfl) ?_ _
             go_wp2_with fail
             go_meet
             exact ⟨p12, am, cm, g6, xm, rfl, hid (setRow_heap _ _ _ _ _ _ HR12.out), hid (HEm.out.kn kn), hid (HI6.out.kn kn), HB9, HP12⟩
           · go_simp
             have HBL := hid (Below.alloc1 x12 (.cells #[.bool false, .slice none 0 0, .slice none 0 0] 61))
             have HR12 := hid (heap_alloc_new x12 (.cells #[.bool false, .slice none 0 0, .slice none 0 0] 61))
             have HP12 := hid (show v8.heap.size ≤ x12.heap.size from BC.out.size)
             replace HEq := hid (HEq.out.kn (KN.below HBL.out))
             replace HI6 := hid (HI6.out.kn (KN.below HBL.out))
             replace BC := hid (BC.out.trans (HBL.out.mono BC.out.size))
             clear hh
             refine hK.out _ _ (HSk.out _ BC.out) (fun hh => ?_)
             clear hK KP
             try simp only [qP]
             generalize x12.alloc (.cells #[.bool false, .slice none 0 0, .slice none 0 0] 61) = x17 at *
             generalize x12.heap.size = p12 at *
             clear HBL
             refine qS 2 rfl fun KP hK => ?_
             go_simp
             refine (spec_entries (n := 1) _ HEq.out.rd rfl (by omega) HMq.out).mono ?_
             rintro e x18 ⟨y, rfl, oe, b1⟩
             obtain ⟨am, cm, ey⟩ := oe.slice
             subst ey
             obtain ⟨xm, hem⟩ := oe.enr
             have HEm := hid (hem.lower BC.out.size)
             replace HI6 := hid (HI6.out.kn (KN.below b1))
             replace HR12 := hid ((b1.block p12 (qL HR12.out)).trans HR12.out)
             replace BC := hid (BC.out.trans (b1.mono BC.out.size))
             clear oe b1 hem hh HEq
             go_wp2_with fail
             refine hK.out _ _ (HSk.out _ BC.out) (fun hh => ?_)
             clear hK KP
             try simp only [qP]
             refine qT 7 rfl hh 50 rfl ?_
             have HB9 := hid (below_setRow BC.out HP12.out #[.bool false, .slice am 1 cm, .slice (some ⟨g6, 0, none⟩) 2 2])
             have kn := KN.grown (row_grown11 x18 p12 #[.bool false, .slice am 1 cm, .slice (some ⟨g6, 0, none⟩) 2 2]) (fun k q => by obtain rfl := Option.some.inj q; exact ⟨_, _, _, HR12.out, .inl rfl⟩)
             refine qS 9 rfl fun KP hK => ?_
             refine wp_store_row 61 (.tmp 12) (.tmp 50) rfl p12 #[.bool false, .slice am 1 cm, .slice (some ⟨g6, 0, none⟩) 2 2] rfl rfl 61 _ HR12.out size_nd11 rfl (by simp [Value.oneCell']) ?_
             clear hh
             refine hK.out _ _ (HSk.out _ HB9.out) (fun hh => ?_)
             clear hK KP hh
             try simp only [qP]
             refine anyK_done (by kernel_rfl) ?_ _
             go_wp2_with fail
             go_meet
             exact ⟨p12, am, cm, g6, xm, rfl, hid (setRow_heap _ _ _ _ _ _ HR12.out), hid (HEm.out.kn kn), hid (HI6.out.kn kn), HB9, HP12⟩
         · go_simp
           have HBL := hid (Below.alloc1 x2 (.cells #[.bool false, .slice none 0 0, .slice none 0 0] 61))
           have HR12 := hid (heap_alloc_new x2 (.cells #[.bool false, .slice none 0 0, .slice none 0 0] 61))
           have HP12 := hid (show v8.heap.size ≤ x2.heap.size from BC.out.size)
           replace HEq := hid (HEq.out.kn (KN.below HBL.out))
           replace BC := hid (BC.out.trans (HBL.out.mono BC.out.size))
           clear hh
           refine hK.out _ _ (HSk.out _ BC.out) (fun hh => ?_)
           clear hK KP
           try simp only [qP]
           generalize x2.alloc (.cells #[.bool false, .slice none 0 0, .slice none 0 0] 61) = x20 at *
           generalize x2.heap.size = p12 at *
           clear HBL
           refine anyK_two (i := 2) (j := 6) (by kernel_rfl) rfl rfl (fun KP hK => ?_) (fun KP hK => ?_)
           · go_simp
             refine (spec_entries (n := 1) _ HEq.out.rd rfl (by omega) HMq.out).mono ?_
             rintro e x22 ⟨y, rfl, oe, b1⟩
             obtain ⟨am, cm, ey⟩ := oe.slice
             subst ey
             obtain ⟨xm, hem⟩ := oe.enr
             have HEm := hid (hem.lower BC.out.size)
             replace HR12 := hid ((b1.block p12 (qL HR12.out)).trans HR12.out)
             replace BC := hid (BC.out.trans (b1.mono BC.out.size))
             clear oe b1 hem hh HEq
             go_wp2_with fail
             refine hK.out _ _ (HSk.out _ BC.out) (fun hh => ?_)
             clear hK KP
             try simp only [qP]
             refine qS 6 rfl fun KP hK => ?_
             go_simp
             have HBL := hid (Below.alloc1 x22 (.cells #[.int .i64 root, .int .i64 kk] 3))
             have HI6 := hid (show InR (x22.alloc (.cells #[.int .i64 root, .int .i64 kk] 3)) (.slice (some ⟨x22.heap.size, 0, none⟩) 2 2) [root, kk] from ⟨⟨v8.heap.size, World.ownsRow_lit (base := v8.heap.size) (e := 3) (size := 1) x22 #[.int .i64 root, .int .i64 kk] 2 BC.out.size (by unfold maxLen; omega) rfl⟩, HBk.out⟩)
             replace HEm := hid (HEm.out.kn (KN.below HBL.out))
             replace HR12 := hid ((HBL.out.block p12 (qL HR12.out)).trans HR12.out)
             replace BC := hid (BC.out.trans (HBL.out.mono BC.out.size))
             clear hh
             refine hK.out _ _ (HSk.out _ BC.out) (fun hh => ?_)
             clear hK KP
             try simp only [qP]
             generalize x22.alloc (.cells #[.int .i64 root, .int .i64 kk] 3) = x23 at *
             generalize x22.heap.size = g6 at *
             clear HBL
             refine qT 7 rfl hh 50 rfl ?_
             have HB9 := hid (below_setRow BC.out HP12.out #[.bool false, .slice am 1 cm, .slice (some ⟨g6, 0, none⟩) 2 2])
             have kn := KN.grown (row_grown11 x23 p12 #[.bool false, .slice am 1 cm, .slice (some ⟨g6, 0, none⟩) 2 2]) (fun k q => by obtain rfl := Option.some.inj q; exact ⟨_, _, _, HR12.out, .inl rfl⟩)
             refine qS 9 rfl fun KP hK => ?_
             refine wp_store_row 61 (.tmp 12) (.tmp 50) rfl p12 #[.bool false, .slice am 1 cm, .slice (some ⟨g6, 0, none⟩) 2 2] rfl rfl 61 _ HR12.out size_nd11 rfl (by simp [Value.oneCell']) ?_
             clear hh
             refine hK.out _ _ (HSk.out _ HB9.out) (fun hh => ?_)
             clear hK KP hh
             try simp only [qP]
             refine anyK_done (by kernel_rfl) ?_ _
             go_wp2_with fail
             go_meet
             exact ⟨p12, am, cm, g6, xm, rfl, hid (setRow_heap _ _ _ _ _ _ HR12.out), hid (HEm.out.kn kn), hid (HI6.out.kn kn), HB9, HP12⟩
           · go_simp
             have HBL := hid (Below.alloc1 x20 (.cells #[.int .i64 root, .int .i64 kk] 3))
             have HI6 := hid (show InR (x20.alloc (.cells #[.int .i64 root, .int .i64 kk] 3)) (.slice (some ⟨x20.heap.size, 0, none⟩) 2 2) [root, kk] from ⟨⟨v8.heap.size, World.ownsRow_lit (base := v8.heap.size) (e := 3) (size := 1) x20 #[.int .i64 root, .int .i64 kk] 2 BC.out.size (by unfold maxLen; omega) rfl⟩, HBk.out⟩)
             replace HEq := hid (HEq.out.kn (KN.below HBL.out))
             replace HR12 := hid ((HBL.out.block p12 (qL HR12.out)).trans HR12.out)
             replace BC := hid (BC.out.trans (HBL.out.mono BC.out.size))
             clear hh
             refine hK.out _ _ (HSk.out _ BC.out) (fun hh => ?_)
             clear hK KP
             try simp only [qP]
             generalize x20.alloc (.cells #[.int .i64 root, .int .i64 kk] 3) = x25 at *
             generalize x20.heap.size = g6 at *
             clear HBL
             refine qS 2 rfl fun KP hK => ?_
             go_simp
             refine (spec_entries (n := 1) _ HEq.out.rd rfl (by omega) HMq.out).mono ?_
             rintro e x26 ⟨y, rfl, oe, b1⟩
             obtain ⟨am, cm, ey⟩ := oe.slice
             subst ey
             obtain ⟨xm, hem⟩ := oe.enr
             have HEm := hid (hem.lower BC.out.size)
             replace HI6 := hid (HI6.out.kn (KN.below b1))
             replace HR12 := hid ((b1.block p12 (qL HR12.out)).trans HR12.out)
             replace BC := hid (BC.out.trans (b1.mono BC.out.size))
             clear oe b1 hem hh HEq
             go_wp2_with fail
             refine hK.out _ _ (HSk.out _ BC.out) (fun hh => ?_)
             clear hK KP
             try simp only [qP]
             refine qT 7 rfl hh 50 rfl ?_
             have HB9 := hid (below_setRow BC.out HP12.out #[.bool false, .slice am 1 cm, .slice (some ⟨g6, 0, none⟩) 2 2])
             have kn := KN.grown (row_grown11 x26 p12 #[.bool false, .slice am 1 cm, .slice (some ⟨g6, 0, none⟩) 2 2]) (fun k q => by obtain rfl := Option.some.inj q; exact ⟨_, _, _, HR12.out, .inl rfl⟩)
             refine qS 9 rfl fun KP hK => ?_
             refine wp_store_row 61 (.tmp 12) (.tmp 50) rfl p12 #[.bool false, .slice am 1 cm, .slice (some ⟨g6, 0, none⟩) 2 2] rfl rfl 61 _ HR12.out size_nd11 rfl (by simp [Value.oneCell']) ?_
             clear hh
             refine hK.out _ _ (HSk.out _ HB9.out) (fun hh => ?_)
             clear hK KP hh
             try simp only [qP]
             refine anyK_done (by kernel_rfl) ?_ _
             go_wp2_with fail
             go_meet
             exact ⟨p12, am, cm, g6, xm, rfl, hid (setRow_heap _ _ _ _ _ _ HR12.out), hid (HEm.out.kn kn), hid (HI6.out.kn kn), HB9, HP12⟩
       · go_simp
         have HBL := hid (Below.alloc1 vd (.cells #[.int .i64 root, .int .i64 kk] 3))
         have HI6 := hid (show InR (vd.alloc (.cells #[.int .i64 root, .int .i64 kk] 3)) (.slice (some ⟨vd.heap.size, 0, none⟩) 2 2) [root, kk] from ⟨⟨v8.heap.size, World.ownsRow_lit (base := v8.heap.size) (e := 3) (size := 1) vd #[.int .i64 root, .int .i64 kk] 2 BC.out.size (by unfold maxLen; omega) rfl⟩, HBk.out⟩)
         replace BC := hid (BC.out.trans (HBL.out.mono BC.out.size))
         clear hh
         refine hK.out _ _ (HSk.out _ BC.out) (fun hh => ?_)
         clear hK KP
         try simp only [qP]
         generalize vd.alloc (.cells #[.int .i64 root, .int .i64 kk] 3) = x28 at *
         generalize vd.heap.size = g6 at *
         clear HBL
         refine anyK_two (i := 1) (j := 8) (by kernel_rfl) rfl rfl (fun KP hK => ?_) (fun KP hK => ?_)
         · go_simp
           have HBL := hid (Below.alloc1 x28 (.cells #[.int .i64 q.K, .int .i64 q.N, .float .f64 q.F, .slice ax nx cx, .int .i64 q.id] 48))
           have HEq := hid (show EnR (x28.alloc (.cells #[.int .i64 q.K, .int .i64 q.N, .float .f64 q.F, .slice ax nx cx, .int .i64 q.id] 48)) v8.heap.size (.slice (some ⟨x28.heap.size, 0, none⟩) 1 1) [q] [.slice ax nx cx] from ⟨rfl, World.ownsRow_lit (base := v8.heap.size) (e := 48) (size := 5) x28 #[.int .i64 q.K, .int .i64 q.N, .float .f64 q.F, .slice ax nx cx, .int .i64 q.id] 1 BC.out.size (by unfold maxLen; omega) rfl, fun i hi => by obtain rfl : i = 0 := (by simpa using hi); exact ⟨(HTx.out.1.kn (KN.below BC.out)).kn (KN.below HBL.out), HTx.out.2⟩⟩)
           replace HI6 := hid (HI6.out.kn (KN.below HBL.out))
           replace BC := hid (BC.out.trans (HBL.out.mono BC.out.size))
           clear hh
           refine hK.out _ _ (HSk.out _ BC.out) (fun hh => ?_)
           clear hK KP
           try simp only [qP]
           generalize x28.alloc (.cells #[.int .i64 q.K, .int .i64 q.N, .float .f64 q.F, .slice ax nx cx, .int .i64 q.id] 48) = x30 at *
           generalize x28.heap.size = g1 at *
           clear HBL
           refine anyK_two (i := 2) (j := 8) (by kernel_rfl) rfl rfl (fun KP hK => ?_) (fun KP hK => ?_)
           · go_simp
             refine (spec_entries (n := 1) _ HEq.out.rd rfl (by omega) HMq.out).mono ?_
             rintro e x32 ⟨y, rfl, oe, b1⟩
             obtain ⟨am, cm, ey⟩ := oe.slice
             subst ey
             obtain ⟨xm, hem⟩ := oe.enr
             have HEm := hid (hem.lower BC.out.size)
             replace HI6 := hid (HI6.out.kn (KN.below b1))
             replace BC := hid (BC.out.trans (b1.mono BC.out.size))
             clear oe b1 hem hh HEq
             go_wp2_with fail
             refine hK.out _ _ (HSk.out _ BC.out) (fun hh => ?_)
             clear hK KP
             try simp only [qP]
             refine qT 7 rfl hh 50 rfl ?_
             refine qS 8 rfl fun KP hK => ?_
             go_simp
             have HBL := hid (Below.alloc1 x32 (.cells #[.bool false, .slice none 0 0, .slice none 0 0] 61))
             have HR12 := hid (heap_alloc_new x32 (.cells #[.bool false, .slice none 0 0, .slice none 0 0] 61))
             have HP12 := hid (show v8.heap.size ≤ x32.heap.size from BC.out.size)
             replace HEm := hid (HEm.out.kn (KN.below HBL.out))
             replace HI6 := hid (HI6.out.kn (KN.below HBL.out))
             replace BC := hid (BC.out.trans (HBL.out.mono BC.out.size))
             clear hh
             refine hK.out _ _ (HSk.out _ BC.out) (fun hh => ?_)
             clear hK KP
             try simp only [qP]
             generalize x32.alloc (.cells #[.bool false, .slice none 0 0, .slice none 0 0] 61) = x33 at *
             generalize x32.heap.size = p12 at *
             clear HBL
             have HB9 := hid (below_setRow BC.out HP12.out #[.bool false, .slice am 1 cm, .slice (some ⟨g6, 0, none⟩) 2 2])
             have kn := KN.grown (row_grown11 x33 p12 #[.bool false, .slice am 1 cm, .slice (some ⟨g6, 0, none⟩) 2 2]) (fun k q => by obtain rfl := Option.some.inj q; exact ⟨_, _, _, HR12.out, .inl rfl⟩)
             refine qS 9 rfl fun KP hK => ?_
             refine wp_store_row 61 (.tmp 12) (.tmp 50) rfl p12 #[.bool false, .slice am 1 cm, .slice (some ⟨g6, 0, none⟩) 2 2] rfl rfl 61 _ HR12.out size_nd11 rfl (by simp [Value.oneCell']) ?_
             clear hh
             refine hK.out _ _ (HSk.out _ HB9.out) (fun hh => ?_)
             clear hK KP hh
             try simp only [qP]
             refine anyK_done (by kernel_rfl) ?_ _
             go_wp2_with fail
             go_meet
             exact ⟨p12, am, cm, g6, xm, rfl, hid (setRow_heap _ _ _ _ _ _ HR12.out), hid (HEm.out.kn kn), hid (HI6.out.kn kn), HB9, HP12⟩
           · go_simp
             have HBL := hid (Below.alloc1 x30 (.cells #[.bool false, .slice none 0 0, .slice none 0 0] 61))
             have HR12 := hid (heap_alloc_new x30 (.cells #[.bool false, .slice none 0 0, .slice none 0 0] 61))
             have HP12 := hid (show v8.heap.size ≤ x30.heap.size from BC.out.size)
             replace HEq := hid (HEq.out.kn (KN.below HBL.out))
             replace HI6 := hid (HI6.out.kn (KN.below HBL.out))
             replace BC := hid (BC.out.trans (HBL.out.mono BC.out.size))
             clear hh
             refine hK.out _ _ (HSk.out _ BC.out) (fun hh => ?_)
             clear hK KP
             try simp only [qP]
             generalize x30.alloc (.cells #[.bool false, .slice none 0 0, .slice none 0 0] 61) = x35 at *
             generalize x30.heap.size = p12 at *
             clear HBL
             refine qS 2 rfl fun KP hK => ?_
             go_simp
             refine (spec_entries (n := 1) _ HEq.out.rd rfl (by omega) HMq.out).mono ?_
             rintro e x36 ⟨y, rfl, oe, b1⟩
             obtain ⟨am, cm, ey⟩ := oe.slice
             subst ey
             obtain ⟨xm, hem⟩ := oe.enr
             have HEm := hid (hem.lower BC.out.size)
             replace HI6 := hid (HI6.out.kn (KN.below b1))
             replace HR12 := hid ((b1.block p12 (qL HR12.out)).trans HR12.out)
             replace BC := hid (BC.out.trans (b1.mono BC.out.size))
             clear oe b1 hem hh HEq
             go_wp2_with fail
             refine hK.out _ _ (HSk.out _ BC.out) (fun hh => ?_)
             clear hK KP
             try simp only [qP]
             refine qT 7 rfl hh 50 rfl ?_
             have HB9 := hid (below_setRow BC.out HP12.out #[.bool false, .slice am 1 cm, .slice (some ⟨g6, 0, none⟩) 2 2])
             have kn := KN.grown (row_grown11 x36 p12 #[.bool false, .slice am 1 cm, .slice (some ⟨g6, 0, none⟩) 2 2]) (fun k q => by obtain rfl := Option.some.inj q; exact ⟨_, _, _, HR12.out, .inl rfl⟩)
             refine qS 9 rfl fun KP hK => ?_
             refine wp_store_row 61 (.tmp 12) (.tmp 50) rfl p12 #[.bool false, .slice am 1 cm, .slice (some ⟨g6, 0, none⟩) 2 2] rfl rfl 61 _ HR12.out size_nd11 rfl (by simp [Value.oneCell']) ?_
             clear hh
             refine hK.out _ _ (HSk.out _ HB9.out) (fun hh => ?_)
             clear hK KP hh
             try simp only [qP]
             refine anyK_done (by kernel_rfl) ?_ _
             go_wp2_with fail
             go_meet
             exact ⟨p12, am, cm, g6, xm, rfl, hid (setRow_heap _ _ _ _ _ _ HR12.out), hid (HEm.out.kn kn), hid (HI6.out.kn kn), HB9, HP12⟩
         · go_simp
           have HBL := hid (Below.alloc1 x28 (.cells #[.bool false, .slice none 0 0, .slice none 0 0] 61))
           have HR12 := hid (heap_alloc_new x28 (.cells #[.bool false, .slice none 0 0, .slice none 0 0] 61))
           have HP12 := hid (show v8.heap.size ≤ x28.heap.size from BC.out.size)
           replace HI6 := hid (HI6.out.kn (KN.below HBL.out))
           replace BC := hid (BC.out.trans (HBL.out.mono BC.out.size))
           clear hh
           refine hK.out _ _ (HSk.out _ BC.out) (fun hh => ?_)
           clear hK KP
           try simp only [qP]
           generalize x28.alloc (.cells #[.bool false, .slice none 0 0, .slice none 0 0] 61) = x38 at *
           generalize x28.heap.size = p12 at *
           clear HBL
           refine qS 1 rfl fun KP hK => ?_
           go_simp
           have HBL := hid (Below.alloc1 x38 (.cells #[.int .i64 q.K, .int .i64 q.N, .float .f64 q.F, .slice ax nx cx, .int .i64 q.id] 48))
           have HEq := hid (show EnR (x38.alloc (.cells #[.int .i64 q.K, .int .i64 q.N, .float .f64 q.F, .slice ax nx cx, .int .i64 q.id] 48)) v8.heap.size (.slice (some ⟨x38.heap.size, 0, none⟩) 1 1) [q] [.slice ax nx cx] from ⟨rfl, World.ownsRow_lit (base := v8.heap.size) (e := 48) (size := 5) x38 #[.int .i64 q.K, .int .i64 q.N, .float .f64 q.F, .slice ax nx cx, .int .i64 q.id] 1 BC.out.size (by unfold maxLen; omega) rfl, fun i hi => by obtain rfl : i = 0 := (by simpa using hi); exact ⟨(HTx.out.1.kn (KN.below BC.out)).kn (KN.below HBL.out), HTx.out.2⟩⟩)
           replace HI6 := hid (HI6.out.kn (KN.below HBL.out))
           replace HR12 := hid ((HBL.out.block p12 (qL HR12.out)).trans HR12.out)
           replace BC := hid (BC.out.trans (HBL.out.mono BC.out.size))
           clear hh
           refine hK.out _ _ (HSk.out _ BC.out) (fun hh => ?_)
           clear hK KP
           try simp only [qP]
           generalize x38.alloc (.cells #[.int .i64 q.K, .int .i64 q.N, .float .f64 q.F, .slice ax nx cx, .int .i64 q.id] 48) = x39 at *
           generalize x38.heap.size = g1 at *
           clear HBL
           refine qS 2 rfl fun KP hK => ?_
           go_simp
           refine (spec_entries (n := 1) _ HEq.out.rd rfl (by omega) HMq.out).mono ?_
           rintro e x40 ⟨y, rfl, oe, b1⟩
           obtain ⟨am, cm, ey⟩ := oe.slice
           subst ey
           obtain ⟨xm, hem⟩ := oe.enr
           have HEm := hid (hem.lower BC.out.size)
           replace HI6 := hid (HI6.out.kn (KN.below b1))
           replace HR12 := hid ((b1.block p12 (qL HR12.out)).trans HR12.out)
           replace BC := hid (BC.out.trans (b1.mono BC.out.size))
           clear oe b1 hem hh HEq
           go_wp2_with fail
           refine hK.out _ _ (HSk.out _ BC.out) (fun hh => ?_)
           clear hK KP
           try simp only [qP]
           refine qT 7 rfl hh 50 rfl ?_
           have HB9 := hid (below_setRow BC.out HP12.out #[.bool false, .slice am 1 cm, .slice (some ⟨g6, 0, none⟩) 2 2])
           have kn := KN.grown (row_grown11 x40 p12 #[.bool false, .slice am 1 cm, .slice (some ⟨g6, 0, none⟩) 2 2]) (fun k q => by obtain rfl := Option.some.inj q; exact ⟨_, _, _, HR12.out, .inl rfl⟩)
           refine qS 9 rfl fun KP hK => ?_
           refine wp_store_row 61 (.tmp 12) (.tmp 50) rfl p12 #[.bool false, .slice am 1 cm, .slice (some ⟨g6, 0, none⟩) 2 2] rfl rfl 61 _ HR12.out size_nd11 rfl (by simp [Value.oneCell']) ?_
           clear hh
           refine hK.out _ _ (HSk.out _ HB9.out) (fun hh => ?_)
           clear hK KP hh
           try simp only [qP]
           refine anyK_done (by kernel_rfl) ?_ _
           go_wp2_with fail
           go_meet
           exact ⟨p12, am, cm, g6, xm, rfl, hid (setRow_heap _ _ _ _ _ _ HR12.out), hid (HEm.out.kn kn), hid (HI6.out.kn kn), HB9, HP12⟩
       · go_simp
         have HBL := hid (Below.alloc1 vd (.cells #[.bool false, .slice none 0 0, .slice none 0 0] 61))
         have HR12 := hid (heap_alloc_new vd (.cells #[.bool false, .slice none 0 0, .slice none 0 0] 61))
         have HP12 := hid (show v8.heap.size ≤ vd.heap.size from BC.out.size)
         replace BC := hid (BC.out.trans (HBL.out.mono BC.out.size))
         clear hh
         refine hK.out _ _ (HSk.out _ BC.out) (fun hh => ?_)
         clear hK KP
         try simp only [qP]
         generalize vd.alloc (.cells #[.bool false, .slice none 0 0, .slice none 0 0] 61) = x42 at *
         generalize vd.heap.size = p12 at *
         clear HBL
         refine anyK_two (i := 1) (j := 6) (by kernel_rfl) rfl rfl (fun KP hK => ?_) (fun KP hK => ?_)
         · go_simp
           have HBL := hid (Below.alloc1 x42 (.cells #[.int .i64 q.K, .int .i64 q.N, .float .f64 q.F, .slice ax nx cx, .int .i64 q.id] 48))
           have HEq := hid (show EnR (x42.alloc (.cells #[.int .i64 q.K, .int .i64 q.N, .float .f64 q.F, .slice ax nx cx, .int .i64 q.id] 48)) v8.heap.size (.slice (some ⟨x42.heap.size, 0, none⟩) 1 1) [q] [.slice ax nx cx] from ⟨rfl, World.ownsRow_lit (base := v8.heap.size) (e := 48) (size := 5) x42 #[.int .i64 q.K, .int .i64 q.N, .float .f64 q.F, .slice ax nx cx, .int .i64 q.id] 1 BC.out.size (by unfold maxLen; omega) rfl, fun i hi => by obtain rfl : i = 0 := (by simpa using hi); exact ⟨(HTx.out.1.kn (KN.below BC.out)).kn (KN.below HBL.out), HTx.out.2⟩⟩)
           replace HR12 := hid ((HBL.out.block p12 (qL HR12.out)).trans HR12.out)
           replace BC := hid (BC.out.trans (HBL.out.mono BC.out.size))
           clear hh
           refine hK.out _ _ (HSk.out _ BC.out) (fun hh => ?_)
           clear hK KP
           try simp only [qP]
           generalize x42.alloc (.cells #[.int .i64 q.K, .int .i64 q.N, .float .f64 q.F, .slice ax nx cx, .int .i64 q.id] 48) = x44 at *
           generalize x42.heap.size = g1 at *
           clear HBL
           refine anyK_two (i := 2) (j := 6) (by kernel_rfl) rfl rfl (fun KP hK => ?_) (fun KP hK => ?_)
           · go_simp
             refine (spec_entries (n := 1) _ HEq.out.rd rfl (by omega) HMq.out).mono ?_
             rintro e x46 ⟨y, rfl, oe, b1⟩
             obtain ⟨am, cm, ey⟩ := oe.slice
             subst ey
             obtain ⟨xm, hem⟩ := oe.enr
             have HEm := hid (hem.lower BC.out.size)
             replace HR12 := hid ((b1.block p12 (qL HR12.out)).trans HR12.out)
             replace BC := hid (BC.out.trans (b1.mono BC.out.size))
             clear oe b1 hem hh HEq
             go_wp2_with fail
             refine hK.out _ _ (HSk.out _ BC.out) (fun hh => ?_)
             clear hK KP
             try simp only [qP]
             refine qS 6 rfl fun KP hK => ?_
             go_simp
             have HBL := hid (Below.alloc1 x46 (.cells #[.int .i64 root, .int .i64 kk] 3))
             have HI6 := hid (show InR (x46.alloc (.cells #[.int .i64 root, .int .i64 kk] 3)) (.slice (some ⟨x46.heap.size, 0, none⟩) 2 2) [root, kk] from ⟨⟨v8.heap.size, World.ownsRow_lit (base := v8.heap.size) (e := 3) (size := 1) x46 #[.int .i64 root, .int .i64 kk] 2 BC.out.size (by unfold maxLen; omega) rfl⟩, HBk.out⟩)
             replace HEm := hid (HEm.out.kn (KN.below HBL.out))
             replace HR12 := hid ((HBL.out.block p12 (qL HR12.out)).trans HR12.out)
             replace BC := hid (BC.out.trans (HBL.out.mono BC.out.size))
             clear hh
             refine hK.out _ _ (HSk.out _ BC.out) (fun hh => ?_)
             clear hK KP
             try simp only [qP]
             generalize x46.alloc (.cells #[.int .i64 root, .int .i64 kk] 3) = x47 at *
             generalize x46.heap.size = g6 at *
             clear HBL
             refine qT 7 rfl hh 50 rfl ?_
             have HB9 := hid (below_setRow BC.out HP12.out #[.bool false, .slice am 1 cm, .slice (some ⟨g6, 0, none⟩) 2 2])
             have kn := KN.grown (row_grown11 x47 p12 #[.bool false, .slice am 1 cm, .slice (some ⟨g6, 0, none⟩) 2 2]) (fun k q => by obtain rfl := Option.some.inj q; exact ⟨_, _, _, HR12.out, .inl rfl⟩)
             refine qS 9 rfl fun KP hK => ?_
             refine wp_store_row 61 (.tmp 12) (.tmp 50) rfl p12 #[.bool false, .slice am 1 cm, .slice (some ⟨g6, 0, none⟩) 2 2] rfl rfl 61 _ HR12.out size_nd11 rfl (by simp [Value.oneCell']) ?_
             clear hh
             refine hK.out _ _ (HSk.out _ HB9.out) (fun hh => ?_)
             clear hK KP hh
             try simp only [qP]
             refine anyK_done (by kernel_rfl) ?_ _
             go_wp2_with fail
             go_meet
             exact ⟨p12, am, cm, g6, xm, rfl, hid (setRow_heap _ _ _ _ _ _ HR12.out), hid (HEm.out.kn kn), hid (HI6.out.kn kn), HB9, HP12⟩
           · go_simp
             have HBL := hid (Below.alloc1 x44 (.cells #[.int .i64 root, .int .i64 kk] 3))
             have HI6 := hid (show InR (x44.alloc (.cells #[.int .i64 root, .int .i64 kk] 3)) (.slice (some ⟨x44.heap.size, 0, none⟩) 2 2) [root, kk] from ⟨⟨v8.heap.size, World.ownsRow_lit (base := v8.heap.size) (e := 3) (size := 1) x44 #[.int .i64 root, .int .i64 kk] 2 BC.out.size (by unfold maxLen; omega) rfl⟩, HBk.out⟩)
             replace HEq := hid (HEq.out.kn (KN.below HBL.out))
             replace HR12 := hid ((HBL.out.block p12 (qL HR12.out)).trans HR12.out)
             replace BC := hid (BC.out.trans (HBL.out.mono BC.out.size))
             clear hh
             refine hK.out _ _ (HSk.out _ BC.out) (fun hh => ?_)
             clear hK KP
             try simp only [qP]
             generalize x44.alloc (.cells #[.int .i64 root, .int .i64 kk] 3) = x49 at *
             generalize x44.heap.size = g6 at *
             clear HBL
             refine qS 2 rfl fun KP hK => ?_
             go_simp
             refine (spec_entries (n := 1) _ HEq.out.rd rfl (by omega) HMq.out).mono ?_
             rintro e x50 ⟨y, rfl, oe, b1⟩
             obtain ⟨am, cm, ey⟩ := oe.slice
             subst ey
             obtain ⟨xm, hem⟩ := oe.enr
             have HEm := hid (hem.lower BC.out.size)
             replace HI6 := hid (HI6.out.kn (KN.below b1))
             replace HR12 := hid ((b1.block p12 (qL HR12.out)).trans HR12.out)
             replace BC := hid (BC.out.trans (b1.mono BC.out.size))
             clear oe b1 hem hh HEq
             go_wp2_with fail
             refine hK.out _ _ (HSk.out _ BC.out) (fun hh => ?_)
             clear hK KP
             try simp only [qP]
             refine qT 7 rfl hh 50 rfl ?_
             have HB9 := hid (below_setRow BC.out HP12.out #[.bool false, .slice am 1 cm, .slice (some ⟨g6, 0, none⟩) 2 2])
             have kn := KN.grown (row_grown11 x50 p12 #[.bool false, .slice am 1 cm, .slice (some ⟨g6, 0, none⟩) 2 2]) (fun k q => by obtain rfl := Option.some.inj q; exact ⟨_, _, _, HR12.out, .inl rfl⟩)
             refine qS 9 rfl fun KP hK => ?_
             refine wp_store_row 61 (.tmp 12) (.tmp 50) rfl p12 #[.bool false, .slice am 1 cm, .slice (some ⟨g6, 0, none⟩) 2 2] rfl rfl 61 _ HR12.out size_nd11 rfl (by simp [Value.oneCell']) ?_
             clear hh
             refine hK.out _ _ (HSk.out _ HB9.out) (fun hh => ?_)
             clear hK KP hh
             try simp only [qP]
             refine anyK_done (by kernel_rfl) ?_ _
             go_wp2_with fail
             go_meet
             exact ⟨p12, am, cm, g6, xm, rfl, hid (setRow_heap _ _ _ _ _ _ HR12.out), hid (HEm.out.kn kn), hid (HI6.out.kn kn), HB9, HP12⟩
         · go_simp
           have HBL := hid (Below.alloc1 x42 (.cells #[.int .i64 root, .int .i64 kk] 3))
           have HI6 := hid (show InR (x42.alloc (.cells #[.int .i64 root, .int .i64 kk] 3)) (.slice (some ⟨x42.heap.size, 0, none⟩) 2 2) [root, kk] from ⟨⟨v8.heap.size, World.ownsRow_lit (base := v8.heap.size) (e := 3) (size := 1) x42 #[.int .i64 root, .int .i64 kk] 2 BC.out.size (by unfold maxLen; omega) rfl⟩, HBk.out⟩)
           replace HR12 := hid ((HBL.out.block p12 (qL HR12.out)).trans HR12.out)
           replace BC := hid (BC.out.trans (HBL.out.mono BC.out.size))
           clear hh
           refine hK.out _ _ (HSk.out _ BC.out) (fun hh => ?_)
           clear hK KP
           try simp only [qP]
           generalize x42.alloc (.cells #[.int .i64 root, .int .i64 kk] 3) = x52 at *
           generalize x42.heap.size = g6 at *
           clear HBL
           refine qS 1 rfl fun KP hK => ?_
           go_simp
           have HBL := hid (Below.alloc1 x52 (.cells #[.int .i64 q.K, .int .i64 q.N, .float .f64 q.F, .slice ax nx cx, .int .i64 q.id] 48))
           have HEq := hid (show EnR (x52.alloc (.cells #[.int .i64 q.K, .int .i64 q.N, .float .f64 q.F, .slice ax nx cx, .int .i64 q.id] 48)) v8.heap.size (.slice (some ⟨x52.heap.size, 0, none⟩) 1 1) [q] [.slice ax nx cx] from ⟨rfl, World.ownsRow_lit (base := v8.heap.size) (e := 48) (size := 5) x52 #[.int .i64 q.K, .int .i64 q.N, .float .f64 q.F, .slice ax nx cx, .int .i64 q.id] 1 BC.out.size (by unfold maxLen; omega) rfl, fun i hi => by obtain rfl : i = 0 := (by simpa using hi); exact ⟨(HTx.out.1.kn (KN.below BC.out)).kn (KN.below HBL.out), HTx.out.2⟩⟩)
           replace HI6 := hid (HI6.out.kn (KN.below HBL.out))
           replace HR12 := hid ((HBL.out.block p12 (qL HR12.out)).trans HR12.out)
           replace BC := hid (BC.out.trans (HBL.out.mono BC.out.size))
           clear hh
           refine hK.out _ _ (HSk.out _ BC.out) (fun hh => ?_)
           clear hK KP
           try simp only [qP]
           generalize x52.alloc (.cells #[.int .i64 q.K, .int .i64 q.N, .float .f64 q.F, .slice ax nx cx, .int .i64 q.id] 48) = x53 at *
           generalize x52.heap.size = g1 at *
           clear HBL
           refine qS 2 rfl fun KP hK => ?_
           go_simp
           refine (spec_entries (n := 1) _ HEq.out.rd rfl (by omega) HMq.out).mono ?_
           rintro e x54 ⟨y, rfl, oe, b1⟩
           obtain ⟨am, cm, ey⟩ := oe.slice
           subst ey
           obtain ⟨xm, hem⟩ := oe.enr
           have HEm := hid (hem.lower BC.out.size)
           replace HI6 := hid (HI6.out.kn (KN.below b1))
           replace HR12 := hid ((b1.block p12 (qL HR12.out)).trans HR12.out)
           replace BC := hid (BC.out.trans (b1.mono BC.out.size))
           clear oe b1 hem hh HEq
           go_wp2_with fail
           refine hK.out _ _ (HSk.out _ BC.out) (fun hh => ?_)
           clear hK KP
           try simp only [qP]
           refine qT 7 rfl hh 50 rfl ?_
           have HB9 := hid (below_setRow BC.out HP12.out #[.bool false, .slice am 1 cm, .slice (some ⟨g6, 0, none⟩) 2 2])
           have kn := KN.grown (row_grown11 x54 p12 #[.bool false, .slice am 1 cm, .slice (some ⟨g6, 0, none⟩) 2 2]) (fun k q => by obtain rfl := Option.some.inj q; exact ⟨_, _, _, HR12.out, .inl rfl⟩)
           refine qS 9 rfl fun KP hK => ?_
           refine wp_store_row 61 (.tmp 12) (.tmp 50) rfl p12 #[.bool false, .slice am 1 cm, .slice (some ⟨g6, 0, none⟩) 2 2] rfl rfl 61 _ HR12.out size_nd11 rfl (by simp [Value.oneCell']) ?_
           clear hh
           refine hK.out _ _ (HSk.out _ HB9.out) (fun hh => ?_)
           clear hK KP hh
           try simp only [qP]
           refine anyK_done (by kernel_rfl) ?_ _
           go_wp2_with fail
           go_meet
           exact ⟨p12, am, cm, g6, xm, rfl, hid (setRow_heap _ _ _ _ _ _ HR12.out), hid (HEm.out.kn kn), hid (HI6.out.kn kn), HB9, HP12⟩
      case rest =>
       obtain ⟨p12, am, cm, g6, xm, rfl, HR12, HEm, HI6, BC, HP12⟩ := hcut
       have HBL := hid (Below.alloc1 wc (.cells #[.bool false, .slice am 1 cm, .slice (some ⟨g6, 0, none⟩) 2 2] 61))
       have HNL := hid (heap_alloc_new wc (.cells #[.bool false, .slice am 1 cm, .slice (some ⟨g6, 0, none⟩) 2 2] 61))
       have HSw := hid ((HS8.out.below BC.out).below HBL.out)
       have HNd := hid (show NdR (wc.alloc (.cells #[.bool false, .slice am 1 cm, .slice (some ⟨g6, 0, none⟩) 2 2] 61)) (.slice am 1 cm, .slice (some ⟨g6, 0, none⟩) 2 2) ⟨false, [q], [root, kk]⟩ from ⟨⟨_, _, HEm.out.kn (KN.below HBL.out)⟩, HI6.out.kn (KN.below HBL.out)⟩)
       have hr9 := (BC.out.block p9 (qL HR98.out)).trans HR98.out
       have HR9w := hid ((HBL.out.block p9 (qL hr9)).trans hr9)
       have c9 : wc.cell? ⟨p9, 0, none⟩ = some (.slice (some ⟨G', 0, none⟩) N1 c') := qC hr9
       have c12 : wc.cell? ⟨p12, 0, none⟩ = some (.bool false) := qC HR12.out
       have c13 : wc.cell? ⟨p12, 1, none⟩ = some (.slice am 1 cm) := qC HR12.out
       have c14 : wc.cell? ⟨p12, 2, none⟩ = some (.slice (some ⟨g6, 0, none⟩) 2 2) := qC HR12.out
       have oR := HSw.out.own
       rw [HN1.out] at oR
       have HRow := hid oR
       have hbw : v4.heap.size ≤ (wc.alloc (.cells #[.bool false, .slice am 1 cm, .slice (some ⟨g6, 0, none⟩) 2 2] 61)).heap.size := by
        have := HBL.out.size; have := BC.out.size; have := HZ10.out; have := HP10.out; have := HSz7.out; have := HZ9.out; have := HSz6.out; omega
       have HBwc := hid (show Below U2.heap.size U2 (wc.alloc (.cells #[.bool false, .slice am 1 cm, .slice (some ⟨g6, 0, none⟩) 2 2] 61)) from (HB8.out.trans (BC.out.mono HB8.out.size)).trans (HBL.out.mono (Nat.le_trans HB8.out.size BC.out.size)))
       have hN7 : N1 ≤ 601 := HNb.out
       obtain ⟨i1, hi1, hz0, hz1, hz2⟩ := info_parts Tryz.infoNd11
       clear oR hr9
       go_wp2_with (at_builtin; refine wpList_append_row rfl _ _ 31 rfl v4.heap.size 61 i1 (.agg #[.bool false, .slice none 0 0, .slice none 0 0]) 3 56 Tryz.underlying31 hi1 hz0 hz1 hz2 rfl (by decide) _ N1 _ rfl HRow.out (some ⟨wc.heap.size, 0, none⟩) 1 1 [.bool false, .slice am 1 cm, .slice (some ⟨g6, 0, none⟩) 2 2] rfl rfl (.inr ⟨_, rfl, World.news_of_block HNL.out⟩) (fun e => by cases e) ?gOne (by unfold maxLen; omega) (by omega) hbw ?_)
       case gOne => exact ⟨rfl, rfl, rfl⟩
       intro a8 c8 w8 o8 g8
       have HS9 := hid (show NsR w8 v4.heap.size (.slice a8 (N1 + 1) c8) (R.1 ++ [⟨false, [q], [root, kk]⟩]) (ys' ++ [(.slice am 1 cm, .slice (some ⟨g6, 0, none⟩) 2 2)]) from HSw.out.push HNd.out (by rw [HN1.out]; exact o8) g8)
       have HR9x := hid (row_aside11 HR9w.out HRow.out (by decide) g8)
       have HBx8 := hid (HBwc.out.grown g8 HBwc.out.size (fun k hk => by have := (HRow.out.lt k hk).1; have := HSz5.out; omega))
       have c9 : w8.cell? ⟨p9, 0, none⟩ = some (.slice (some ⟨G', 0, none⟩) N1 c') := qC HR9x.out
       have f9 : w8.frozen? ⟨p9, 0, none⟩ = false := frozen_of_row _ _ 0 _ _ HR9x.out
       have HS10 := hid (HS9.out.tree (j := 0) HR9x.out (.slice a8 (N1 + 1) c8))
       have HR9y := hid (show (w8.setCell ⟨p9, 0, none⟩ (.slice a8 (N1 + 1) c8)).heap[p9]? = some (.cells #[.slice a8 (N1 + 1) c8, .int .i64 root] 33 (0, 0)) by rw [heap_setCell_same _ _ _ _ _ _ HR9x.out]; rfl)
       have HBy := hid (HBx8.out.setCell (show U2.heap.size ≤ (⟨p9, 0, none⟩ : Addr).block by have := HP9.out; have := HB5.out.size; simp only; omega) (.slice a8 (N1 + 1) c8))
       obtain ⟨N2, hN2⟩ : ∃ N2, N1 + 1 = N2 := ⟨_, rfl⟩
       rw [hN2] at HS10 HR9y HBy HLnF
       simp only [hN2]
       have HN2 := hid hN2
       clear o8 g8 hN2 hi1 hz0 hz1 hz2 hbw
       go_upto_region 9 with fail
       clear c9 f9 HS9 HR9x HBx8
       generalize w8.setCell ⟨p9, 0, none⟩ (.slice a8 N2 c8) = wy at *
       have hw1 : IntKind.i64.wrap ((N2 : Int) - 1) = (N1 : Int) := by
        have := HN2.out; have := HNb.out
        rw [show (N2 : Int) - 1 = (N1 : Int) by omega]; simp [IntKind.wrap, IntKind.bits, IntKind.signed]; omega
       have c9 : wy.cell? ⟨p9, 0, none⟩ = some (.slice a8 N2 c8) := qC HR9y.out
       have c9b : wy.cell? ⟨p9, 1, none⟩ = some (.int .i64 root) := qC HR9y.out
       have f9 : wy.frozen? ⟨p9, 1, none⟩ = false := frozen_of_row _ _ 1 _ _ HR9y.out
       have HS11 := hid (HS10.out.tree (j := 1) HR9y.out (.int .i64 (N1 : Int)))
       have HR9z := hid (show (wy.setCell ⟨p9, 1, none⟩ (.int .i64 (N1 : Int))).heap[p9]? = some (.cells #[.slice a8 N2 c8, .int .i64 (N1 : Int)] 33 (0, 0)) by rw [heap_setCell_same _ _ _ _ _ _ HR9y.out]; rfl)
       have HBz := hid (HBy.out.setCell (show U2.heap.size ≤ (⟨p9, 1, none⟩ : Addr).block by have := HP9.out; have := HB5.out.size; simp only; omega) (.int .i64 (N1 : Int)))
       rw [HN1.out] at HAd
       go_upto_region 10 with fail
       clear c9 c9b f9 HS10 HR9y HBy hw1
       generalize wy.setCell ⟨p9, 1, none⟩ (.int .i64 (N1 : Int)) = wz at *
       have c9 : wz.cell? ⟨p9, 0, none⟩ = some (.slice a8 N2 c8) := qC HR9z.out
       by_cases h300 : 300 < N2
       · have hgt : (300 : Int) < (N2 : Int) := by omega
         have HNo := hid (HAd.out.trans (if_pos (by rw [HLnF.out]; exact h300)))
         clear h300
         have HC6 := hid (HBx.out wz HBz.out).2.1
         have HBw := hid (HBx.out wz HBz.out).2.2.2
         go_wp2_with (refine wpList_store_row rfl 33 (.tmp 6) _ rfl p6 #[.slice none 0 0, .int .i64 0] rfl rfl 33 _ HC6.out size_tr11 rfl (by simp [Value.oneCell']) ?_)
         exact bodyPost_ret (results_cell_tmp11 Tryz.results6 _ _ p6 33 #[.slice none 0 0, .int .i64 0] (0, 0) _ rfl (setRow_heap _ _ _ _ _ _ HC6.out) Tryz.underlying33 rfl size_tr11) rfl ⟨none, 0, by rw [HNo.out]; rfl, by rw [HNo.out]; exact ⟨0, [], NsR.nil _ _⟩, below_setRow HBw.out (by have := HP.out; omega) _⟩
       · have hgt : ¬ (300 : Int) < (N2 : Int) := by omega
         have HYs := hid (HAd.out.trans (if_neg (by rw [HLnF.out]; exact h300)))
         have H300 := hid (show N2 ≤ 300 by omega)
         have c9b : wz.cell? ⟨p9, 1, none⟩ = some (.int .i64 (N1 : Int)) := qC HR9z.out
         clear h300
         go_wp2_with fail
         clear c9 c9b hgt
         refine (spec_l11copy c8 (N1 : Int) HS11.out.rd HLnF.out H300.out (fun i => (forms_le HFmF.out i).1) (fun i => (forms_le HFmF.out i).2) HSmF.out (HS11.out.cap HLnF.out).2).mono ?_
         rintro e w9 ⟨aZ, cZ, ysZ, rfl, hnz, b9⟩
         have HB9 := hid (HBz.out.trans (b9.mono HBz.out.size))
         have HC6 := hid (HBx.out w9 HB9.out).2.1
         have HBw := hid (HBx.out w9 HB9.out).2.2.2
         have HNz := hid (hnz.row (cs' := #[.slice aZ N2 cZ, .int .i64 (N1 : Int)]) HC6.out)
         clear hnz b9
         go_wp2_with (refine wpList_store_row rfl 33 (.tmp 6) _ rfl p6 #[.slice aZ N2 cZ, .int .i64 (N1 : Int)] rfl rfl 33 _ HC6.out size_tr11 rfl (by simp [Value.oneCell']) ?_)
         exact bodyPost_ret (results_cell_tmp11 Tryz.results6 _ _ p6 33 #[.slice aZ N2 cZ, .int .i64 (N1 : Int)] (0, 0) _ rfl (setRow_heap _ _ _ _ _ _ HC6.out) Tryz.underlying33 rfl size_tr11) rfl ⟨aZ, cZ, by rw [HYs.out]; dsimp only; rw [HLnF.out]; try rfl, ⟨_, ysZ, by rw [HYs.out]; dsimp only; rw [HLnF.out]; exact HNz.out⟩, below_setRow HBw.out (by have := HP.out; omega) _⟩
end Go.Proofs.YtlkoghdajpbffaaGreat
