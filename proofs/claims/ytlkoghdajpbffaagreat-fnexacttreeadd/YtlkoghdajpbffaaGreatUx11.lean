/- The specification's l11down at a leaf. Conditions: at most 700 nodes, texts of at most 2^21 bytes. -/
import Derived.Test.YtlkoghdajpbffaaGreatMgB
namespace Go.Proofs.YtlkoghdajpbffaaGreat
open Go.RowKit
set_option maxRecDepth 100000
set_option maxHeartbeats 12800000 in
theorem spec_down_leaf {A : Nat → Prop} {w : World} {b pT G0 N c x : Nat} {root : Int} {ds : List Nd} {ys : List (Value × Value)} {e : En} {ax : Option Addr} {cx : Nat} (hT : w.heap[pT]? = some (.cells #[.slice (some ⟨G0, 0, none⟩) N c, .int .i64 root] 33)) (hl : ds.length = N) (hN : N ≤ 700) (hns : NsR w b (.slice (some ⟨G0, 0, none⟩) N c) ds ys) (hb : b ≤ w.heap.size) (hx : x < N) (hlf : (ds.getD x nd0).leaf = true) (hform : formOk (ds.getD x nd0) = true) (hm : ∀ i j, ((ds.getD i nd0).es.getD j en0).Z.length ≤ 2097152) (he : TxR w (.slice ax e.Z.length cx) e.Z) (hF : e.F < 18446744073709551616) (hZ : e.Z.length ≤ 2097152) (hA : ∀ g, A g → g < w.heap.size) (hav : ShunsD A ys ds.length) :
 Calls Tryz.prog 23 #[.pointer (some ⟨pT, 0, none⟩), .int .i64 (x : Int), .agg #[.int .i64 e.K, .int .i64 e.N, .float .f64 e.F, .slice ax e.Z.length cx, .int .i64 e.id]] w fun r W => DownR A w W pT b root G0 (layN ds (x : Int) (takeN (ds.getD x nd0) (upsB (ds.getD x nd0).es e) e 0)) r := by
 obtain ⟨K0, N0, F0, Z0, i0⟩ := e
 dsimp only at *
 obtain ⟨RES, hRES⟩ : ∃ RES, (layN ds (x : Int) (takeN (ds.getD x nd0) (upsB (ds.getD x nd0).es ⟨K0, N0, F0, Z0, i0⟩) ⟨K0, N0, F0, Z0, i0⟩ 0)) = RES := ⟨_, rfl⟩
 rw [hRES]
 have HRes := hid hRES
 clear hRES
 obtain ⟨nz, hnz⟩ : ∃ nz, Z0.length = nz := ⟨_, rfl⟩
 rw [hnz] at he hZ ⊢
 have hst := fun w a m => run_store Tryz.prog w a (.float .f64 F0) m rfl
 have HTw := hid (two w (.cells #[.int .i64 K0, .int .i64 N0, .float .f64 F0, .slice ax nz cx, .int .i64 i0] 48) (.cells #[.int .i64 0, .int .i64 0, .float .f64 0, .slice none 0 0, .int .i64 0] 48))
 have HRw := hid (two_rows11 w (.cells #[.int .i64 K0, .int .i64 N0, .float .f64 F0, .slice ax nz cx, .int .i64 i0] 48) (.cells #[.int .i64 0, .int .i64 0, .float .f64 0, .slice none 0 0, .int .i64 0] 48))
 have HT := hid hT
 have HL := hid hl
 have HNs := hid hns
 have HB := hid hb
 have HM := hid (hm x)
 have HMa := hid hm
 have HE := hid he
 have HA := hid hA
 have HAv := hid hav
 have HNz := hid hnz
 have HNx := hid hN
 have HF := hid (show F0 < 18446744073709551616 ∧ nz ≤ 2097152 from ⟨hF, hZ⟩)
 have HSm := hid (form_small' hform)
 have HFo := hid hform
 have HLf := hid hlf
 have hxd : x < ds.length := by omega
 have HXd := hid hxd
 have hnd := hns.nd x hxd
 have hsz : G0 < w.heap.size := (hns.own.lt G0 rfl).2
 have hpt : pT < w.heap.size := (qL hT)
 have HSz := hid (And.intro hsz hpt)
 have hown := hns.own
 rw [hl] at hown
 have hcell := fun j (hj : j < 3) => (hown.cellAt (x * 3 + j) (by omega)).trans (cellsD_at ds ys x j hns.len hxd hj)
 obtain ⟨d, hd⟩ : ∃ d, ds.getD x nd0 = d := ⟨_, rfl⟩
 rw [hd] at hnd hcell HM HSm HFo HLf hlf hform
 have HD := hid hd
 obtain ⟨be, xs, hen⟩ := hnd.es
 have hin := hnd.ks
 obtain ⟨bk, hok⟩ := hin.own
 obtain ⟨ae, ce, he1⟩ := own_sl hen.own
 obtain ⟨ak, ck, he2⟩ := own_sl hok
 have hay := hav x hxd
 obtain ⟨yk, hyk⟩ : ∃ yk, ys.getD x nilP = yk := ⟨_, rfl⟩
 rw [hyk] at hen hin hcell he1 he2 hnd hay hok
 have HYk := hid hyk
 obtain ⟨y1, y2⟩ := yk
 dsimp only at he1 he2 hen hin hay hok
 subst he1
 subst he2
 obtain ⟨n, hn⟩ : ∃ n, d.es.length = n := ⟨_, rfl⟩
 obtain ⟨m, hmm⟩ : ∃ m, d.ks.length = m := ⟨_, rfl⟩
 have d0 := hcell 0 (by omega)
 have d1 := hcell 1 (by omega)
 have d2 := hcell 2 (by omega)
 rw [Nat.add_zero] at d0
 rw [show (cellsD1 d (.slice ae d.es.length ce, .slice ak d.ks.length ck))[0]? = some (.bool d.leaf) from rfl, hlf] at d0
 rw [show (cellsD1 d (.slice ae d.es.length ce, .slice ak d.ks.length ck))[1]? = some (.slice ae d.es.length ce) from rfl, hn] at d1
 rw [show (cellsD1 d (.slice ae d.es.length ce, .slice ak d.ks.length ck))[2]? = some (.slice ak d.ks.length ck) from rfl, hmm] at d2
 rw [hn] at hen hnd hay
 rw [hmm] at hin hnd
 have HEn1 := hid hen
 have HIn1 := hid hin
 have HNd1 := hid hnd
 have HAy := hid hay
 have HNn := hid hn
 have HNm := hid hmm
 have HDc := hid (show w.cell? ⟨G0, x * 3, none⟩ = some (.bool true) ∧ w.cell? ⟨G0, x * 3 + 1, none⟩ = some (.slice ae n ce) ∧ w.cell? ⟨G0, x * 3 + 2, none⟩ = some (.slice ak m ck) from ⟨d0, d1, d2⟩)
 clear hen hin hok hnd hcell hn hmm hown hay hT hl hns hb hm he hA hav hnz hF hZ hlf hform hsz hpt hxd d0 d1 d2 hN hd hyk
 have hlt' : (x : Int) < (N : Int) := by omega
 have hk0 : (0 : Int) ≤ (x : Int) := by omega
 go_enter Tryz.func23, Tryz.ntmps23
 go_upto_region 1 with fail
 have hU := fun {p : Addr} {v : Value} (e : w.cell? p = some v) => (HTw.out.cell (World.block_lt_of_cell? w _ e)).trans e
 have cT : ((w.alloc (.cells #[.int .i64 K0, .int .i64 N0, .float .f64 F0, .slice ax nz cx, .int .i64 i0] 48)).alloc (.cells #[.int .i64 0, .int .i64 0, .float .f64 0, .slice none 0 0, .int .i64 0] 48)).cell? ⟨pT, 0, none⟩ = some (.slice (some ⟨G0, 0, none⟩) N c) := hU (qC HT.out)
 have d0 := hU HDc.out.1
 have d1 := hU HDc.out.2.1
 have d2 := hU HDc.out.2.2
 clear hU
 generalize (w.alloc (.cells #[.int .i64 K0, .int .i64 N0, .float .f64 F0, .slice ax nz cx, .int .i64 i0] 48)).alloc (.cells #[.int .i64 0, .int .i64 0, .float .f64 0, .slice none 0 0, .int .i64 0] 48) = U at *
 have HBA := hid (Below.alloc1 U (.cells #[.bool true, .slice ae n ce, .slice ak m ck] 61))
 have HR8 := hid (heap_alloc_new U (.cells #[.bool true, .slice ae n ce, .slice ak m ck] 61))
 have HZ8 := hid (alloc_size U (.cells #[.bool true, .slice ae n ce, .slice ak m ck] 61))
 go_upto_region 2 with fail
 clear cT d0 d1 d2 HDc hlt' hk0
 generalize U.alloc (.cells #[.bool true, .slice ae n ce, .slice ak m ck] 61) = W2 at *
 obtain ⟨p8, hp8⟩ : ∃ p8, U.heap.size = p8 := ⟨_, rfl⟩
 obtain ⟨p6, hp6⟩ : ∃ p6, w.heap.size + 1 = p6 := ⟨_, rfl⟩
 obtain ⟨p5, hp5⟩ : ∃ p5, w.heap.size = p5 := ⟨_, rfl⟩
 obtain ⟨q5, q6, q7⟩ := HRw.out
 have hB2 : Below w.heap.size w W2 := HTw.out.trans (HBA.out.mono HTw.out.size)
 have hposs : w.heap.size ≤ p5 ∧ p5 < p6 ∧ p6 < p8 ∧ p8 < W2.heap.size ∧ pT < w.heap.size ∧ b ≤ w.heap.size := ⟨by omega, by omega, by omega, by have := HZ8.out; omega, HSz.out.2, HB.out⟩
 rw [hp8] at HR8
 rw [hp6] at q6
 rw [hp5] at q5
 obtain ⟨A', hA'⟩ : ∃ A' : Nat → Prop, (fun g => A g ∨ g = p6) = A' := ⟨_, rfl⟩
 have HAw := hid (show ∀ g, A g → A' g from fun g h => by rw [← hA']; exact .inl h)
 have HA6 := hid (show A' p6 by rw [← hA']; exact .inr rfl)
 have HAl := hid (show ∀ g, A' g → g < p8 from fun g h => by
  rw [← hA'] at h
  rcases h with h | h
  · have := HA.out g h; omega
  · omega)
 have old : ∀ v, Shuns A v → (∃ bb t st k xs, w.ownsRow bb t st v k xs) → Shuns A' v := fun v h ⟨bb, t, st, k, xs, o⟩ g e q => by
  rw [← hA'] at q
  rcases q with q | q
  · exact h g e q
  · have := (o.lt g e).2; omega
 have HS2 := hid (show DS A' w b pT G0 p5 p6 p8 #[.int .i64 K0, .int .i64 N0, .float .f64 F0, .slice ax nz cx, .int .i64 i0] #[.int .i64 0, .int .i64 0, .float .f64 0, .slice none 0 0, .int .i64 0] root G0 N c (ds) (ys) (.slice ae n ce, .slice ak m ck) (d) W2 from by
  refine ⟨(hB2.block pT HSz.out.2).trans HT.out, HL.out, HNs.out.below hB2, (HBA.out.block p5 (by omega)).trans q5, (HBA.out.block p6 (by omega)).trans q6, by rw [HLf.out]; exact HR8.out, HNd1.out.kn (KN.below hB2), Kept.of_below hB2, hposs, .inl ⟨rfl, HSz.out.1⟩, fun i hi => ?_, ?_⟩
  · obtain ⟨bb, xx, o⟩ := (HNs.out.nd i hi).es
    exact old _ (HAv.out i hi) ⟨_, _, _, _, _, o.own⟩
  · exact old _ HAy.out ⟨_, _, _, _, _, HEn1.out.own⟩)
 have HBw2 := hid hB2
 have HPos := hid hposs
 try simp only [hp8]
 try simp only [hp6]
 try simp only [hp5]
 clear hp8 hp6 hp5 q5 q6 q7 hB2 hposs hA' old HTw HRw HBA HR8 HZ8
 obtain ⟨Ra, hRa, hRc⟩ : ∃ Rq, Reads w ax nz Z0 ∧ Rq = (ax = none → cx = 0) := by
  obtain ⟨bq, oq⟩ := HE.out.own
  rw [HNz.out] at oq
  obtain ⟨a', c', e', r, _⟩ := Reads.own oq HE.out.bd
  cases e'
  exact ⟨_, r, rfl⟩
 have HRq := hid hRa
 clear hRa hRc Ra
 have f1 : W2.cell? ⟨p8, 1, none⟩ = some (.slice ae n ce) := qC HS2.out.r8
 have e0 : W2.cell? ⟨p5, 0, none⟩ = some (.int .i64 K0) := qC HS2.out.r5
 have e1 : W2.cell? ⟨p5, 1, none⟩ = some (.int .i64 N0) := qC HS2.out.r5
 have e2 : W2.cell? ⟨p5, 2, none⟩ = some (.float .f64 F0) := qC HS2.out.r5
 have e3 : W2.cell? ⟨p5, 3, none⟩ = some (.slice ax nz cx) := qC HS2.out.r5
 have e4 : W2.cell? ⟨p5, 4, none⟩ = some (.int .i64 i0) := qC HS2.out.r5
 go_wp2_with fail
 clear e0 e1 e2 e3 e4 f1
 refine (spec_l11ups ce K0 N0 F0 cx i0 (HEn1.out.rd.below HBw2.out qN) HNn.out (by have := HSm.out.1; have := HNn.out; omega) HM.out (HRq.out.below HBw2.out qN) ⟨HNz.out, HF.out.1, HF.out.2⟩).mono ?_
 rintro r v1 ⟨rfl, b1⟩
 have HB1 := hid (HBw2.out.trans (b1.mono HBw2.out.size))
 have HS3 := hid (HS2.out.below b1)
 have hule := upsB_le d.es ⟨K0, N0, F0, Z0, i0⟩
 rw [HNn.out] at hule
 obtain ⟨up, hup⟩ : ∃ up, upsB d.es ⟨K0, N0, F0, Z0, i0⟩ = up := ⟨_, rfl⟩
 rw [hup] at hule
 simp only [hup]
 have HUp := hid hup
 clear b1 HS2 HBw2 hup
 have f0 : v1.cell? ⟨p8, 0, none⟩ = some (.bool true) := by rw [cell_of_row _ _ _ _ _ _ HS3.out.r8]; exact congrArg (fun q => some (Value.bool q)) HLf.out
 have f1 : v1.cell? ⟨p8, 1, none⟩ = some (.slice ae n ce) := qC HS3.out.r8
 have e0 : v1.cell? ⟨p5, 0, none⟩ = some (.int .i64 K0) := qC HS3.out.r5
 have e1 : v1.cell? ⟨p5, 1, none⟩ = some (.int .i64 N0) := qC HS3.out.r5
 have e2 : v1.cell? ⟨p5, 2, none⟩ = some (.float .f64 F0) := qC HS3.out.r5
 have e3 : v1.cell? ⟨p5, 3, none⟩ = some (.slice ax nz cx) := qC HS3.out.r5
 have e4 : v1.cell? ⟨p5, 4, none⟩ = some (.int .i64 i0) := qC HS3.out.r5
 go_wp2_with fail
 clear e0 e1 e2 e3 e4 f0 f1
 have hen1 := HEn1.out.kn (KN.below HB1.out)
 obtain ⟨hpt, hcc, hao, _⟩ := hen1.pt
 have htx := HE.out.kn (KN.below HB1.out)
 refine (spec_l11put (e := ⟨K0, N0, F0, Z0, i0⟩) hpt hao (by rw [HEn1.out.len]) HNn.out (by have := HSm.out.1; have := HNn.out; omega) hule hcc hen1.ones (by
  intro u hu
  simp only [cellsE1, List.mem_cons, List.not_mem_nil, or_false] at hu
  rcases hu with rfl | rfl | rfl | rfl | rfl
  · rfl
  · rfl
  · rfl
  · exact htx.one
  · rfl)).mono ?_
 rintro r v2 ⟨a', c', rfl, o2, b2⟩
 obtain ⟨n1, hn1⟩ : ∃ n1, n + 1 = n1 := ⟨_, rfl⟩
 obtain ⟨ES, hES⟩ : ∃ ES, putL d.es up ⟨K0, N0, F0, Z0, i0⟩ = ES := ⟨_, rfl⟩
 have HEl := hid (show ES.length = n1 by rw [← hES, putL_len, HNn.out]; exact hn1)
 have HTk := hid (show takeN (ds.getD x nd0) (upsB (ds.getD x nd0).es ⟨K0, N0, F0, Z0, i0⟩) ⟨K0, N0, F0, Z0, i0⟩ 0 = ⟨true, ES, d.ks⟩ by rw [HD.out, HUp.out]; unfold takeN; rw [HLf.out, hES]; rfl)
 have hn5 : n1 ≤ 5 := by have := HSm.out.1; have := HNn.out; omega
 have HS4 := hid (HS3.out.below b2)
 have hs1 := HPos.out
 have hs1b : p8 < v1.heap.size := HS3.out.pos.2.2.2.1
 have HSh := hid (Shuns.own o2 (fun g h => by have := HAl.out g h; omega))
 have hen2 : EnR v2 v1.heap.size (.slice a' (n + 1) c') (putL d.es up ⟨K0, N0, F0, Z0, i0⟩) (putL xs up (.slice ax nz cx)) := hen1.put (e := ⟨K0, N0, F0, Z0, i0⟩) htx HF.out.1 (by rw [HNn.out]; exact hule) (by rw [HNn.out]; exact o2) b2
 rw [hn1, hES] at hen2
 simp only [hn1] at HSh ⊢
 have HEn2 := hid hen2
 have HTx2 := hid (htx.kn (KN.below b2))
 have hs5 := HS4.out.es ⟨_, _, hen2⟩ HSh.out
 rw [HLf.out] at hs5
 have HS5 := hid hs5
 have HMe := hid (show ∀ j, (ES.getD j en0).Z.length ≤ 2097152 from fun j => by
  rw [← hES, getD_put _ _ _ _ (by rw [HNn.out]; exact hule)]
  split
  · exact HM.out j
  · split
    · dsimp only; rw [HNz.out]; exact HF.out.2
    · exact HM.out (j - 1))
 have f1 : v2.cell? ⟨p8, 1, none⟩ = some (.slice ae n ce) := qC HS4.out.r8
 have g1 : v2.frozen? ⟨p8, 1, none⟩ = false := frozen_of_row _ _ 1 _ _ HS4.out.r8
 have HB2 := hid (HB1.out.trans (b2.mono HB1.out.size))
 clear hen1 hpt hcc hao htx o2 b2 hs1 hs1b hen2 hs5 HS3 hn1 hES hule HE HM
 go_upto_region 5 with fail
 clear f1 g1
 have HEn3 := hid (HEn2.out.kn (KN.set (p := ⟨p8, 1, none⟩) HS4.out.r8 (.inl rfl) (.slice a' n1 c')))
 clear HEn2 HS4
 generalize v2.setCell ⟨p8, 1, none⟩ (.slice a' n1 c') = v3 at *
 have HSd := hid (HS5.out.below ((Still.drew v3).below v3.heap.size))
 have hS0 : (fun W => W.cell? ⟨pT, 0, none⟩ = some (.slice (some ⟨G0, 0, none⟩) N c) ∧ W.cell? ⟨p8, 0, none⟩ = some (.bool true) ∧ W.cell? ⟨p8, 1, none⟩ = some (.slice a' n1 c') ∧ W.cell? ⟨p8, 2, none⟩ = some (.slice ak m ck)) v3.drew := ⟨qC HSd.out.tr, by rw [cell_of_row _ _ _ _ _ _ HSd.out.r8]; first | rfl | exact congrArg (fun q => some (Value.bool q)) HLf.out, qC HSd.out.r8, qC HSd.out.r8⟩
 have hlt' : (x : Int) < (N : Int) := by have := HXd.out; have := HL.out; omega
 have hk0 : (0 : Int) ≤ (x : Int) := by omega
 have HBd := hid ((Still.drew v3).below v3.heap.size)
 refine region_K 99 (fun W => W.cell? ⟨pT, 0, none⟩ = some (.slice (some ⟨G0, 0, none⟩) N c) ∧ W.cell? ⟨p8, 0, none⟩ = some (.bool true) ∧ W.cell? ⟨p8, 1, none⟩ = some (.slice a' n1 c') ∧ W.cell? ⟨p8, 2, none⟩ = some (.slice ak m ck)) (by kernel_rfl) hS0 (fun hh => ?_)
 clear hS0
 generalize v3.drew = vd at *
 refine qT 0 rfl hh 35 rfl ?_
 refine qT 1 rfl hh 36 rfl ?_
 refine qT 2 rfl hh 37 rfl ?_
 refine qT 3 rfl hh 38 rfl ?_
 refine qT 4 rfl hh 39 rfl ?_
 refine qT 5 rfl hh 40 rfl ?_
 refine qT 6 rfl hh 41 rfl ?_
 have hown := HSd.out.nsr.own
 rw [HSd.out.len] at hown
 have hcy : ∀ q, q < 3 → ∃ v, vd.cell? ⟨G0, x * 3 + q, none⟩ = some v := fun q hq => by
  rw [hown.cellAt (x * 3 + q) (by omega)]
  exact ⟨_, List.getElem?_eq_getElem (by have := hown.1; omega)⟩
 obtain ⟨u0, d0⟩ := hcy 0 (by omega)
 obtain ⟨u1', d1⟩ := hcy 1 (by omega)
 obtain ⟨u2, d2⟩ := hcy 2 (by omega)
 rw [Nat.add_zero] at d0
 have f0 := hown.frozenAt (x * 3)
 have f1 := hown.frozenAt (x * 3 + 1)
 have f2 := hown.frozenAt (x * 3 + 2)
 have HSp := hid (show DS A' w b pT G0 p5 p6 p8 #[.int .i64 K0, .int .i64 N0, .float .f64 F0, .slice ax nz cx, .int .i64 i0] #[.int .i64 0, .int .i64 0, .float .f64 0, .slice none 0 0, .int .i64 0] root G0 N c (ds.set x ⟨true, ES, d.ks⟩) (ys.set x (.slice a' n1 c', .slice ak m ck)) (.slice a' n1 c', .slice ak m ck) (⟨true, ES, d.ks⟩) (set3 vd G0 x true (.slice a' n1 c', .slice ak m ck)) from HSd.out.put (x := x) (by omega))
 have hS1 : (fun W => W.cell? ⟨pT, 0, none⟩ = some (.slice (some ⟨G0, 0, none⟩) N c) ∧ W.cell? ⟨p8, 0, none⟩ = some (.bool true) ∧ W.cell? ⟨p8, 1, none⟩ = some (.slice a' n1 c') ∧ W.cell? ⟨p8, 2, none⟩ = some (.slice ak m ck)) (set3 vd G0 x true (.slice a' n1 c', .slice ak m ck)) := ⟨qC HSp.out.tr, by rw [cell_of_row _ _ _ _ _ _ HSp.out.r8]; first | rfl | exact congrArg (fun q => some (Value.bool q)) HLf.out, qC HSp.out.r8, qC HSp.out.r8⟩
 have HKnv5 := hid (show KN v3 (set3 vd G0 x true (.slice a' n1 c', .slice ak m ck)) from (KN.below HBd.out).trans ((set3_kept vd G0 x true (.slice a' n1 c', .slice ak m ck)).mono (fun k _ q => by subst q; obtain ⟨cs, fz, e⟩ := HSd.out.gty; exact ⟨_, _, _, e, .inl rfl⟩)))
 have HKbv5 := hid (show ∀ k, k < v3.heap.size → k ≠ G0 → (set3 vd G0 x true (.slice a' n1 c', .slice ak m ck)).heap[k]? = v3.heap[k]? from fun k hk hne => (set3_heap vd G0 x true (.slice a' n1 c', .slice ak m ck) hne).trans (HBd.out.block k hk))
 have HKzv5 := hid (show v3.heap.size ≤ (set3 vd G0 x true (.slice a' n1 c', .slice ak m ck)).heap.size by rw [set3_size]; exact HBd.out.size)
 unfold set3 at hS1 HSp HKnv5 HKbv5 HKzv5
 clear hcy hown
 refine qS 7 rfl fun KP hK => ?_
 go_simp
 refine hK.out _ _ hS1 (fun hh => ?_)
 clear hK KP d0 d1 d2 f0 f1 f2 hS1 hh hlt' hk0
 try simp only [qP]
 refine anyK_done (by kernel_rfl) ?_ _
 clear HSd HBd
 generalize ((vd.setCell ⟨G0, x * 3, none⟩ (.bool true)).setCell ⟨G0, x * 3 + 1, none⟩ (.slice a' n1 c')).setCell ⟨G0, x * 3 + 2, none⟩ (.slice ak m ck) = v5 at *
 have f1 : v5.cell? ⟨p8, 1, none⟩ = some (.slice a' n1 c') := qC HSp.out.r8
 by_cases h4 : n1 ≤ 4
 · have h4' : (n1 : Int) ≤ 4 := by omega
   have HC6 := HSp.out.r6
   go_wp2_with (refine wpList_store_row rfl 48 (.tmp 6) _ rfl p6 #[.int .i64 0, .int .i64 0, .float .f64 0, .slice none 0 0, .int .i64 0] rfl rfl 48 _ HC6 size_en11 rfl (by simp [Value.oneCell']) ?_)
   refine bodyPost_ret (results_cell_tmp11 Tryz.results23 _ _ p6 48 #[.int .i64 0, .int .i64 0, .float .f64 0, .slice none 0 0, .int .i64 0] (0, 0) _ rfl (setRow_heap _ _ _ _ _ _ HC6) Tryz.underlying48 rfl size_en11) rfl ?_
   rw [← HRes.out, HTk.out, show layN ds (x : Int) ⟨true, ES, d.ks⟩ = (ds.set x ⟨true, ES, d.ks⟩, none) by unfold layN; rw [if_pos (by rw [HEl.out]; exact h4), Int.toNat_natCast]]
   exact HSp.out.down HA6.out HAw.out _ (fun _ => rfl) (fun up k h => by cases h)
 · have h4' : ¬ (n1 : Int) ≤ 4 := by omega
   have h5 : n1 = 5 := by omega
   subst h5
   obtain ⟨ga, rfl⟩ : ∃ ga, a' = some ⟨ga, 0, none⟩ := by
    rcases HEn3.out.own.2 with ⟨e, h0⟩ | ⟨g, cp, cu, e, _⟩
    · have := HEl.out; omega
    · exact ⟨g, (Value.slice.inj e).1⟩
   obtain ⟨bb, xb, hen5⟩ := HSp.out.nd.es
   dsimp only at hen5
   have hrd := hen5.rd
   have hc5 := hen5.pt.2.1.1
   have hrd2 : ReadsE v5 (some ⟨ga, 10, none⟩) (ES.drop 2) := hrd.drop 2
   have HRd := hid hrd
   have HC5 := hid hc5
   clear hen5 hrd HEn3
   go_wp2_with fail
   clear h4 h4'
   have hMd := fun j => HMe.out (2 + j)
   refine (spec_entries _ hrd2 (by rw [List.length_drop, HEl.out]) (by omega) (fun j => by rw [show (ES.drop 2).getD j en0 = ES.getD (2 + j) en0 by simp [List.getD, List.getElem?_drop]]; exact HMe.out (2 + j))).mono ?_
   rintro r u1 ⟨vm, rfl, om, bm⟩
   obtain ⟨am, cm, em⟩ := om.slice
   have hl3 : (ES.drop 2).length = 3 := by rw [List.length_drop, HEl.out]
   rw [hl3] at em
   subst em
   obtain ⟨xm, hem⟩ := om.enr
   have HEm := hid hem
   have HS6 := hid (HSp.out.below bm)
   have HRd6 := hid (HRd.out.below bm qN)
   have HBA := hid (Below.alloc1 u1 (.cells #[.bool true, .slice am 3 cm, .slice none 0 0] 61))
   have HR10 := hid (heap_alloc_new u1 (.cells #[.bool true, .slice am 3 cm, .slice none 0 0] 61))
   have HZ10 := hid (alloc_size u1 (.cells #[.bool true, .slice am 3 cm, .slice none 0 0] 61))
   have hs1b : p8 < v5.heap.size := HSp.out.pos.2.2.2.1
   have HShm := hid (Shuns.own hem.own (fun g h => by have := HAl.out g h; omega))
   clear om bm hMd hrd2 hem HSp HRd f1 hc5 hs1b
   go_upto_region 9 with fail
   have HS7 := hid (HS6.out.below HBA.out)
   have HRd7 := hid (HRd6.out.below HBA.out qN)
   have HEm7 := hid (HEm.out.kn (KN.below HBA.out))
   clear HS6 HRd6 HEm
   generalize u1.alloc (.cells #[.bool true, .slice am 3 cm, .slice none 0 0] 61) = u2 at *
   obtain ⟨p10, hp10⟩ : ∃ p10, u1.heap.size = p10 := ⟨_, rfl⟩
   rw [hp10] at HR10
   have HP10 := hid (show p8 < p10 ∧ p10 < u2.heap.size from by
    have := HS7.out.pos.2.2.2.1
    have := HZ10.out
    have h8 := HS7.out.r8
    refine ⟨?_, by omega⟩
    rcases Nat.lt_or_ge p8 p10 with h | h
    · exact h
    · have : p8 = p10 := by omega
      subst this
      have h10 := HR10.out
      rw [h8] at h10
      simp at h10)
   try simp only [hp10]
   clear hp10 HZ10 HBA
   have f1 : u2.cell? ⟨p8, 1, none⟩ = some (.slice (some ⟨ga, 0, none⟩) 5 c') := qC HS7.out.r8
   have hc5 := HC5.out
   go_wp2_with fail
   clear f1
   refine (spec_entries _ (HRd7.out.take 2) (by rw [List.length_take, HEl.out]; rfl) (by omega) (fun j => by
    by_cases hj : j < 2
    · rw [show (ES.take 2).getD j en0 = ES.getD j en0 by simp [List.getD, hj]]; exact HMe.out j
    · rw [show (ES.take 2).getD j en0 = en0 by simp [List.getD, List.getElem?_take, hj]]; simp [en0])).mono ?_
   rintro r u3 ⟨vl, rfl, ol, bl⟩
   obtain ⟨al, cl, el⟩ := ol.slice
   have hl2 : (ES.take 2).length = 2 := by rw [List.length_take, HEl.out]; rfl
   rw [hl2] at el
   subst el
   obtain ⟨xl, hel⟩ := ol.enr
   have HS8 := hid (HS7.out.below bl)
   have HR10c := hid ((bl.block p10 HP10.out.2).trans HR10.out)
   have HP10c := hid (show p8 < p10 ∧ p10 < u3.heap.size from ⟨HP10.out.1, Nat.lt_of_lt_of_le HP10.out.2 bl.size⟩)
   have HEm8 := hid (HEm7.out.kn (KN.below bl))
   have HShl := hid (Shuns.own hel.own (fun g h => by have := HAl.out g h; have := HP10.out; omega))
   have HS9 := hid (HS8.out.es ⟨_, _, hel⟩ HShl.out)
   have kn9 := KN.set (p := ⟨p8, 1, none⟩) HS8.out.r8 (.inl rfl) (.slice al 2 cl)
   have HEm9 := hid (HEm8.out.kn kn9)
   have HP10d := hid (show p10 < (u3.setCell ⟨p8, 1, none⟩ (.slice al 2 cl)).heap.size by rw [set_size]; exact HP10c.out.2)
   have HR10d := hid (show (u3.setCell ⟨p8, 1, none⟩ (.slice al 2 cl)).heap[p10]? = _ from (heap_set_ne u3 p8 1 p10 _ (by have := HP10c.out; omega)).trans HR10c.out)
   have f1 : u3.cell? ⟨p8, 1, none⟩ = some (.slice (some ⟨ga, 0, none⟩) 5 c') := qC HS8.out.r8
   have g1 : u3.frozen? ⟨p8, 1, none⟩ = false := frozen_of_row _ _ 1 _ _ HS8.out.r8
   clear ol bl hel HS7 HRd7 HEm7 HR10 HP10 kn9 hc5
   go_upto_region 10 with fail
   clear f1 g1 HS8 HR10c HEm8
   generalize u3.setCell ⟨p8, 1, none⟩ (.slice al 2 cl) = u4 at *
   have HSd := hid (HS9.out.below ((Still.drew u4).below u4.heap.size))
   have hS0 : (fun W => W.cell? ⟨pT, 0, none⟩ = some (.slice (some ⟨G0, 0, none⟩) N c) ∧ W.cell? ⟨p8, 0, none⟩ = some (.bool true) ∧ W.cell? ⟨p8, 1, none⟩ = some (.slice al 2 cl) ∧ W.cell? ⟨p8, 2, none⟩ = some (.slice ak m ck)) u4.drew := ⟨qC HSd.out.tr, by rw [cell_of_row _ _ _ _ _ _ HSd.out.r8]; first | rfl | exact congrArg (fun q => some (Value.bool q)) HLf.out, qC HSd.out.r8, qC HSd.out.r8⟩
   have hlt' : (x : Int) < (N : Int) := by have := HXd.out; have := HL.out; omega
   have hk0 : (0 : Int) ≤ (x : Int) := by omega
   have HBd := hid ((Still.drew u4).below u4.heap.size)
   refine region_K 99 (fun W => W.cell? ⟨pT, 0, none⟩ = some (.slice (some ⟨G0, 0, none⟩) N c) ∧ W.cell? ⟨p8, 0, none⟩ = some (.bool true) ∧ W.cell? ⟨p8, 1, none⟩ = some (.slice al 2 cl) ∧ W.cell? ⟨p8, 2, none⟩ = some (.slice ak m ck)) (by kernel_rfl) hS0 (fun hh => ?_)
   clear hS0
   generalize u4.drew = vd at *
   refine qT 0 rfl hh 57 rfl ?_
   refine qT 1 rfl hh 58 rfl ?_
   refine qT 2 rfl hh 59 rfl ?_
   refine qT 3 rfl hh 60 rfl ?_
   refine qT 4 rfl hh 61 rfl ?_
   refine qT 5 rfl hh 62 rfl ?_
   refine qT 6 rfl hh 63 rfl ?_
   have hown := HSd.out.nsr.own
   rw [HSd.out.len] at hown
   have hcy : ∀ q, q < 3 → ∃ v, vd.cell? ⟨G0, x * 3 + q, none⟩ = some v := fun q hq => by
    rw [hown.cellAt (x * 3 + q) (by omega)]
    exact ⟨_, List.getElem?_eq_getElem (by have := hown.1; omega)⟩
   obtain ⟨u0, d0⟩ := hcy 0 (by omega)
   obtain ⟨u1', d1⟩ := hcy 1 (by omega)
   obtain ⟨u2, d2⟩ := hcy 2 (by omega)
   rw [Nat.add_zero] at d0
   have f0 := hown.frozenAt (x * 3)
   have f1 := hown.frozenAt (x * 3 + 1)
   have f2 := hown.frozenAt (x * 3 + 2)
   have HSq := hid (show DS A' w b pT G0 p5 p6 p8 #[.int .i64 K0, .int .i64 N0, .float .f64 F0, .slice ax nz cx, .int .i64 i0] #[.int .i64 0, .int .i64 0, .float .f64 0, .slice none 0 0, .int .i64 0] root G0 N c ((ds.set x ⟨true, ES, d.ks⟩).set x ⟨true, ES.take 2, d.ks⟩) ((ys.set x (.slice (some ⟨ga, 0, none⟩) 5 c', .slice ak m ck)).set x (.slice al 2 cl, .slice ak m ck)) (.slice al 2 cl, .slice ak m ck) (⟨true, ES.take 2, d.ks⟩) (set3 vd G0 x true (.slice al 2 cl, .slice ak m ck)) from HSd.out.put (x := x) (by omega))
   have hS1 : (fun W => W.cell? ⟨pT, 0, none⟩ = some (.slice (some ⟨G0, 0, none⟩) N c) ∧ W.cell? ⟨p8, 0, none⟩ = some (.bool true) ∧ W.cell? ⟨p8, 1, none⟩ = some (.slice al 2 cl) ∧ W.cell? ⟨p8, 2, none⟩ = some (.slice ak m ck)) (set3 vd G0 x true (.slice al 2 cl, .slice ak m ck)) := ⟨qC HSq.out.tr, by rw [cell_of_row _ _ _ _ _ _ HSq.out.r8]; first | rfl | exact congrArg (fun q => some (Value.bool q)) HLf.out, qC HSq.out.r8, qC HSq.out.r8⟩
   have HKnu5 := hid (show KN u4 (set3 vd G0 x true (.slice al 2 cl, .slice ak m ck)) from (KN.below HBd.out).trans ((set3_kept vd G0 x true (.slice al 2 cl, .slice ak m ck)).mono (fun k _ q => by subst q; obtain ⟨cs, fz, e⟩ := HSd.out.gty; exact ⟨_, _, _, e, .inl rfl⟩)))
   have HKbu5 := hid (show ∀ k, k < u4.heap.size → k ≠ G0 → (set3 vd G0 x true (.slice al 2 cl, .slice ak m ck)).heap[k]? = u4.heap[k]? from fun k hk hne => (set3_heap vd G0 x true (.slice al 2 cl, .slice ak m ck) hne).trans (HBd.out.block k hk))
   have HKzu5 := hid (show u4.heap.size ≤ (set3 vd G0 x true (.slice al 2 cl, .slice ak m ck)).heap.size by rw [set3_size]; exact HBd.out.size)
   unfold set3 at hS1 HSq HKnu5 HKbu5 HKzu5
   clear hcy hown
   refine qS 7 rfl fun KP hK => ?_
   go_simp
   refine hK.out _ _ hS1 (fun hh => ?_)
   clear hK KP d0 d1 d2 f0 f1 f2 hS1 hh hlt' hk0
   try simp only [qP]
   refine anyK_done (by kernel_rfl) ?_ _
   clear HSd HBd
   generalize ((vd.setCell ⟨G0, x * 3, none⟩ (.bool true)).setCell ⟨G0, x * 3 + 1, none⟩ (.slice al 2 cl)).setCell ⟨G0, x * 3 + 2, none⟩ (.slice ak m ck) = u5 at *
   have hne := HSq.out.gne
   have HGm := hid (show G0 ≠ p10 by have := HSz.out.1; have := HP10c.out; have := HPos.out; omega)
   have HPm := hid (show p8 < p10 ∧ p10 < u5.heap.size from ⟨HP10c.out.1, Nat.lt_of_lt_of_le HP10d.out HKzu5.out⟩)
   have HRm := hid ((HKbu5.out p10 HP10d.out (Ne.symm HGm.out)).trans HR10d.out)
   have HEmA := hid (HEm9.out.kn HKnu5.out)
   have HNdm := hid (show NdR u5 (.slice am 3 cm, .slice none 0 0) ⟨true, ES.drop 2, []⟩ from ⟨⟨_, _, HEmA.out⟩, ⟨⟨0, World.ownsRow_nil _ _ _ _⟩, fun i => by simp⟩⟩)
   have HShm1 := HShm
   clear hne
   go_wp2_with fail
   have HBd := hid ((Still.drew u5).below u5.heap.size)
   have HSd := hid (HSq.out.below HBd.out)
   have HRd := hid ((HBd.out.block p10 HPm.out.2).trans HRm.out)
   have HNd := hid (HNdm.out.kn (KN.below HBd.out))
   have HLm := hid (show p10 < u5.drew.heap.size from Nat.lt_of_lt_of_le HPm.out.2 HBd.out.size)
   refine region_K 10 (fun W => W.cell? ⟨pT, 0, none⟩ = some (.slice (some ⟨G0, 0, none⟩) N c) ∧ W.cell? ⟨p10, 0, none⟩ = some (.bool true) ∧ W.cell? ⟨p10, 1, none⟩ = some (.slice am 3 cm) ∧ W.cell? ⟨p10, 2, none⟩ = some (.slice none 0 0)) (by kernel_rfl) ⟨qC HSd.out.tr, qC HRd.out, qC HRd.out, qC HRd.out⟩ (fun hh => ?_)
   generalize u5.drew = vd at *
   refine qA 0 rfl hh 64 rfl ?_
   refine qA 1 rfl hh 65 rfl ?_
   refine qA 2 rfl hh 66 rfl ?_
   refine qA 3 rfl hh 67 rfl ?_
   refine qA 4 rfl hh 68 rfl ?_
   refine qA 5 rfl hh 69 rfl ?_
   refine qS 6 rfl fun KP hK => ?_
   go_simp
   have HBA4 := hid (Below.alloc1 vd (.cells #[.bool true, .slice am 3 cm, .slice none 0 0] 61))
   have HN4 := hid (heap_alloc_new vd (.cells #[.bool true, .slice am 3 cm, .slice none 0 0] 61))
   have HSe := hid (HSd.out.below HBA4.out)
   have HRe := hid ((HBA4.out.block p10 HLm.out).trans HRd.out)
   have HNe := hid (HNd.out.kn (KN.below HBA4.out))
   have HLe := hid (Nat.lt_of_lt_of_le HLm.out HBA4.out.size)
   clear hh
   refine hK.out _ _ ⟨qC HSe.out.tr, qC HRe.out, qC HRe.out, qC HRe.out⟩ (fun hh => ?_)
   clear hK KP
   try simp only [qP]
   have HBe := hid (show Below u5.heap.size u5 (vd.alloc (.cells #[.bool true, .slice am 3 cm, .slice none 0 0] 61)) from HBd.out.trans (HBA4.out.mono HBd.out.size))
   generalize vd.alloc (.cells #[.bool true, .slice am 3 cm, .slice none 0 0] 61) = w4 at *
   have oR := HSe.out.nsr.own
   rw [HSe.out.len] at oR
   have hgne := HSe.out.gne
   obtain ⟨i1, hi1, hz0, hz1, hz2⟩ := info_parts Tryz.infoNd11
   have hbw : b ≤ w4.heap.size := by have := HSe.out.pos; omega
   have hN7 := HNx.out
   refine qS 7 rfl fun KP hK => ?_
   refine step_append11 rfl _ _ 31 rfl b 61 i1 (.agg #[.bool false, .slice none 0 0, .slice none 0 0]) 3 56 Tryz.underlying31 hi1 hz0 hz1 hz2 rfl (by decide) _ N _ rfl oR ⟨vd.heap.size, 0, none⟩ 1 1 [.bool true, .slice am 3 cm, .slice none 0 0] rfl rfl (World.news_of_block HN4.out) ?g3u6 (by unfold maxLen; omega) (by omega) hbw ?_
   case g3u6 => intro u hu; simp only [List.mem_cons, List.not_mem_nil, or_false] at hu; rcases hu with rfl | rfl | rfl <;> rfl
   intro a8 c8 w8 o8 g8 hh8
   obtain ⟨G1, ea8, hG8, hs9⟩ := HSe.out.app HNe.out HShm1.out o8 g8 hh8
   subst ea8
   have HSr := hid hs9
   have t8 : w8.heap[pT]? = some (.cells #[.slice (some ⟨G0, 0, none⟩) N c, .int .i64 root] 33) := (g8.block pT (qL HSe.out.tr) (fun q => hgne.2.2.2.1 (by first | exact Option.some.inj q | exact (Option.some.inj q).symm))).trans HSe.out.tr
   have r8 := (g8.block p10 HLe.out (fun q => HGm.out (by first | exact Option.some.inj q | exact (Option.some.inj q).symm))).trans HRe.out
   have HKnu6 := hid (show KN u5 (w8.setCell ⟨pT, 0, none⟩ (.slice (some ⟨G1, 0, none⟩) (N + 1) c8)) from ((KN.below HBe.out).trans (KN.grown g8 (fun k q => by obtain rfl := Option.some.inj q; obtain ⟨cs, fz, e⟩ := HSe.out.gty; exact ⟨_, _, _, e, .inl rfl⟩))).trans (KN.set (p := ⟨pT, 0, none⟩) t8 (.inr rfl) _))
   have HRmu6 := hid (show (w8.setCell ⟨pT, 0, none⟩ (.slice (some ⟨G1, 0, none⟩) (N + 1) c8)).heap[p10]? = _ from (heap_set_ne w8 pT 0 p10 _ (by have := HPm.out; have := HSe.out.pos; omega)).trans r8)
   have HKzu6 := hid (show u5.heap.size ≤ (w8.setCell ⟨pT, 0, none⟩ (.slice (some ⟨G1, 0, none⟩) (N + 1) c8)).heap.size by rw [set_size]; exact Nat.le_trans HBe.out.size g8.size)
   have kc := (show w8.cell? ⟨pT, 0, none⟩ = some (.slice (some ⟨G0, 0, none⟩) N c) from by rw [cell_of_row _ _ _ _ _ _ t8]; rfl)
   have kf := frozen_of_row _ _ 0 _ _ t8
   clear o8 g8 hh8 hs9 oR hh
   refine hK.out _ _ ⟨kc, qC r8, qC r8, qC r8⟩ (fun hh => ?_)
   clear hK KP r8 t8
   try simp only [qP]
   have HSw := hid hh
   refine qS 8 rfl fun KP hK => ?_
   go_simp
   clear hh
   refine hK.out _ _ HSw.out (fun hh => ?_)
   clear hK KP HSw
   try simp only [qP]
   refine qA 9 rfl hh 73 rfl ?_
   obtain ⟨N1, hN1⟩ : ∃ N1, N + 1 = N1 := ⟨_, rfl⟩
   rw [hN1] at HSr HKnu6 HRmu6 HKzu6
   simp only [hN1]
   have HN1 := hid hN1
   clear hN1
   refine anyK_last (by kernel_rfl) rfl (fun KP hK => ?_)
   go_simp
   refine hK.out _ _ ?_
   clear hK KP hh kc kf
   try simp only [qP]
   refine anyK_done (by kernel_rfl) ?_ _
   clear HSd HRd HNd HLm HSe HRe HNe HLe HBe HBd HBA4 HN4 hgne hbw hN7 hi1 hz0 hz1 hz2
   generalize w8.setCell ⟨pT, 0, none⟩ (.slice (some ⟨G1, 0, none⟩) N1 c8) = u6 at *
   have HEmB := hid (HEmA.out.kn HKnu6.out)
   have hl3 : (ES.drop 2).length = 3 := by rw [List.length_drop, HEl.out]
   obtain ⟨gm, rfl⟩ : ∃ gm, am = some ⟨gm, 0, none⟩ := by
    rcases HEmB.out.own.2 with ⟨e, h0⟩ | ⟨g, cp, cu, e, _⟩
    · omega
    · exact ⟨g, (Value.slice.inj e).1⟩
   have hxm := HEmB.out.tx 0 (by omega)
   have hom := HEmB.out.own
   rw [hl3] at hom
   have hcm := fun j (hj : j < 5) => (hom.cellAt (0 * 5 + j) (by omega)).trans (cellsE_at (ES.drop 2) xm 0 j HEmB.out.len (by omega) hj)
   have hgA : ¬ A' gm := HShm.out gm rfl
   have hg6 : gm ≠ p6 := fun e => hgA (e ▸ HA6.out)
   have hup2 : (ES.drop 2).getD 0 en0 = ES.getD 2 en0 := by simp [List.getD, List.getElem?_drop]
   rw [hup2] at hxm hcm
   have HUpn := hid (show upN ⟨true, ES, d.ks⟩ = ES.getD 2 en0 from rfl)
   obtain ⟨ee, hee⟩ : ∃ ee, ES.getD 2 en0 = ee := ⟨_, rfl⟩
   rw [hee] at hxm hcm HUpn
   generalize xm.getD 0 nilS = tx at hxm hcm
   obtain ⟨bt, ot⟩ := hxm.1.own
   obtain ⟨a3, c3, rfl⟩ := own_sl ot
   obtain ⟨nz3, hnz3⟩ : ∃ nz3, ee.Z.length = nz3 := ⟨_, rfl⟩
   rw [hnz3] at hxm hcm
   have HTx3 := hid hxm
   have k0 : u6.cell? ⟨gm, 0, none⟩ = some (.int .i64 ee.K) := hcm 0 (by omega)
   have k1 : u6.cell? ⟨gm, 1, none⟩ = some (.int .i64 ee.N) := hcm 1 (by omega)
   have k2 : u6.cell? ⟨gm, 2, none⟩ = some (.float .f64 ee.F) := hcm 2 (by omega)
   have k3 : u6.cell? ⟨gm, 3, none⟩ = some (.slice a3 nz3 c3) := hcm 3 (by omega)
   have k4 : u6.cell? ⟨gm, 4, none⟩ = some (.int .i64 ee.id) := hcm 4 (by omega)
   have hst3 := fun w a m => run_store Tryz.prog w a (.float .f64 ee.F) m rfl
   have HSS := hid (show (fun W => W.cell? ⟨p10, 1, none⟩ = some (.slice (some ⟨gm, 0, none⟩) 3 cm) ∧ W.cell? ⟨gm, 0, none⟩ = some (.int .i64 ee.K) ∧ W.cell? ⟨gm, 1, none⟩ = some (.int .i64 ee.N) ∧ W.cell? ⟨gm, 2, none⟩ = some (.float .f64 ee.F) ∧ W.cell? ⟨gm, 3, none⟩ = some (.slice a3 nz3 c3) ∧ W.cell? ⟨gm, 4, none⟩ = some (.int .i64 ee.id) ∧ W.cell? ⟨pT, 0, none⟩ = some (.slice (some ⟨G1, 0, none⟩) N1 c8)) u6 from ⟨qC HRmu6.out, k0, k1, k2, k3, k4, qC HSr.out.tr⟩)
   have HG6 := hid hg6
   clear hom hxm hcm hgA hup2 hee ot hnz3 k0 k1 k2 k3 k4 hg6 hl3 HEmB HEmA HNdm HRm
   have hw1 : IntKind.i64.wrap ((N1 : Int) - 1) = (N : Int) := by
    have := HN1.out; have := HNx.out
    rw [show (N1 : Int) - 1 = (N : Int) by omega]; simp [IntKind.wrap, IntKind.bits, IntKind.signed]; omega
   go_wp2_with fail
   have HBd := hid ((Still.drew u6).below u6.heap.size)
   refine region_K 99 (fun W => W.cell? ⟨p10, 1, none⟩ = some (.slice (some ⟨gm, 0, none⟩) 3 cm) ∧ W.cell? ⟨gm, 0, none⟩ = some (.int .i64 ee.K) ∧ W.cell? ⟨gm, 1, none⟩ = some (.int .i64 ee.N) ∧ W.cell? ⟨gm, 2, none⟩ = some (.float .f64 ee.F) ∧ W.cell? ⟨gm, 3, none⟩ = some (.slice a3 nz3 c3) ∧ W.cell? ⟨gm, 4, none⟩ = some (.int .i64 ee.id) ∧ W.cell? ⟨pT, 0, none⟩ = some (.slice (some ⟨G1, 0, none⟩) N1 c8)) (by kernel_rfl) (by have h := HSS.out; have c := fun {p : Addr} {v : Value} (e : u6.cell? p = some v) => (HBd.out.cell (World.block_lt_of_cell? u6 _ e)).trans e; exact ⟨c h.1, c h.2.1, c h.2.2.1, c h.2.2.2.1, c h.2.2.2.2.1, c h.2.2.2.2.2.1, c h.2.2.2.2.2.2⟩) (fun hh => ?_)
   have HSt := hid (HSr.out.below HBd.out)
   have HTx4 := hid (HTx3.out.1.kn (KN.below HBd.out))
   have HRd := hid ((HBd.out.block p10 (qL HRmu6.out)).trans HRmu6.out)
   generalize u6.drew = vd at *
   refine qT 0 rfl hh 74 rfl ?_
   refine qT 1 rfl hh 75 rfl ?_
   refine qT 2 rfl hh 76 rfl ?_
   refine qT 3 rfl hh 77 rfl ?_
   refine qT 4 rfl hh 78 rfl ?_
   refine qT 5 rfl hh 79 rfl ?_
   refine qT 6 rfl hh 80 rfl ?_
   refine qT 7 rfl hh 81 rfl ?_
   refine qT 8 rfl hh 82 rfl ?_
   refine qT 9 rfl hh 83 rfl ?_
   have HC6 := HSt.out.r6
   have g6 := row_grown11 vd p6 #[.int .i64 ee.K, .int .i64 ee.N, .float .f64 ee.F, .slice a3 nz3 c3, .int .i64 ee.id]
   have hS9 : (fun W => W.cell? ⟨p10, 1, none⟩ = some (.slice (some ⟨gm, 0, none⟩) 3 cm) ∧ W.cell? ⟨gm, 0, none⟩ = some (.int .i64 ee.K) ∧ W.cell? ⟨gm, 1, none⟩ = some (.int .i64 ee.N) ∧ W.cell? ⟨gm, 2, none⟩ = some (.float .f64 ee.F) ∧ W.cell? ⟨gm, 3, none⟩ = some (.slice a3 nz3 c3) ∧ W.cell? ⟨gm, 4, none⟩ = some (.int .i64 ee.id) ∧ W.cell? ⟨pT, 0, none⟩ = some (.slice (some ⟨G1, 0, none⟩) N1 c8)) (vd.setRow p6 #[.int .i64 ee.K, .int .i64 ee.N, .float .f64 ee.F, .slice a3 nz3 c3, .int .i64 ee.id]) := by
    have c := fun {k j : Nat} {v : Value} (hne : k ≠ p6) (e : vd.cell? ⟨k, j, none⟩ = some v) => (World.cell?_of_block (w := vd) (a := ⟨k, j, none⟩) (g6.block k (World.block_lt_of_cell? vd _ e) (fun q => hne (by first | exact Option.some.inj q | exact (Option.some.inj q).symm)))).trans e
    have h := hh
    have hp := HPos.out
    have hm := HPm.out
    exact ⟨c (by omega) h.1, c HG6.out h.2.1, c HG6.out h.2.2.1, c HG6.out h.2.2.2.1, c HG6.out h.2.2.2.2.1, c HG6.out h.2.2.2.2.2.1, c (by omega) h.2.2.2.2.2.2⟩
   refine qS 10 rfl fun KP hK => ?_
   refine wp_store_row 48 (.tmp 6) (.tmp 77) rfl p6 #[.int .i64 ee.K, .int .i64 ee.N, .float .f64 ee.F, .slice a3 nz3 c3, .int .i64 ee.id] rfl rfl 48 _ HC6 size_en11 rfl (by simp [Value.oneCell']) ?_
   clear hh
   refine hK.out _ _ hS9 (fun hh => ?_)
   clear hK KP hS9 g6
   try simp only [qP]
   refine qT 11 rfl hh 7 rfl ?_
   clear hh
   refine anyK_done (by kernel_rfl) ?_ _
   go_wp2_with fail
   refine bodyPost_ret (results_cell_tmp11 Tryz.results23 _ _ p6 48 #[.int .i64 ee.K, .int .i64 ee.N, .float .f64 ee.F, .slice a3 nz3 c3, .int .i64 ee.id] (0, 0) _ rfl (setRow_heap _ _ _ _ _ _ HC6) Tryz.underlying48 rfl size_en11) rfl ?_
   rw [← HRes.out, HTk.out, show layN ds (x : Int) ⟨true, ES, d.ks⟩ = (((ds.set x ⟨true, ES, d.ks⟩).set x ⟨true, ES.take 2, d.ks⟩) ++ [⟨true, ES.drop 2, []⟩], some (ee, (N : Int))) by
    unfold layN
    rw [if_neg (by rw [HEl.out]; omega), HUpn.out, HL.out, Int.toNat_natCast, List.set_set]
    rfl]
   exact HSt.out.down HA6.out HAw.out _ (fun h => by cases h) (fun up k h => by cases h; exact ⟨a3, nz3, c3, rfl, HTx4.out, HTx3.out.2⟩)
end Go.Proofs.YtlkoghdajpbffaaGreat
