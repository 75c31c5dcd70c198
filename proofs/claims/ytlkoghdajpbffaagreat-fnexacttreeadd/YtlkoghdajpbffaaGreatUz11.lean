/- The specification's l11down at an inner node. Conditions: at most 700 nodes, texts of at most 2^21 bytes. -/
import Derived.Test.YtlkoghdajpbffaaGreatMgC
namespace Go.Proofs.YtlkoghdajpbffaaGreat
open Go.RowKit
set_option maxRecDepth 100000
theorem InR.pt {w : World} {a : Option Addr} {n c : Nat} {ks : List Int} (h : InR w (.slice a n c) ks) (hn : 0 < n) : ∃ g, a = some ⟨g, 0, none⟩ ∧ Pt w 1 (some ⟨g, 0, none⟩) n c (ins ks) ∧ (n ≤ c ∧ c ≤ maxLen) ∧ ks.length = n := by
 obtain ⟨b, o⟩ := h.own
 obtain ⟨a', c', e⟩ := own_sl o
 have hl := (Value.slice.inj e).2.1
 rw [← hl] at o
 clear e
 rcases o.2 with ⟨e, h0⟩ | ⟨g, cap, cur, e, _, _, h1, h2, _⟩
 · omega
 · cases e
   refine ⟨g, rfl, ⟨o.1, .inr ⟨_, rfl, fun j u hu => ?_⟩, fun q => by cases q⟩, ⟨h1, h2⟩, hl.symm⟩
   have hj := (List.getElem?_eq_some_iff.1 hu).1
   rw [Addr.add_lit, Nat.zero_add]
   exact (o.cellAt j (by have := o.1; omega)).trans hu
theorem ins_put (ks : List Int) (k : Int) (i : Nat) : ins (ks.take i) ++ [.int .i64 k] ++ ins (ks.drop i) = ins (putL ks i k) := by
 unfold putL ins
 simp
theorem ins_split (ks : List Int) (i : Nat) : ins ks = ins (ks.take i) ++ ins (ks.drop i) := by
 unfold ins
 rw [← List.map_append, List.take_append_drop]
theorem ins_ones (ks : List Int) : ∀ u ∈ ins ks, u.oneCell' = true := fun u hu => by
 unfold ins at hu
 obtain ⟨k, _, rfl⟩ := List.mem_map.1 hu
 rfl
theorem anyK_three {P : Program} {ops : Array Oper} {Q : Exit → Act → World → Prop} {md : Region.Mode} {S : World → Prop} {L i j k : Nat} {oi oj ok : Oper} {n : Nat} {listed : Array Bool} {a : Act} {w : World} (hr : Region.ready md ops listed = [i, j, k]) (hoi : ops[i]? = some oi) (hoj : ops[j]? = some oj) (hok : ops[k]? = some ok)
 (hi : ∀ K : Act → World → Prop, Shut (∀ a w, S w → (S w → anyK P md ops Q S L n (listed.setIfInBounds i true) a w) → K a w) → if Region.wanted oi (yielded ops a.tmps) = true then Oper.wp P oi a w K Q else K (a.put oi.dst undef) w)
 (hj : ∀ K : Act → World → Prop, Shut (∀ a w, S w → (S w → anyK P md ops Q S L n (listed.setIfInBounds j true) a w) → K a w) → if Region.wanted oj (yielded ops a.tmps) = true then Oper.wp P oj a w K Q else K (a.put oj.dst undef) w)
 (hk : ∀ K : Act → World → Prop, Shut (∀ a w, S w → (S w → anyK P md ops Q S L n (listed.setIfInBounds k true) a w) → K a w) → if Region.wanted ok (yielded ops a.tmps) = true then Oper.wp P ok a w K Q else K (a.put ok.dst undef) w) : anyK P md ops Q S L (n + 1) listed a w := by
 refine ⟨fun e => absurd e (by rw [hr]; simp), fun q hq => ?_⟩
 rw [hr] at hq
 rcases List.mem_cons.1 hq with rfl | hq
 · exact wpOp_step hoi (fun K hK => hi K (fun a w hS hW => hK a w ⟨.inr hS, hW hS⟩))
 rcases List.mem_cons.1 hq with rfl | hq
 · exact wpOp_step hoj (fun K hK => hj K (fun a w hS hW => hK a w ⟨.inr hS, hW hS⟩))
 · obtain rfl := List.mem_singleton.1 hq
   exact wpOp_step hok (fun K hK => hk K (fun a w hS hW => hK a w ⟨.inr hS, hW hS⟩))
theorem EnR.lower {w : World} {b b' : Nat} {v : Value} {es : List En} {xs : List Value} (h : EnR w b v es xs) (hb : b' ≤ b) : EnR w b' v es xs := ⟨h.len, owns_lower h.own hb, h.tx⟩
theorem EnR.aside {w w' : World} {b b2 s2 n2 : Nat} {t2 : TypeId} {v v2 : Value} {es : List En} {xs zs : List Value} (h : EnR w b v es xs) (o : w.ownsRow b2 t2 s2 v2 n2 zs) (h1 : 48 ≠ t2) (h2 : (5 : TypeId) ≠ t2) (g : w.grownBy w' v2.ownBlock) : EnR w' b v es xs :=
 ⟨h.len, h.own.kept g (owns_ne h.own o h1), fun i hi => ⟨⟨by obtain ⟨b', o'⟩ := (h.tx i hi).1.own; exact ⟨b', o'.kept g (owns_ne o' o h2)⟩, (h.tx i hi).1.bd⟩, (h.tx i hi).2⟩⟩
theorem row_aside11 {w w' : World} {p b2 s2 n2 : Nat} {t t2 : TypeId} {cs : Array Value} {fz : Nat × Nat} {v2 : Value} {zs : List Value} (h : w.heap[p]? = some (.cells cs t fz)) (o : w.ownsRow b2 t2 s2 v2 n2 zs) (h1 : t ≠ t2) (g : w.grownBy w' v2.ownBlock) : w'.heap[p]? = some (.cells cs t fz) := by
 refine (g.block p (qL h) (fun q => ?_)).trans h
 rcases o.2 with ⟨e, _⟩ | ⟨g', cp, cu, e, _, hg, _⟩
 · rw [e] at q; cases q
 · rw [e] at q
   have e3 : g' = p := by first | exact Option.some.inj q | exact (Option.some.inj q).symm
   subst e3
   rw [hg] at h
   simp only [Option.some.injEq, Obj.cells.injEq] at h
   exact h1 h.2.1.symm
theorem InR.part {w : World} {g n c : Nat} {ks : List Int} (h : InR w (.slice (some ⟨g, 0, none⟩) n c) ks) (hl : ks.length = n) (i : Nat) (hi : i ≤ n) (c1 c2 : Nat) (hn : 0 < n) : Pt w 1 (some ⟨g, 0, none⟩) i c1 (ins (ks.take i)) ∧ Pt w 1 (some ⟨g, i, none⟩) (n - i) c2 (ins (ks.drop i)) := by
 obtain ⟨g', e, hp, _, _⟩ := h.pt hn
 cases e
 rw [ins_split ks i] at hp
 have := hp.split (k := i) (c1 := c1) (c2 := c2) (by rw [ins_length, List.length_take]; omega)
 simpa using this
theorem bd_take {ks : List Int} (h : ∀ i, -9223372036854775808 ≤ ks.getD i 0 ∧ ks.getD i 0 ≤ 9223372036854775807) (k : Nat) : ∀ i, -9223372036854775808 ≤ (ks.take k).getD i 0 ∧ (ks.take k).getD i 0 ≤ 9223372036854775807 := fun i => by
 by_cases hj : i < k
 · rw [show (ks.take k).getD i 0 = ks.getD i 0 by simp [List.getD, hj]]; exact h i
 · rw [show (ks.take k).getD i 0 = 0 by simp [List.getD, List.getElem?_take, hj]]; omega
theorem bd_drop {ks : List Int} (h : ∀ i, -9223372036854775808 ≤ ks.getD i 0 ∧ ks.getD i 0 ≤ 9223372036854775807) (k : Nat) : ∀ i, -9223372036854775808 ≤ (ks.drop k).getD i 0 ∧ (ks.drop k).getD i 0 ≤ 9223372036854775807 := fun i => by
 rw [show (ks.drop k).getD i 0 = ks.getD (k + i) 0 by simp [List.getD, List.getElem?_drop]]; exact h _
set_option maxHeartbeats 12800000 in
theorem spec_down_inner {A : Nat → Prop} {w : World} {b pT G0 N c x : Nat} {root : Int} {ds : List Nd} {ys : List (Value × Value)} {e : En} {ax : Option Addr} {cx : Nat} (hT : w.heap[pT]? = some (.cells #[.slice (some ⟨G0, 0, none⟩) N c, .int .i64 root] 33)) (hl : ds.length = N) (hN : N ≤ 700) (hns : NsR w b (.slice (some ⟨G0, 0, none⟩) N c) ds ys) (hb : b ≤ w.heap.size) (hx : x < N) (hlf : (ds.getD x nd0).leaf = false) (hform : formOk (ds.getD x nd0) = true) (hm : ∀ i j, ((ds.getD i nd0).es.getD j en0).Z.length ≤ 2097152) (he : TxR w (.slice ax e.Z.length cx) e.Z) (hF : e.F < 18446744073709551616) (hZ : e.Z.length ≤ 2097152) (hA : ∀ g, A g → g < w.heap.size) (hav : ShunsD A ys ds.length) {r0 : List Nd × Option (En × Int)} {kn : Nat} (hkid : (ds.getD x nd0).ks.getD (upsB (ds.getD x nd0).es e) 0 = (kn : Int)) (hIH : IHs pT b root ds kn e r0) (hsame : r0.1.getD x nd0 = ds.getD x nd0) (hlen : ds.length ≤ r0.1.length ∧ r0.1.length ≤ 700) (hup : ∀ up k, r0.2 = some (up, k) → up.Z.length ≤ 2097152 ∧ 0 ≤ k ∧ k ≤ 1000) :
 Calls Tryz.prog 23 #[.pointer (some ⟨pT, 0, none⟩), .int .i64 (x : Int), .agg #[.int .i64 e.K, .int .i64 e.N, .float .f64 e.F, .slice ax e.Z.length cx, .int .i64 e.id]] w fun r W => DownR A w W pT b root G0 (restS ds x e r0) r := by
 obtain ⟨K0, N0, F0, Z0, i0⟩ := e
 dsimp only at *
 obtain ⟨RES, hRES⟩ : ∃ RES, (restS ds x ⟨K0, N0, F0, Z0, i0⟩ r0) = RES := ⟨_, rfl⟩
 rw [hRES]
 have HRes := hid hRES
 clear hRES
 obtain ⟨nz, hnz⟩ : ∃ nz, Z0.length = nz := ⟨_, rfl⟩
 rw [hnz] at he hZ ⊢
 have hst := fun w a m => run_store Tryz.prog w a (.float .f64 F0) m rfl
 have HTw := hid (two w (.cells #[.int .i64 K0, .int .i64 N0, .float .f64 F0, .slice ax nz cx, .int .i64 i0] 48) (.cells #[.int .i64 0, .int .i64 0, .float .f64 0, .slice none 0 0, .int .i64 0] 48))
 have HRw := hid (two_rows11 w (.cells #[.int .i64 K0, .int .i64 N0, .float .f64 F0, .slice ax nz cx, .int .i64 i0] 48) (.cells #[.int .i64 0, .int .i64 0, .float .f64 0, .slice none 0 0, .int .i64 0] 48))
 have HT := hid hT
 have HL := hid hl
 have HNs := hid hns
 have HB := hid hb
 have HM := hid (hm x)
 have HMa := hid hm
 have HE := hid he
 have HA := hid hA
 have HAv := hid hav
 have HNz := hid hnz
 have HNx := hid hN
 have HF := hid (show F0 < 18446744073709551616 ∧ nz ≤ 2097152 from ⟨hF, hZ⟩)
 have HSm := hid (form_small' hform)
 have HFo := hid hform
 have HLf := hid hlf
 have hxd : x < ds.length := by omega
 have HXd := hid hxd
 have hnd := hns.nd x hxd
 have hsz : G0 < w.heap.size := (hns.own.lt G0 rfl).2
 have hpt : pT < w.heap.size := (qL hT)
 have HSz := hid (And.intro hsz hpt)
 have hown := hns.own
 rw [hl] at hown
 have hcell := fun j (hj : j < 3) => (hown.cellAt (x * 3 + j) (by omega)).trans (cellsD_at ds ys x j hns.len hxd hj)
 obtain ⟨d, hd⟩ : ∃ d, ds.getD x nd0 = d := ⟨_, rfl⟩
 rw [hd] at hnd hcell HM HSm HFo HLf hlf hform
 have HD := hid hd
 obtain ⟨be, xs, hen⟩ := hnd.es
 have hin := hnd.ks
 obtain ⟨bk, hok⟩ := hin.own
 obtain ⟨ae, ce, he1⟩ := own_sl hen.own
 obtain ⟨ak, ck, he2⟩ := own_sl hok
 have hay := hav x hxd
 obtain ⟨yk, hyk⟩ : ∃ yk, ys.getD x nilP = yk := ⟨_, rfl⟩
 rw [hyk] at hen hin hcell he1 he2 hnd hay hok
 have HYk := hid hyk
 obtain ⟨y1, y2⟩ := yk
 dsimp only at he1 he2 hen hin hay hok
 subst he1
 subst he2
 obtain ⟨n, hn⟩ : ∃ n, d.es.length = n := ⟨_, rfl⟩
 obtain ⟨m, hmm⟩ : ∃ m, d.ks.length = m := ⟨_, rfl⟩
 have d0 := hcell 0 (by omega)
 have d1 := hcell 1 (by omega)
 have d2 := hcell 2 (by omega)
 rw [Nat.add_zero] at d0
 rw [show (cellsD1 d (.slice ae d.es.length ce, .slice ak d.ks.length ck))[0]? = some (.bool d.leaf) from rfl, hlf] at d0
 rw [show (cellsD1 d (.slice ae d.es.length ce, .slice ak d.ks.length ck))[1]? = some (.slice ae d.es.length ce) from rfl, hn] at d1
 rw [show (cellsD1 d (.slice ae d.es.length ce, .slice ak d.ks.length ck))[2]? = some (.slice ak d.ks.length ck) from rfl, hmm] at d2
 rw [hn] at hen hnd hay
 rw [hmm] at hin hnd
 have HEn1 := hid hen
 have HIn1 := hid hin
 have HNd1 := hid hnd
 have HAy := hid hay
 have HNn := hid hn
 have HNm := hid hmm
 have HDc := hid (show w.cell? ⟨G0, x * 3, none⟩ = some (.bool false) ∧ w.cell? ⟨G0, x * 3 + 1, none⟩ = some (.slice ae n ce) ∧ w.cell? ⟨G0, x * 3 + 2, none⟩ = some (.slice ak m ck) from ⟨d0, d1, d2⟩)
 clear hen hin hok hnd hcell hn hmm hown hay hT hl hns hb hm he hA hav hnz hF hZ hlf hform hsz hpt hxd d0 d1 d2 hN hd hyk
 have hlt' : (x : Int) < (N : Int) := by omega
 have hk0 : (0 : Int) ≤ (x : Int) := by omega
 go_enter Tryz.func23, Tryz.ntmps23
 go_upto_region 1 with fail
 have hU := fun {p : Addr} {v : Value} (e : w.cell? p = some v) => (HTw.out.cell (World.block_lt_of_cell? w _ e)).trans e
 have cT : ((w.alloc (.cells #[.int .i64 K0, .int .i64 N0, .float .f64 F0, .slice ax nz cx, .int .i64 i0] 48)).alloc (.cells #[.int .i64 0, .int .i64 0, .float .f64 0, .slice none 0 0, .int .i64 0] 48)).cell? ⟨pT, 0, none⟩ = some (.slice (some ⟨G0, 0, none⟩) N c) := hU (qC HT.out)
 have d0 := hU HDc.out.1
 have d1 := hU HDc.out.2.1
 have d2 := hU HDc.out.2.2
 clear hU
 generalize (w.alloc (.cells #[.int .i64 K0, .int .i64 N0, .float .f64 F0, .slice ax nz cx, .int .i64 i0] 48)).alloc (.cells #[.int .i64 0, .int .i64 0, .float .f64 0, .slice none 0 0, .int .i64 0] 48) = U at *
 have HBA := hid (Below.alloc1 U (.cells #[.bool false, .slice ae n ce, .slice ak m ck] 61))
 have HR8 := hid (heap_alloc_new U (.cells #[.bool false, .slice ae n ce, .slice ak m ck] 61))
 have HZ8 := hid (alloc_size U (.cells #[.bool false, .slice ae n ce, .slice ak m ck] 61))
 go_upto_region 2 with fail
 clear cT d0 d1 d2 HDc hlt' hk0
 generalize U.alloc (.cells #[.bool false, .slice ae n ce, .slice ak m ck] 61) = W2 at *
 obtain ⟨p8, hp8⟩ : ∃ p8, U.heap.size = p8 := ⟨_, rfl⟩
 obtain ⟨p6, hp6⟩ : ∃ p6, w.heap.size + 1 = p6 := ⟨_, rfl⟩
 obtain ⟨p5, hp5⟩ : ∃ p5, w.heap.size = p5 := ⟨_, rfl⟩
 obtain ⟨q5, q6, q7⟩ := HRw.out
 have hB2 : Below w.heap.size w W2 := HTw.out.trans (HBA.out.mono HTw.out.size)
 have hposs : w.heap.size ≤ p5 ∧ p5 < p6 ∧ p6 < p8 ∧ p8 < W2.heap.size ∧ pT < w.heap.size ∧ b ≤ w.heap.size := ⟨by omega, by omega, by omega, by have := HZ8.out; omega, HSz.out.2, HB.out⟩
 rw [hp8] at HR8
 rw [hp6] at q6
 rw [hp5] at q5
 obtain ⟨A', hA'⟩ : ∃ A' : Nat → Prop, (fun g => A g ∨ g = p6) = A' := ⟨_, rfl⟩
 have HAw := hid (show ∀ g, A g → A' g from fun g h => by rw [← hA']; exact .inl h)
 have HA6 := hid (show A' p6 by rw [← hA']; exact .inr rfl)
 have HAl := hid (show ∀ g, A' g → g < p8 from fun g h => by
  rw [← hA'] at h
  rcases h with h | h
  · have := HA.out g h; omega
  · omega)
 have old : ∀ v, Shuns A v → (∃ bb t st k xs, w.ownsRow bb t st v k xs) → Shuns A' v := fun v h ⟨bb, t, st, k, xs, o⟩ g e q => by
  rw [← hA'] at q
  rcases q with q | q
  · exact h g e q
  · have := (o.lt g e).2; omega
 have HS2 := hid (show DS A' w b pT G0 p5 p6 p8 #[.int .i64 K0, .int .i64 N0, .float .f64 F0, .slice ax nz cx, .int .i64 i0] #[.int .i64 0, .int .i64 0, .float .f64 0, .slice none 0 0, .int .i64 0] root G0 N c (ds) (ys) (.slice ae n ce, .slice ak m ck) (d) W2 from by
  refine ⟨(hB2.block pT HSz.out.2).trans HT.out, HL.out, HNs.out.below hB2, (HBA.out.block p5 (by omega)).trans q5, (HBA.out.block p6 (by omega)).trans q6, by rw [HLf.out]; exact HR8.out, HNd1.out.kn (KN.below hB2), Kept.of_below hB2, hposs, .inl ⟨rfl, HSz.out.1⟩, fun i hi => ?_, ?_⟩
  · obtain ⟨bb, xx, o⟩ := (HNs.out.nd i hi).es
    exact old _ (HAv.out i hi) ⟨_, _, _, _, _, o.own⟩
  · exact old _ HAy.out ⟨_, _, _, _, _, HEn1.out.own⟩)
 have HBw2 := hid hB2
 have HPos := hid hposs
 try simp only [hp8]
 try simp only [hp6]
 try simp only [hp5]
 clear hp8 hp6 hp5 q5 q6 q7 hB2 hposs hA' old HTw HRw HBA HR8 HZ8
 obtain ⟨Ra, hRa, hRc⟩ : ∃ Rq, Reads w ax nz Z0 ∧ Rq = (ax = none → cx = 0) := by
  obtain ⟨bq, oq⟩ := HE.out.own
  rw [HNz.out] at oq
  obtain ⟨a', c', e', r, _⟩ := Reads.own oq HE.out.bd
  cases e'
  exact ⟨_, r, rfl⟩
 have HRq := hid hRa
 clear hRa hRc Ra
 have f1 : W2.cell? ⟨p8, 1, none⟩ = some (.slice ae n ce) := qC HS2.out.r8
 have e0 : W2.cell? ⟨p5, 0, none⟩ = some (.int .i64 K0) := qC HS2.out.r5
 have e1 : W2.cell? ⟨p5, 1, none⟩ = some (.int .i64 N0) := qC HS2.out.r5
 have e2 : W2.cell? ⟨p5, 2, none⟩ = some (.float .f64 F0) := qC HS2.out.r5
 have e3 : W2.cell? ⟨p5, 3, none⟩ = some (.slice ax nz cx) := qC HS2.out.r5
 have e4 : W2.cell? ⟨p5, 4, none⟩ = some (.int .i64 i0) := qC HS2.out.r5
 go_wp2_with fail
 clear e0 e1 e2 e3 e4 f1
 refine (spec_l11ups ce K0 N0 F0 cx i0 (HEn1.out.rd.below HBw2.out qN) HNn.out (by have := HSm.out.1; have := HNn.out; omega) HM.out (HRq.out.below HBw2.out qN) ⟨HNz.out, HF.out.1, HF.out.2⟩).mono ?_
 rintro r v1 ⟨rfl, b1⟩
 have HB1 := hid (HBw2.out.trans (b1.mono HBw2.out.size))
 have HS3 := hid (HS2.out.below b1)
 have hule := upsB_le d.es ⟨K0, N0, F0, Z0, i0⟩
 rw [HNn.out] at hule
 obtain ⟨up, hup⟩ : ∃ up, upsB d.es ⟨K0, N0, F0, Z0, i0⟩ = up := ⟨_, rfl⟩
 rw [hup] at hule
 simp only [hup]
 have HUp := hid hup
 clear b1 HS2 HBw2 hup
 have f0 : v1.cell? ⟨p8, 0, none⟩ = some (.bool false) := by rw [cell_of_row _ _ _ _ _ _ HS3.out.r8]; exact congrArg (fun q => some (Value.bool q)) HLf.out
 obtain ⟨fk1, fk2, fk3⟩ := form_kids HFo.out HLf.out
 have hle4 := HSm.out
 rw [HNn.out, HNm.out] at fk3
 rw [HNn.out] at fk1 fk2
 have hum : (up : Int) < (m : Int) := by omega
 have hup0 : (0 : Int) ≤ (up : Int) := by omega
 have HFk := hid (And.intro fk1 (And.intro fk2 (And.intro fk3 hule)))
 have HUk := hid (show d.ks.getD up 0 = (kn : Int) by have h := hkid; rw [HD.out] at h; rw [HUp.out] at h; exact h)
 have HIH := hid hIH
 have HSame := hid hsame
 have HLen := hid hlen
 have HUpp := hid hup
 clear hkid hIH hsame hlen hup
 obtain ⟨gk, rfl⟩ : ∃ gk, ak = some ⟨gk, 0, none⟩ := by
  obtain ⟨bk, ok⟩ := HIn1.out.own
  rcases ok.2 with ⟨e, h0⟩ | ⟨g, cp, cu, e, _⟩
  · have := HNm.out; have := HFk.out; omega
  · exact ⟨g, (Value.slice.inj e).1⟩
 have HSk := hid (show ∀ G' N' c' ds' ys' W, DS A' w b pT G0 p5 p6 p8 #[.int .i64 K0, .int .i64 N0, .float .f64 F0, .slice ax nz cx, .int .i64 i0] #[.int .i64 0, .int .i64 0, .float .f64 0, .slice none 0 0, .int .i64 0] root G' N' c' (ds') (ys') (.slice ae n ce, .slice (some ⟨gk, 0, none⟩) m ck) d W → (fun W => W.cell? ⟨p8, 2, none⟩ = some (.slice (some ⟨gk, 0, none⟩) m ck) ∧ W.cell? ⟨gk, up, none⟩ = some (.int .i64 (kn : Int)) ∧ W.cell? ⟨p5, 0, none⟩ = some (.int .i64 K0) ∧ W.cell? ⟨p5, 1, none⟩ = some (.int .i64 N0) ∧ W.cell? ⟨p5, 2, none⟩ = some (.float .f64 F0) ∧ W.cell? ⟨p5, 3, none⟩ = some (.slice ax nz cx) ∧ W.cell? ⟨p5, 4, none⟩ = some (.int .i64 i0)) W from fun G' N' c' ds' ys' W h => by
  obtain ⟨bk, ok⟩ := h.nd.ks.own
  dsimp only at ok
  rw [HNm.out] at ok
  have hc := ok.cellAt up (by have := HFk.out; omega)
  rw [show (ins d.ks)[up]? = some (.int .i64 (d.ks.getD up 0)) by
   have hj2 : up < d.ks.length := by have := HNm.out; have := HFk.out; omega
   simp [ins, List.getD, hj2], HUk.out] at hc
  exact ⟨qC h.r8, hc, qC h.r5, qC h.r5, qC h.r5, qC h.r5, qC h.r5⟩)
 have HNd3 := HNd1
 clear fk1 fk2 fk3 hule hle4
 clear HEn1 HIn1 HNd1 HAy HM
 go_upto_region 13 with fail
 clear f0
 go_cut [11, 12] (fun s11 s12 wx => ∃ (p11 : Nat) (q : En) (a9 : Option Addr) (z9 c9 : Nat) (kk : Int) (G' c' : Nat) (ys' : List (Value × Value)), s11 = .pointer (some ⟨p11, 0, none⟩) ∧ s12 = .int .i64 kk ∧ Hid (wx.heap[p11]? = some (.cells #[.int .i64 q.K, .int .i64 q.N, .float .f64 q.F, .slice a9 z9 c9, .int .i64 q.id] 48)) ∧ Hid ((r0.2 = none ∧ kk = -1) ∨ (r0.2 = some (q, kk) ∧ TxR wx (.slice a9 z9 c9) q.Z ∧ q.F < 18446744073709551616)) ∧ Hid (p8 < p11) ∧ Hid (DS A' w b pT G0 p5 p6 p8 #[.int .i64 K0, .int .i64 N0, .float .f64 F0, .slice ax nz cx, .int .i64 i0] #[.int .i64 0, .int .i64 0, .float .f64 0, .slice none 0 0, .int .i64 0] root G' r0.1.length c' (r0.1) (ys') (.slice ae n ce, .slice (some ⟨gk, 0, none⟩) m ck) d wx))
 case first =>
  as_aux_lemma =>
  have HBd := hid ((Still.drew v1).below v1.heap.size)
  have HSd := hid (HS3.out.below HBd.out)
  have HTx := hid (HE.out.kn (KN.below (HB1.out.trans (HBd.out.mono HB1.out.size))))
  have HPd := hid HS3.out.pos
  refine region_K 99 (fun W => W.cell? ⟨p8, 2, none⟩ = some (.slice (some ⟨gk, 0, none⟩) m ck) ∧ W.cell? ⟨gk, up, none⟩ = some (.int .i64 (kn : Int)) ∧ W.cell? ⟨p5, 0, none⟩ = some (.int .i64 K0) ∧ W.cell? ⟨p5, 1, none⟩ = some (.int .i64 N0) ∧ W.cell? ⟨p5, 2, none⟩ = some (.float .f64 F0) ∧ W.cell? ⟨p5, 3, none⟩ = some (.slice ax nz cx) ∧ W.cell? ⟨p5, 4, none⟩ = some (.int .i64 i0)) (by kernel_rfl) (HSk.out _ _ _ _ _ _ HSd.out) (fun hh => ?_)
  generalize v1.drew = vd at *
  refine qT 0 rfl hh 85 rfl ?_
  refine qT 1 rfl hh 86 rfl ?_
  refine qT 2 rfl hh 87 rfl ?_
  refine qT 3 rfl hh 88 rfl ?_
  refine qT 4 rfl hh 89 rfl ?_
  refine qT 5 rfl hh 90 rfl ?_
  refine qT 6 rfl hh 91 rfl ?_
  refine anyK_two (i := 7) (j := 11) (by kernel_rfl) rfl rfl (fun KP hK => ?_) (fun KP hK => ?_)
  · go_simp
    have hih := HIH.out.ok (A := A') (G0 := G0) (N := N) (c := c) (ys := ys) (ax := ax) (cx := cx) HSd.out.tr HL.out HSd.out.nsr (by have := HSd.out.pos; omega) (by dsimp only; rw [HNz.out]; exact HTx.out) (fun g h => by have := HAl.out g h; have := HSd.out.pos; omega) HSd.out.av
    dsimp only at hih
    rw [HNz.out] at hih
    refine hih.mono ?_
    clear hih
    rintro e v4 hd
    obtain ⟨G', c', ys', hs4, hav4⟩ := HSd.out.call hd (fun _ h => h)
    obtain ⟨q, a9, z9, c9, kk, rfl, han⟩ := hd.ans
    have HS4 := hid hs4
    have HAn := hid han
    clear hd hs4 hav4 han hh
    have hstq := fun w a m => run_store Tryz.prog w a (.float .f64 q.F) m rfl
    go_wp2_with fail
    refine hK.out _ _ (HSk.out _ _ _ _ _ _ HS4.out) (fun hh => ?_)
    clear hK KP
    try simp only [qP]
    refine qT 8 rfl hh 84 rfl ?_
    refine qT 9 rfl hh 93 rfl ?_
    refine qT 10 rfl hh 94 rfl ?_
    refine qS 11 rfl fun KP hK => ?_
    go_simp
    have HBA := hid (Below.alloc1 v4 (.cells #[.int .i64 0, .int .i64 0, .float .f64 0, .slice none 0 0, .int .i64 0] 48))
    have HR5 := hid (heap_alloc_new v4 (.cells #[.int .i64 0, .int .i64 0, .float .f64 0, .slice none 0 0, .int .i64 0] 48))
    have HS5 := hid (HS4.out.below HBA.out)
    have HAn5 := hid (show (r0.2 = none ∧ kk = -1) ∨ (r0.2 = some (q, kk) ∧ TxR (v4.alloc (.cells #[.int .i64 0, .int .i64 0, .float .f64 0, .slice none 0 0, .int .i64 0] 48)) (.slice a9 z9 c9) q.Z ∧ q.F < 18446744073709551616) from by
     rcases HAn.out with h | ⟨h1, h2, h3⟩
     · exact .inl h
     · exact .inr ⟨h1, h2.kn (KN.below HBA.out), h3⟩)
    have HFr := hid (HS4.out.fresh qN)
    have HP11 := hid HS4.out.pos.2.2.2.1
    have HF2 := hid HFr.out.1
    have HF3 := hid HFr.out.2
    clear hh
    refine hK.out _ _ (HSk.out _ _ _ _ _ _ HS5.out) (fun hh => ?_)
    clear hK KP
    try simp only [qP]
    generalize v4.alloc (.cells #[.int .i64 0, .int .i64 0, .float .f64 0, .slice none 0 0, .int .i64 0] 48) = v5 at *
    generalize v4.heap.size = p11 at *
    have hHH := HSk.out _ _ _ _ _ _ (HS5.out.box HR5.out HP11.out HF2.out HF3.out #[.int .i64 q.K, .int .i64 q.N, .float .f64 q.F, .slice a9 z9 c9, .int .i64 q.id])
    have HS6 := hid (HS5.out.box HR5.out HP11.out HF2.out HF3.out #[.int .i64 q.K, .int .i64 q.N, .float .f64 q.F, .slice a9 z9 c9, .int .i64 q.id])
    have HR11 := hid (show (v5.setRow p11 #[.int .i64 q.K, .int .i64 q.N, .float .f64 q.F, .slice a9 z9 c9, .int .i64 q.id]).heap[p11]? = some (.cells #[.int .i64 q.K, .int .i64 q.N, .float .f64 q.F, .slice a9 z9 c9, .int .i64 q.id] 48) from setRow_heap _ _ _ _ _ _ HR5.out)
    have HAn6 := hid (show (r0.2 = none ∧ kk = -1) ∨ (r0.2 = some (q, kk) ∧ TxR (v5.setRow p11 #[.int .i64 q.K, .int .i64 q.N, .float .f64 q.F, .slice a9 z9 c9, .int .i64 q.id]) (.slice a9 z9 c9) q.Z ∧ q.F < 18446744073709551616) from by
     rcases HAn5.out with h | ⟨h1, h2, h3⟩
     · exact .inl h
     · exact .inr ⟨h1, h2.box HR5.out (by decide) (row_grown11 v5 p11 #[.int .i64 q.K, .int .i64 q.N, .float .f64 q.F, .slice a9 z9 c9, .int .i64 q.id]), h3⟩)
    refine qS 12 rfl fun KP hK => ?_
    refine wp_store_row 48 (.tmp 11) (.tmp 93) rfl p11 #[.int .i64 q.K, .int .i64 q.N, .float .f64 q.F, .slice a9 z9 c9, .int .i64 q.id] rfl rfl 48 _ HR5.out size_en11 rfl (by simp [Value.oneCell']) ?_
    clear hh
    refine hK.out _ _ hHH (fun hh => ?_)
    clear hK KP hHH
    try simp only [qP]
    refine qT 13 rfl hh 12 rfl ?_
    refine anyK_done (by kernel_rfl) ?_ _
    clear hh
    go_wp2_with fail
    go_meet
    exact ⟨p11, q, a9, z9, c9, kk, G', c', ys', rfl, rfl, HR11, HAn6, HP11, HS6⟩
  · go_simp
    have HBA := hid (Below.alloc1 vd (.cells #[.int .i64 0, .int .i64 0, .float .f64 0, .slice none 0 0, .int .i64 0] 48))
    have HR1 := hid (heap_alloc_new vd (.cells #[.int .i64 0, .int .i64 0, .float .f64 0, .slice none 0 0, .int .i64 0] 48))
    have HZ1 := hid (alloc_size vd (.cells #[.int .i64 0, .int .i64 0, .float .f64 0, .slice none 0 0, .int .i64 0] 48))
    have HSa := hid (HSd.out.below HBA.out)
    have HFr := hid (HSd.out.fresh qN)
    have HP11 := hid HSd.out.pos.2.2.2.1
    have HTx := hid (HTx.out.kn (KN.below HBA.out))
    clear hh
    refine hK.out _ _ (HSk.out _ _ _ _ _ _ HSa.out) (fun hh => ?_)
    clear hK KP
    try simp only [qP]
    generalize vd.alloc (.cells #[.int .i64 0, .int .i64 0, .float .f64 0, .slice none 0 0, .int .i64 0] 48) = va at *
    generalize vd.heap.size = p11 at *
    refine qS 7 rfl fun KP hK => ?_
    go_simp
    have hih := HIH.out.ok (A := fun g => A' g ∨ g = p11) (G0 := G0) (N := N) (c := c) (ys := ys) (ax := ax) (cx := cx) HSa.out.tr HL.out HSa.out.nsr (by have := HSa.out.pos; omega) (by dsimp only; rw [HNz.out]; exact HTx.out) (fun g h => by rcases h with h | h; (have := HAl.out g h; have := HSa.out.pos; omega); (have := HZ1.out; omega)) (fun i hi g e h => by rcases h with h | h; exact HSa.out.av i hi g e h; exact HFr.out.1 i hi g e h)
    dsimp only at hih
    rw [HNz.out] at hih
    refine hih.mono ?_
    clear hih
    rintro e v4 hd
    obtain ⟨G', c', ys', hs4, hav4⟩ := HSa.out.call hd (fun _ h => .inl h)
    obtain ⟨q, a9, z9, c9, kk, rfl, han⟩ := hd.ans
    have HS5 := hid hs4
    have HAn5 := hid han
    have HR5 := hid ((hd.kp.block p11 (by have := HZ1.out; omega) (fun q => by have := HSa.out.pos; have := HP11.out; have := HPd.out; rcases q with q | q; omega; (have hg := HSd.out.gne; obtain ⟨cs, fz, eG⟩ := HSa.out.gty; subst q; rw [HR1.out] at eG; simp only [Option.some.injEq, Obj.cells.injEq] at eG; exact absurd eG.2.1 (by decide)))).trans HR1.out)
    have HF2 := hid (show ShunsD (fun g => g = p11) ys' r0.1.length from fun i hi g e h => hav4 i hi g e (.inr h))
    have HF3 := hid HFr.out.2
    clear hd hs4 hav4 han hh
    have hstq := fun w a m => run_store Tryz.prog w a (.float .f64 q.F) m rfl
    go_wp2_with fail
    refine hK.out _ _ (HSk.out _ _ _ _ _ _ HS5.out) (fun hh => ?_)
    clear hK KP
    try simp only [qP]
    refine qT 8 rfl hh 84 rfl ?_
    refine qT 9 rfl hh 93 rfl ?_
    refine qT 10 rfl hh 94 rfl ?_
    have hHH := HSk.out _ _ _ _ _ _ (HS5.out.box HR5.out HP11.out HF2.out HF3.out #[.int .i64 q.K, .int .i64 q.N, .float .f64 q.F, .slice a9 z9 c9, .int .i64 q.id])
    have HS6 := hid (HS5.out.box HR5.out HP11.out HF2.out HF3.out #[.int .i64 q.K, .int .i64 q.N, .float .f64 q.F, .slice a9 z9 c9, .int .i64 q.id])
    have HR11 := hid (show (v4.setRow p11 #[.int .i64 q.K, .int .i64 q.N, .float .f64 q.F, .slice a9 z9 c9, .int .i64 q.id]).heap[p11]? = some (.cells #[.int .i64 q.K, .int .i64 q.N, .float .f64 q.F, .slice a9 z9 c9, .int .i64 q.id] 48) from setRow_heap _ _ _ _ _ _ HR5.out)
    have HAn6 := hid (show (r0.2 = none ∧ kk = -1) ∨ (r0.2 = some (q, kk) ∧ TxR (v4.setRow p11 #[.int .i64 q.K, .int .i64 q.N, .float .f64 q.F, .slice a9 z9 c9, .int .i64 q.id]) (.slice a9 z9 c9) q.Z ∧ q.F < 18446744073709551616) from by
     rcases HAn5.out with h | ⟨h1, h2, h3⟩
     · exact .inl h
     · exact .inr ⟨h1, h2.box HR5.out (by decide) (row_grown11 v4 p11 #[.int .i64 q.K, .int .i64 q.N, .float .f64 q.F, .slice a9 z9 c9, .int .i64 q.id]), h3⟩)
    refine qS 12 rfl fun KP hK => ?_
    refine wp_store_row 48 (.tmp 11) (.tmp 93) rfl p11 #[.int .i64 q.K, .int .i64 q.N, .float .f64 q.F, .slice a9 z9 c9, .int .i64 q.id] rfl rfl 48 _ HR5.out size_en11 rfl (by simp [Value.oneCell']) ?_
    clear hh
    refine hK.out _ _ hHH (fun hh => ?_)
    clear hK KP hHH
    try simp only [qP]
    refine qT 13 rfl hh 12 rfl ?_
    refine anyK_done (by kernel_rfl) ?_ _
    clear hh
    go_wp2_with fail
    go_meet
    exact ⟨p11, q, a9, z9, c9, kk, G', c', ys', rfl, rfl, HR11, HAn6, HP11, HS6⟩
 case rest =>
  obtain ⟨p11, q, a9, z9, c9, kk, G', c', ys', rfl, rfl, HR11, HAn, HP11, HS6⟩ := hcut
  rcases HAn.out with ⟨h1, h2⟩ | ⟨h1, h2, h3⟩
  · subst h2
    have HC6 := HS6.out.r6
    have hkk : (-1 : Int) < 0 := by omega
    have HRn := hid h1
    clear h1
    go_wp2_with (refine wpList_store_row rfl 48 (.tmp 6) _ rfl p6 #[.int .i64 0, .int .i64 0, .float .f64 0, .slice none 0 0, .int .i64 0] rfl rfl 48 _ HC6 size_en11 rfl (by simp [Value.oneCell']) ?_)
    refine bodyPost_ret (results_cell_tmp11 Tryz.results23 _ _ p6 48 #[.int .i64 0, .int .i64 0, .float .f64 0, .slice none 0 0, .int .i64 0] (0, 0) _ rfl (setRow_heap _ _ _ _ _ _ HC6) Tryz.underlying48 rfl size_en11) rfl ?_
    rw [← HRes.out, show restS ds x ⟨K0, N0, F0, Z0, i0⟩ r0 = (r0.1, none) by rw [show r0 = (r0.1, none) from Prod.ext rfl HRn.out]; rfl]
    exact HS6.out.down HA6.out HAw.out _ (fun _ => rfl) (fun up k h => by cases h)
  · obtain ⟨hq1, hq2, hq3⟩ := HUpp.out q kk h1
    have HQr := hid h1
    have HTq := hid h2
    have HQf := hid (show q.F < 18446744073709551616 ∧ q.Z.length ≤ 2097152 from ⟨h3, hq1⟩)
    have HKk := hid (And.intro hq2 hq3)
    have hkk : ¬ kk < 0 := by omega
    have hN1 := HLen.out
    obtain ⟨N1, hN1e⟩ : ∃ N1, r0.1.length = N1 := ⟨_, rfl⟩
    have HN1e := hid hN1e
    have hs6 := HS6.out
    rw [hN1e] at hs6 hN1
    have hx1 : x < N1 := by have := HXd.out; omega
    have hx1' : (x : Int) < (N1 : Int) := by omega
    have hx0 : (0 : Int) ≤ (x : Int) := by omega
    have HNb := hid (show N1 ≤ 700 from hN1.2)
    have hs7 := hs6.again (x := x) hx1
    rw [HSame.out, HD.out, HLf.out] at hs7
    have hown := hs6.nsr.own
    rw [hs6.len] at hown
    have hcell := fun j (hj : j < 3) => (hown.cellAt (x * 3 + j) (by omega)).trans (cellsD_at r0.1 ys' x j hs6.nsr.len (by rw [hs6.len]; exact hx1) hj)
    rw [HSame.out, HD.out] at hcell
    obtain ⟨y9, hy9⟩ : ∃ y9, ys'.getD x nilP = y9 := ⟨_, rfl⟩
    rw [hy9] at hs7 hcell
    obtain ⟨ya, yb⟩ := y9
    dsimp only at hs7
    obtain ⟨b1, xs1, hen7⟩ := hs7.nd.es
    obtain ⟨b2, hok7⟩ := hs7.nd.ks.own
    dsimp only at hen7 hok7
    obtain ⟨a2, c2, rfl⟩ := own_sl hen7.own
    obtain ⟨k2, ck2, rfl⟩ := own_sl hok7
    have d0 := hcell 0 (by omega)
    have d1 := hcell 1 (by omega)
    have d2 := hcell 2 (by omega)
    rw [Nat.add_zero] at d0
    rw [show (cellsD1 d (.slice a2 d.es.length c2, .slice k2 d.ks.length ck2))[0]? = some (.bool d.leaf) from rfl, HLf.out] at d0
    rw [show (cellsD1 d (.slice a2 d.es.length c2, .slice k2 d.ks.length ck2))[1]? = some (.slice a2 d.es.length c2) from rfl, HNn.out] at d1
    rw [show (cellsD1 d (.slice a2 d.es.length c2, .slice k2 d.ks.length ck2))[2]? = some (.slice k2 d.ks.length ck2) from rfl, HNm.out] at d2
    rw [HNn.out] at hs7 hen7
    rw [HNm.out] at hs7 hen7
    have HS7 := hid hs7
    have HEn7 := hid hen7
    have cT : wc.cell? ⟨pT, 0, none⟩ = some (.slice (some ⟨G', 0, none⟩) N1 c') := qC hs6.tr
    have R8 := hs6.r8
    have g8 := row_grown11 wc p8 #[.bool false, .slice a2 n c2, .slice k2 m ck2]
    have kn8 : KN wc (wc.setRow p8 #[.bool false, .slice a2 n c2, .slice k2 m ck2]) := KN.grown g8 (fun k q => by obtain rfl := Option.some.inj q; exact ⟨_, _, _, R8, .inl rfl⟩)
    have HTq7 := hid (HTq.out.kn kn8)
    have HR11 := hid (show (wc.setRow p8 #[.bool false, .slice a2 n c2, .slice k2 m ck2]).heap[p11]? = some (.cells #[.int .i64 q.K, .int .i64 q.N, .float .f64 q.F, .slice a9 z9 c9, .int .i64 q.id] 48) from (g8.block p11 (qL HR11.out) (fun q => by have := HP11.out; have := Option.some.inj q; omega)).trans HR11.out)
    clear h1 h2 h3 hq1 hq2 hq3 hN1 hN1e hs6 hs7 hen7 hok7 hown hcell hy9 g8 kn8 HS6
    go_upto_region 17 with (refine wpList_store_row rfl 61 (.tmp 8) _ rfl p8 #[.bool false, .slice a2 n c2, .slice k2 m ck2] rfl rfl 61 _ R8 size_nd11 rfl (by simp [Value.oneCell']) ?_)
    clear cT d0 d1 d2 R8
    generalize wc.setRow p8 #[.bool false, .slice a2 n c2, .slice k2 m ck2] = v7 at *
    have f1 : v7.cell? ⟨p8, 1, none⟩ = some (.slice a2 n c2) := qC HS7.out.r8
    have e0 : v7.cell? ⟨p11, 0, none⟩ = some (.int .i64 q.K) := qC HR11.out
    have e1 : v7.cell? ⟨p11, 1, none⟩ = some (.int .i64 q.N) := qC HR11.out
    have e2 : v7.cell? ⟨p11, 2, none⟩ = some (.float .f64 q.F) := qC HR11.out
    have e3 : v7.cell? ⟨p11, 3, none⟩ = some (.slice a9 z9 c9) := qC HR11.out
    have e4 : v7.cell? ⟨p11, 4, none⟩ = some (.int .i64 q.id) := qC HR11.out
    have hstq := fun w a m => run_store Tryz.prog w a (.float .f64 q.F) m rfl
    go_wp2_with fail
    clear e0 e1 e2 e3 e4 f1
    obtain ⟨hpt, hcc, hao, _⟩ := HEn7.out.pt
    have hule := HFk.out.2.2.2
    refine (spec_l11put (e := q) hpt hao (by rw [HEn7.out.len]) HNn.out (by have := HFk.out; omega) hule hcc HEn7.out.ones (by
     intro u hu
     simp only [cellsE1, List.mem_cons, List.not_mem_nil, or_false] at hu
     rcases hu with rfl | rfl | rfl | rfl | rfl
     · rfl
     · rfl
     · rfl
     · exact HTq7.out.one
     · rfl)).mono ?_
    rintro r v8 ⟨a', c1, rfl, o2, b2⟩
    obtain ⟨n1, hn1⟩ : ∃ n1, n + 1 = n1 := ⟨_, rfl⟩
    obtain ⟨ES, hES⟩ : ∃ ES, putL d.es up q = ES := ⟨_, rfl⟩
    have HEl := hid (show ES.length = n1 by rw [← hES, putL_len, HNn.out]; exact hn1)
    have hn5 : n1 ≤ 5 := by have := HFk.out; omega
    have HS8 := hid (HS7.out.below b2)
    have hs1 := HPos.out
    have hs1b : p8 < v7.heap.size := HS7.out.pos.2.2.2.1
    have HSh := hid (Shuns.own o2 (fun g h => by have := HAl.out g h; omega))
    have hen2 : EnR v8 v7.heap.size (.slice a' (n + 1) c1) (putL d.es up q) (putL xs1 up (.slice a9 z9 c9)) := HEn7.out.put (e := q) HTq7.out HQf.out.1 (by rw [HNn.out]; exact hule) (by rw [HNn.out]; exact o2) b2
    rw [hn1, hES] at hen2
    simp only [hn1] at HSh ⊢
    have HEn2 := hid hen2
    have hs5 := HS8.out.es ⟨_, _, hen2⟩ HSh.out
    rw [HLf.out] at hs5
    have HS9 := hid hs5
    have HMe := hid (show ∀ j, (ES.getD j en0).Z.length ≤ 2097152 from fun j => by
     rw [← hES, getD_put _ _ _ _ (by rw [HNn.out]; exact hule)]
     have hmx : ∀ j, (d.es.getD j en0).Z.length ≤ 2097152 := fun j => by have := HMa.out x j; rw [HD.out] at this; exact this
     split
     · exact hmx j
     · split
       · exact HQf.out.2
       · exact hmx (j - 1))
    have HEs := hid hES
    have HNn1 := hid hn1
    have f1 : v8.cell? ⟨p8, 1, none⟩ = some (.slice a2 n c2) := qC HS8.out.r8
    have g1 : v8.frozen? ⟨p8, 1, none⟩ = false := frozen_of_row _ _ 1 _ _ HS8.out.r8
    clear hpt hcc hao o2 b2 hs1 hs1b hen2 hs5 hn1 hES hule HTq
    go_upto_region 18 with fail
    clear f1 g1
    have HEn3 := hid (HEn2.out.kn (KN.set (p := ⟨p8, 1, none⟩) HS8.out.r8 (.inl rfl) (.slice a' n1 c1)))
    clear HEn2 HS8 HEn7 HS7 HR11 HTq7
    generalize v8.setCell ⟨p8, 1, none⟩ (.slice a' n1 c1) = v9 at *
    obtain ⟨gk2, ek2, hpk, hck, _⟩ := (show InR v9 (.slice k2 m ck2) d.ks from HS9.out.nd.ks).pt (by have := HFk.out; omega)
    subst ek2
    obtain ⟨u1, hu1⟩ : ∃ u1, up + 1 = u1 := ⟨_, rfl⟩
    have HU1 := hid hu1
    have hum1 : u1 ≤ m := by have := HFk.out; omega
    have hm6 : m ≤ 5 := by have := HFk.out; omega
    have hwu : IntKind.i64.wrap ((up : Int) + 1) = (u1 : Int) := by
     rw [show (up : Int) + 1 = (u1 : Int) by omega]; simp [IntKind.wrap, IntKind.bits, IntKind.signed]; omega
    obtain ⟨hck1, hck2⟩ := hck
    unfold maxLen at hck2
    have hkc : (u1 : Int) ≤ (ck2 : Int) := by omega
    have hkn : (u1 : Int) ≤ (m : Int) := by omega
    have h0u : (0 : Int) ≤ (u1 : Int) := by omega
    rw [ins_split d.ks u1] at hpk
    obtain ⟨hA, hB⟩ := hpk.split (k := u1) (c1 := ck2) (c2 := ck2 - u1) (by rw [ins_length, List.length_take, HNm.out]; omega)
    obtain ⟨L1, hL1⟩ : ∃ L, ins (d.ks.take u1) = L := ⟨_, rfl⟩
    obtain ⟨L3, hL3⟩ : ∃ L, ins (d.ks.drop u1) = L := ⟨_, rfl⟩
    have HL1 := hid (show ∀ u ∈ L1, u.oneCell' = true from hL1 ▸ ins_ones _)
    have HL3 := hid (show ∀ u ∈ L3, u.oneCell' = true from hL3 ▸ ins_ones _)
    have HPut := hid (show L1 ++ [.int .i64 kk] ++ L3 = ins (putL d.ks u1 kk) by rw [← hL1, ← hL3]; exact ins_put _ _ _)
    rw [hL1] at hA
    rw [hL3] at hB
    have HP1 := hid hA
    obtain ⟨a3, ha3, hB3⟩ : ∃ a3, (if ck2 = u1 then some (⟨gk2, 0, none⟩ : Addr) else some ⟨gk2, u1, none⟩) = a3 ∧ Pt v9 1 a3 (m - u1) (ck2 - u1) L3 := by
     by_cases ec : ck2 = u1
     · rw [if_pos ec]
       obtain ⟨b1, b2, b3⟩ := hB
       refine ⟨_, rfl, b1, .inr ⟨_, rfl, fun j u hu => ?_⟩, fun q => by cases q⟩
       have := (List.getElem?_eq_some_iff.1 hu).1
       rw [b1] at this
       omega
     · rw [if_neg ec]
       exact ⟨_, rfl, by simpa using hB⟩
    have HA3 := hid ha3
    have HPB := hid hB3
    have HBk := hid (show ∀ i, -9223372036854775808 ≤ d.ks.getD i 0 ∧ d.ks.getD i 0 ≤ 9223372036854775807 from HS9.out.nd.ks.bd)
    clear hpk hA hB ha3 hB3 hL1 hL3 hu1
    obtain ⟨i1, hi1, hy0, hy1, hy2⟩ := info_parts Tryz.infoI
    have f2 : v9.cell? ⟨p8, 2, none⟩ = some (.slice (some ⟨gk2, 0, none⟩) m ck2) := qC HS9.out.r8
    go_upto_region 19 with fail
    go_wp2_with (at_builtin; refine wpList_append_row rfl _ _ 59 rfl v9.heap.size 3 i1 (.int .i64 0) 1 8 Tryz.underlying59 hi1 hy0 hy1 hy2 rfl (by decide) _ 0 [] rfl (World.ownsRow_nil _ _ _ _) (some ⟨gk2, 0, none⟩) u1 ck2 L1 rfl HP1.out.1 HP1.out.2.1 HP1.out.2.2 HL1.out (by unfold maxLen; omega) (by omega) ?q1 ?_)
    intro a1 c5 w1 o1 g1
    have HOw1 := hid (show w1.ownsRow v9.heap.size 3 1 (.slice a1 u1 c5) u1 L1 by simpa using o1)
    have HB1c := hid ((Below.refl v9.heap.size v9).grown g1 qN (fun k hk => by cases hk))
    clear o1 g1 f2
    have HBA := hid (Below.alloc1 w1 (.cells #[.int .i64 kk] 3))
    have HN1 := hid (heap_alloc_new w1 (.cells #[.int .i64 kk] 3))
    have HZ1 := hid (alloc_size w1 (.cells #[.int .i64 kk] 3))
    have HOw2 := hid (HOw1.out.alloc (.cells #[.int .i64 kk] 3))
    have HM := hid (show Pt (w1.alloc (.cells #[.int .i64 kk] 3)) 1 (some ⟨w1.heap.size, 0, none⟩) 1 1 [.int .i64 kk] from ⟨rfl, .inr ⟨_, rfl, fun j u hu => by
     rw [Addr.add_lit, Nat.zero_add, cell_of_row _ _ _ _ _ _ HN1.out]
     rw [← hu]
     simp⟩, fun q => by cases q⟩)
    have HOk := hid (show ∀ u ∈ [Value.int .i64 kk], u.oneCell' = true from fun u hu => by obtain rfl := List.mem_singleton.1 hu; rfl)
    have HBs := hid (show v9.heap.size ≤ (w1.alloc (.cells #[.int .i64 kk] 3)).heap.size from Nat.le_trans HB1c.out.size HBA.out.size)
    go_wp2_with (at_builtin; refine wpList_append_row rfl _ _ 59 rfl v9.heap.size 3 i1 (.int .i64 0) 1 8 Tryz.underlying59 hi1 hy0 hy1 hy2 rfl (by decide) _ u1 L1 rfl HOw2.out (some ⟨w1.heap.size, 0, none⟩) 1 1 [.int .i64 kk] rfl HM.out.1 HM.out.2.1 HM.out.2.2 HOk.out (by unfold maxLen; omega) (by omega) HBs.out ?_)
    intro a2 c6 w2 o2 g2
    have HOw3 := hid o2
    have HB1' := hid (HB1c.out.trans (HBA.out.mono HB1c.out.size))
    have HB2c := hid (HB1'.out.grown g2 HB1'.out.size (fun k hk => (HOw1.out.lt k hk).1))
    clear o2 g2
    have HS10 := hid (HS9.out.below HB2c.out)
    have HP3 := hid (HPB.out.below HB2c.out)
    have f2 : w2.cell? ⟨p8, 2, none⟩ = some (.slice (some ⟨gk2, 0, none⟩) m ck2) := qC HS10.out.r8
    obtain ⟨m1, hm1⟩ : ∃ m1, m + 1 = m1 := ⟨_, rfl⟩
    go_upto_region 21 with fail
    go_cut [13] (fun s13 wx => ∃ (a4 : Option Addr) (c4 : Nat), s13 = .slice a4 m1 c4 ∧ Hid (wx.ownsRow v9.heap.size 3 1 (.slice a4 m1 c4) m1 (ins (putL d.ks u1 kk))) ∧ Hid (Below v9.heap.size v9 wx))
    case first =>
     by_cases ec : ck2 = u1
     · have HP4 := hid (show Pt w2 1 (some ⟨gk2, 0, none⟩) (m - u1) 0 L3 from by
        have h := HP3.out
        have h2 := HA3.out
        rw [if_pos ec] at h2
        rw [← h2] at h
        exact ⟨h.1, by rcases h.2.1 with ⟨q, _⟩ | q; cases q; exact .inr q, h.2.2⟩)
       go_wp2_with (at_builtin; refine wpList_append_row rfl _ _ 59 rfl v9.heap.size 3 i1 (.int .i64 0) 1 8 Tryz.underlying59 hi1 hy0 hy1 hy2 rfl (by decide) _ (u1 + 1) (L1 ++ [.int .i64 kk]) rfl (by exact HOw3.out) (some ⟨gk2, 0, none⟩) (m - u1) 0 L3 rfl HP4.out.1 HP4.out.2.1 HP4.out.2.2 HL3.out (by unfold maxLen; omega) (by omega) HB2c.out.size ?_)
       intro a4 c4 w3 o4 g4
       have ez : u1 + 1 + (m - u1) = m1 := by omega
       rw [ez] at o4
       try rw [ez]
       have HO4 := hid (show w3.ownsRow v9.heap.size 3 1 (.slice a4 m1 c4) m1 (ins (putL d.ks u1 kk)) from by
        rw [← HPut.out]
        simpa using o4)
       have HB4c := hid (HB2c.out.grown g4 HB2c.out.size (fun k hk => (HOw3.out.lt k hk).1))
       clear o4 g4 ez
       go_wp2_with fail
       go_meet
       exact ⟨a4, c4, rfl, HO4, HB4c⟩
     · have HP4 := hid (show Pt w2 1 (some ⟨gk2, u1, none⟩) (m - u1) (ck2 - u1) L3 from by
        have h := HP3.out
        have h2 := HA3.out
        rw [if_neg ec] at h2
        rw [← h2] at h
        exact h)
       go_wp2_with (at_builtin; refine wpList_append_row rfl _ _ 59 rfl v9.heap.size 3 i1 (.int .i64 0) 1 8 Tryz.underlying59 hi1 hy0 hy1 hy2 rfl (by decide) _ (u1 + 1) (L1 ++ [.int .i64 kk]) rfl (by exact HOw3.out) (some ⟨gk2, u1, none⟩) (m - u1) (ck2 - u1) L3 rfl HP4.out.1 HP4.out.2.1 HP4.out.2.2 HL3.out (by unfold maxLen; omega) (by omega) HB2c.out.size ?_)
       intro a4 c4 w3 o4 g4
       have ez : u1 + 1 + (m - u1) = m1 := by omega
       rw [ez] at o4
       try rw [ez]
       have HO4 := hid (show w3.ownsRow v9.heap.size 3 1 (.slice a4 m1 c4) m1 (ins (putL d.ks u1 kk)) from by
        rw [← HPut.out]
        simpa using o4)
       have HB4c := hid (HB2c.out.grown g4 HB2c.out.size (fun k hk => (HOw3.out.lt k hk).1))
       clear o4 g4 ez
       go_wp2_with fail
       go_meet
       exact ⟨a4, c4, rfl, HO4, HB4c⟩
    case rest =>
     obtain ⟨a4, c4, rfl, HO4, HB4c⟩ := hcut
     have HS11 := hid (HS9.out.below HB4c.out)
     have hkl : (putL d.ks u1 kk).length = m1 := by rw [putL_len, HNm.out]; exact hm1
     have HIn := hid (show InR wc (.slice a4 m1 c4) (putL d.ks u1 kk) from ⟨⟨v9.heap.size, by rw [hkl]; exact HO4.out⟩, fun i => by
      rw [getD_put _ _ _ _ (by rw [HNm.out]; exact hum1)]
      have hkk2 := HKk.out
      split
      · exact HBk.out i
      · split
        · omega
        · exact HBk.out (i - 1)⟩)
     have HS12 := hid (HS11.out.ks HIn.out)
     have f3 : wc.cell? ⟨p8, 2, none⟩ = some (.slice (some ⟨gk2, 0, none⟩) m ck2) := qC HS11.out.r8
     have g3 : wc.frozen? ⟨p8, 2, none⟩ = false := frozen_of_row _ _ 2 _ _ HS11.out.r8
     have HOw4 := hid (own_KN HO4.out ⟨by decide, by decide⟩ (KN.set (p := ⟨p8, 2, none⟩) HS11.out.r8 (.inl rfl) (.slice a4 m1 c4)))
     have HEn4 := hid ((HEn3.out.kn (KN.below HB4c.out)).kn (KN.set (p := ⟨p8, 2, none⟩) HS11.out.r8 (.inl rfl) (.slice a4 m1 c4)))
     have HKl := hid (And.intro hkl hm1)
     clear f2 hwu hkc hkn h0u HOw1 HOw2 HOw3 HM HOk HBs HB1c HB1' HBA HN1 HZ1 HP1 HP3 HPB hkl HEn3 HS9 HS10 hum hup0 hm1
     go_upto_region 23 with fail
     clear f3 g3 hck1 hck2 hi1 hy0 hy1 hy2 HS11 HO4 HA3
     generalize wc.setCell ⟨p8, 2, none⟩ (.slice a4 m1 c4) = v10 at *
     have HSd := hid (HS12.out.below ((Still.drew v10).below v10.heap.size))
     have hS0 : (fun W => W.cell? ⟨pT, 0, none⟩ = some (.slice (some ⟨G', 0, none⟩) N1 c') ∧ W.cell? ⟨p8, 0, none⟩ = some (.bool false) ∧ W.cell? ⟨p8, 1, none⟩ = some (.slice a' n1 c1) ∧ W.cell? ⟨p8, 2, none⟩ = some (.slice a4 m1 c4)) v10.drew := ⟨qC HSd.out.tr, by rw [cell_of_row _ _ _ _ _ _ HSd.out.r8]; first | rfl | exact congrArg (fun q => some (Value.bool q)) HLf.out, qC HSd.out.r8, qC HSd.out.r8⟩
     have hlt' : (x : Int) < (N1 : Int) := by exact hx1'
     have hk0 : (0 : Int) ≤ (x : Int) := by omega
     have HBd := hid ((Still.drew v10).below v10.heap.size)
     refine region_K 99 (fun W => W.cell? ⟨pT, 0, none⟩ = some (.slice (some ⟨G', 0, none⟩) N1 c') ∧ W.cell? ⟨p8, 0, none⟩ = some (.bool false) ∧ W.cell? ⟨p8, 1, none⟩ = some (.slice a' n1 c1) ∧ W.cell? ⟨p8, 2, none⟩ = some (.slice a4 m1 c4)) (by kernel_rfl) hS0 (fun hh => ?_)
     clear hS0
     generalize v10.drew = vd at *
     refine qT 0 rfl hh 131 rfl ?_
     refine qT 1 rfl hh 132 rfl ?_
     refine qT 2 rfl hh 133 rfl ?_
     refine qT 3 rfl hh 134 rfl ?_
     refine qT 4 rfl hh 135 rfl ?_
     refine qT 5 rfl hh 136 rfl ?_
     refine qT 6 rfl hh 137 rfl ?_
     have hown := HSd.out.nsr.own
     rw [HSd.out.len] at hown
     have hcy : ∀ q, q < 3 → ∃ v, vd.cell? ⟨G', x * 3 + q, none⟩ = some v := fun q hq => by
      rw [hown.cellAt (x * 3 + q) (by omega)]
      exact ⟨_, List.getElem?_eq_getElem (by have := hown.1; omega)⟩
     obtain ⟨u0, d0⟩ := hcy 0 (by omega)
     obtain ⟨u1', d1⟩ := hcy 1 (by omega)
     obtain ⟨u2, d2⟩ := hcy 2 (by omega)
     rw [Nat.add_zero] at d0
     have f0 := hown.frozenAt (x * 3)
     have f1 := hown.frozenAt (x * 3 + 1)
     have f2 := hown.frozenAt (x * 3 + 2)
     have HSp := hid (show DS A' w b pT G0 p5 p6 p8 #[.int .i64 K0, .int .i64 N0, .float .f64 F0, .slice ax nz cx, .int .i64 i0] #[.int .i64 0, .int .i64 0, .float .f64 0, .slice none 0 0, .int .i64 0] root G' N1 c' (r0.1.set x ⟨false, ES, putL d.ks u1 kk⟩) (ys'.set x (.slice a' n1 c1, .slice a4 m1 c4)) (.slice a' n1 c1, .slice a4 m1 c4) (⟨false, ES, putL d.ks u1 kk⟩) (set3 vd G' x false (.slice a' n1 c1, .slice a4 m1 c4)) from HSd.out.put (x := x) (by omega))
     have hS1 : (fun W => W.cell? ⟨pT, 0, none⟩ = some (.slice (some ⟨G', 0, none⟩) N1 c') ∧ W.cell? ⟨p8, 0, none⟩ = some (.bool false) ∧ W.cell? ⟨p8, 1, none⟩ = some (.slice a' n1 c1) ∧ W.cell? ⟨p8, 2, none⟩ = some (.slice a4 m1 c4)) (set3 vd G' x false (.slice a' n1 c1, .slice a4 m1 c4)) := ⟨qC HSp.out.tr, by rw [cell_of_row _ _ _ _ _ _ HSp.out.r8]; first | rfl | exact congrArg (fun q => some (Value.bool q)) HLf.out, qC HSp.out.r8, qC HSp.out.r8⟩
     have HKnv11 := hid (show KN v10 (set3 vd G' x false (.slice a' n1 c1, .slice a4 m1 c4)) from (KN.below HBd.out).trans ((set3_kept vd G' x false (.slice a' n1 c1, .slice a4 m1 c4)).mono (fun k _ q => by subst q; obtain ⟨cs, fz, e⟩ := HSd.out.gty; exact ⟨_, _, _, e, .inl rfl⟩)))
     have HKbv11 := hid (show ∀ k, k < v10.heap.size → k ≠ G' → (set3 vd G' x false (.slice a' n1 c1, .slice a4 m1 c4)).heap[k]? = v10.heap[k]? from fun k hk hne => (set3_heap vd G' x false (.slice a' n1 c1, .slice a4 m1 c4) hne).trans (HBd.out.block k hk))
     have HKzv11 := hid (show v10.heap.size ≤ (set3 vd G' x false (.slice a' n1 c1, .slice a4 m1 c4)).heap.size by rw [set3_size]; exact HBd.out.size)
     unfold set3 at hS1 HSp HKnv11 HKbv11 HKzv11
     clear hcy hown
     refine qS 7 rfl fun KP hK => ?_
     go_simp
     refine hK.out _ _ hS1 (fun hh => ?_)
     clear hK KP d0 d1 d2 f0 f1 f2 hS1 hh hlt' hk0
     try simp only [qP]
     refine anyK_done (by kernel_rfl) ?_ _
     clear HSd HBd
     generalize ((vd.setCell ⟨G', x * 3, none⟩ (.bool false)).setCell ⟨G', x * 3 + 1, none⟩ (.slice a' n1 c1)).setCell ⟨G', x * 3 + 2, none⟩ (.slice a4 m1 c4) = v11 at *
     have f1 : v11.cell? ⟨p8, 1, none⟩ = some (.slice a' n1 c1) := qC HSp.out.r8
     have HTk := hid (show restS ds x ⟨K0, N0, F0, Z0, i0⟩ r0 = layN r0.1 (x : Int) ⟨false, ES, putL d.ks u1 kk⟩ by
      rw [show r0 = (r0.1, some (q, kk)) from Prod.ext rfl HQr.out]
      show layN r0.1 (x : Int) (takeN (r0.1.getD x nd0) (upsB (ds.getD x nd0).es ⟨K0, N0, F0, Z0, i0⟩) q kk) = _
      rw [HSame.out, HD.out, HUp.out]
      unfold takeN
      rw [HLf.out, HEs.out, HU1.out]
      rfl)
     by_cases h4 : n1 ≤ 4
     · have h4' : (n1 : Int) ≤ 4 := by omega
       have HC6 := HSp.out.r6
       go_wp2_with (refine wpList_store_row rfl 48 (.tmp 6) _ rfl p6 #[.int .i64 0, .int .i64 0, .float .f64 0, .slice none 0 0, .int .i64 0] rfl rfl 48 _ HC6 size_en11 rfl (by simp [Value.oneCell']) ?_)
       refine bodyPost_ret (results_cell_tmp11 Tryz.results23 _ _ p6 48 #[.int .i64 0, .int .i64 0, .float .f64 0, .slice none 0 0, .int .i64 0] (0, 0) _ rfl (setRow_heap _ _ _ _ _ _ HC6) Tryz.underlying48 rfl size_en11) rfl ?_
       rw [← HRes.out, HTk.out, show layN r0.1 (x : Int) ⟨false, ES, putL d.ks u1 kk⟩ = (r0.1.set x ⟨false, ES, putL d.ks u1 kk⟩, none) by unfold layN; rw [if_pos (by rw [HEl.out]; exact h4), Int.toNat_natCast]]
       exact HSp.out.down HA6.out HAw.out _ (fun _ => rfl) (fun up k h => by cases h)
     · have h5 : n1 = 5 := by omega
       subst h5
       obtain rfl : m1 = 6 := by have := HKl.out; have := HNn1.out; have := HFk.out; omega
       obtain ⟨ga, rfl⟩ : ∃ ga, a' = some ⟨ga, 0, none⟩ := by
        rcases HEn4.out.own.2 with ⟨e, h0⟩ | ⟨g, cp, cu, e, _⟩
        · have := HEl.out; omega
        · exact ⟨g, (Value.slice.inj e).1⟩
       generalize putL d.ks u1 kk = KS at *
       obtain ⟨gk4, ek4, hpk, hck, hkl⟩ := (show InR v11 (.slice a4 6 c4) KS from HSp.out.nd.ks).pt (by omega)
       subst ek4
       have HPr := hid ((show InR v11 (.slice (some ⟨gk4, 0, none⟩) 6 c4) KS from HSp.out.nd.ks).part hkl 3 (by omega) c4 (c4 - 3) (by omega))
       have HPk := hid (show Pt v11 1 (some ⟨gk4, 3, none⟩) 3 (c4 - 3) (ins (KS.drop 3)) from HPr.out.2)
       have HKd := hid (show (KS.drop 3).length = 3 by rw [List.length_drop, hkl])
       have HKt := hid (show (KS.take 3).length = 3 by rw [List.length_take, hkl]; rfl)
       have HKb4 := hid (show ∀ i, -9223372036854775808 ≤ KS.getD i 0 ∧ KS.getD i 0 ≤ 9223372036854775807 from HSp.out.nd.ks.bd)
       obtain ⟨bb, xb, hen5⟩ := HSp.out.nd.es
       dsimp only at hen5
       have hrd3 : ReadsE v11 (some ⟨ga, 15, none⟩) (ES.drop 3) := hen5.rd.drop 3
       have hc5 := hen5.pt.2.1
       have HRd3 := hid hrd3
       have HEl3 := hid (show (ES.drop 3).length = 2 by rw [List.length_drop, HEl.out])
       have HMd := hid (show ∀ j, ((ES.drop 3).getD j en0).Z.length ≤ 2097152 from fun j => by rw [show (ES.drop 3).getD j en0 = ES.getD (3 + j) en0 by simp [List.getD, List.getElem?_drop]]; exact HMe.out (3 + j))
       have HEn5 := hid hen5
       obtain ⟨hc5a, hc5b⟩ := hc5
       obtain ⟨hck1, hck2⟩ := hck
       unfold maxLen at hc5b hck2
       have hc53 : ¬ c1 = 3 := by omega
       have hc43 : ¬ c4 = 3 := by omega
       have HCC := hid (show (5 ≤ c1 ∧ c1 ≤ maxLen) ∧ 6 ≤ c4 ∧ c4 ≤ maxLen by unfold maxLen; omega)
       have HSk := hid (show ∀ W, Below v11.heap.size v11 W → (fun W => W.cell? ⟨p8, 1, none⟩ = some (.slice (some ⟨ga, 0, none⟩) 5 c1)) W from fun W bb => by show W.cell? ⟨p8, 1, none⟩ = _; rw [cell_of_row _ _ _ _ _ _ (HSp.out.below bb).r8]; rfl)
       have HGp := hid HSp.out.gne
       have HP8 := hid HSp.out.pos
       clear hen5 hrd3 hpk hkl HEn4 HOw4 HIn HPr
       have h4' : ¬ (5 : Int) ≤ 4 := by omega
       go_upto_region 26 with fail
       clear f1 h4 h4'
       go_cut [14] (fun s14 wx => ∃ (p14 : Nat) (am : Option Addr) (cm : Nat) (a7 : Option Addr) (c7 : Nat) (xm : List Value), s14 = .pointer (some ⟨p14, 0, none⟩) ∧ Hid (wx.heap[p14]? = some (.cells #[.bool false, .slice am 2 cm, .slice a7 3 c7] 61)) ∧ Hid (EnR wx v11.heap.size (.slice am 2 cm) (ES.drop 3) xm) ∧ Hid (InR wx (.slice a7 3 c7) (KS.drop 3)) ∧ Hid (Below v11.heap.size v11 wx) ∧ Hid (v11.heap.size ≤ p14))
       case first =>
        have BC := hid ((Still.drew v11).below v11.heap.size)
        refine region_K 99 (fun W => W.cell? ⟨p8, 1, none⟩ = some (.slice (some ⟨ga, 0, none⟩) 5 c1)) (by kernel_rfl) (HSk.out _ BC.out) (fun hh => ?_)
        generalize v11.drew = vd at *
        refine qT 0 rfl hh 143 rfl ?_
        refine qT 1 rfl hh 144 rfl ?_
        refine qT 2 rfl hh 145 rfl ?_
        refine qT 5 rfl hh 148 rfl ?_
        refine qT 6 rfl hh 149 rfl ?_
        refine anyK_three (i := 3) (j := 4) (k := 9) (by kernel_rfl) rfl rfl rfl (fun KP hK => ?_) (fun KP hK => ?_) (fun KP hK => ?_)
        · as_aux_lemma =>
           go_simp
           refine (spec_entries _ (HRd3.out.below BC.out qN) HEl3.out (by omega) HMd.out).mono ?_
           rintro e x2 ⟨y, rfl, oe, b1⟩
           obtain ⟨am, cm, ey⟩ := oe.slice
           rw [HEl3.out] at ey
           subst ey
           obtain ⟨xm, hem⟩ := oe.enr
           have HEm := hid (hem.lower BC.out.size)
           replace BC := hid (BC.out.trans (b1.mono BC.out.size))
           clear oe b1 hem hh
           go_wp2_with fail
           refine hK.out _ _ (HSk.out _ BC.out) (fun hh => ?_)
           clear hK KP
           try simp only [qP]
           refine anyK_two (i := 4) (j := 9) (by kernel_rfl) rfl rfl (fun KP hK => ?_) (fun KP hK => ?_)
           · go_simp
             have HBL := hid (Below.alloc1 x2 (.cells #[] 3))
             have HLit := hid (World.ownsRow_lit (base := v11.heap.size) (e := 3) (size := 1) x2 #[] 0 BC.out.size (Nat.zero_le _) rfl)
             replace HEm := hid (HEm.out.kn (KN.below HBL.out))
             replace BC := hid (BC.out.trans (HBL.out.mono BC.out.size))
             clear hh
             refine hK.out _ _ (HSk.out _ BC.out) (fun hh => ?_)
             clear hK KP
             try simp only [qP]
             generalize x2.alloc (.cells #[] 3) = x4 at *
             generalize x2.heap.size = gl at *
             clear HBL
             refine anyK_two (i := 7) (j := 9) (by kernel_rfl) rfl rfl (fun KP hK => ?_) (fun KP hK => ?_)
             · have hpk := HPk.out.below BC.out
               obtain ⟨i1, hi1, hy0, hy1, hy2⟩ := info_parts Tryz.infoI
               refine step_append_row rfl _ _ 59 rfl v11.heap.size 3 i1 (.int .i64 0) 1 8 Tryz.underlying59 hi1 hy0 hy1 hy2 rfl (by decide) (.slice (some ⟨gl, 0, none⟩) 0 0) 0 [] rfl HLit.out (some ⟨gk4, 3, none⟩) 3 (c4 - 3) _ rfl hpk.1 hpk.2.1 hpk.2.2 (ins_ones _) (by unfold maxLen; omega) (by omega) BC.out.size ?_
               intro a7 c7 x6 o7 g7
               rw [List.nil_append] at o7
               try simp only [Nat.zero_add] at o7 ⊢
               have HIk := hid (show InR x6 (.slice a7 3 c7) (KS.drop 3) from ⟨⟨_, by rw [HKd.out]; exact o7⟩, bd_drop HKb4.out 3⟩)
               replace HEm := hid (HEm.out.aside HLit.out (by decide) (by decide) g7)
               replace BC := hid (BC.out.grown g7 BC.out.size (fun q hq => (HLit.out.lt q hq).1))
               clear o7 g7 HLit hpk hi1 hy0 hy1 hy2
               clear hh
               refine hK.out _ _ (HSk.out _ BC.out) (fun hh => ?_)
               clear hK KP
               try simp only [Act.put]
               try simp only [List.getElem_toArray, List.getElem_cons_succ, List.getElem_cons_zero]
               try simp only [qP]
               refine qT 8 rfl hh 151 rfl ?_
               refine qS 9 rfl fun KP hK => ?_
               go_simp
               have HBL := hid (Below.alloc1 x6 (.cells #[.bool false, .slice none 0 0, .slice none 0 0] 61))
               have HR14 := hid (heap_alloc_new x6 (.cells #[.bool false, .slice none 0 0, .slice none 0 0] 61))
               have HP14 := hid (show v11.heap.size ≤ x6.heap.size from BC.out.size)
               replace HEm := hid (HEm.out.kn (KN.below HBL.out))
               replace HIk := hid (HIk.out.kn (KN.below HBL.out))
               replace BC := hid (BC.out.trans (HBL.out.mono BC.out.size))
               clear hh
               refine hK.out _ _ (HSk.out _ BC.out) (fun hh => ?_)
               clear hK KP
               try simp only [qP]
               generalize x6.alloc (.cells #[.bool false, .slice none 0 0, .slice none 0 0] 61) = x7 at *
               generalize x6.heap.size = p14 at *
               clear HBL
               have HB9 := hid (below_setRow BC.out HP14.out #[.bool false, .slice am 2 cm, .slice a7 3 c7])
               have kn := KN.grown (row_grown11 x7 p14 #[.bool false, .slice am 2 cm, .slice a7 3 c7]) (fun k q => by obtain rfl := Option.some.inj q; exact ⟨_, _, _, HR14.out, .inl rfl⟩)
               refine qS 10 rfl fun KP hK => ?_
               refine wp_store_row 61 (.tmp 14) (.tmp 151) rfl p14 #[.bool false, .slice am 2 cm, .slice a7 3 c7] rfl rfl 61 _ HR14.out size_nd11 rfl (by simp [Value.oneCell']) ?_
               clear hh
               refine hK.out _ _ (HSk.out _ HB9.out) (fun hh => ?_)
               clear hK KP hh
               try simp only [qP]
               refine anyK_done (by kernel_rfl) ?_ _
               go_wp2_with fail
               go_meet
               exact ⟨p14, am, cm, a7, c7, xm, rfl, hid (setRow_heap _ _ _ _ _ _ HR14.out), hid (HEm.out.kn kn), hid (HIk.out.kn kn), HB9, HP14⟩
             · go_simp
               have HBL := hid (Below.alloc1 x4 (.cells #[.bool false, .slice none 0 0, .slice none 0 0] 61))
               have HR14 := hid (heap_alloc_new x4 (.cells #[.bool false, .slice none 0 0, .slice none 0 0] 61))
               have HP14 := hid (show v11.heap.size ≤ x4.heap.size from BC.out.size)
               replace HEm := hid (HEm.out.kn (KN.below HBL.out))
               replace HLit := hid (owns_below HBL.out qN HLit.out)
               replace BC := hid (BC.out.trans (HBL.out.mono BC.out.size))
               clear hh
               refine hK.out _ _ (HSk.out _ BC.out) (fun hh => ?_)
               clear hK KP
               try simp only [qP]
               generalize x4.alloc (.cells #[.bool false, .slice none 0 0, .slice none 0 0] 61) = x9 at *
               generalize x4.heap.size = p14 at *
               clear HBL
               refine qS 7 rfl fun KP hK => ?_
               have hpk := HPk.out.below BC.out
               obtain ⟨i1, hi1, hy0, hy1, hy2⟩ := info_parts Tryz.infoI
               refine step_append_row rfl _ _ 59 rfl v11.heap.size 3 i1 (.int .i64 0) 1 8 Tryz.underlying59 hi1 hy0 hy1 hy2 rfl (by decide) (.slice (some ⟨gl, 0, none⟩) 0 0) 0 [] rfl HLit.out (some ⟨gk4, 3, none⟩) 3 (c4 - 3) _ rfl hpk.1 hpk.2.1 hpk.2.2 (ins_ones _) (by unfold maxLen; omega) (by omega) BC.out.size ?_
               intro a7 c7 x10 o7 g7
               rw [List.nil_append] at o7
               try simp only [Nat.zero_add] at o7 ⊢
               have HIk := hid (show InR x10 (.slice a7 3 c7) (KS.drop 3) from ⟨⟨_, by rw [HKd.out]; exact o7⟩, bd_drop HKb4.out 3⟩)
               replace HEm := hid (HEm.out.aside HLit.out (by decide) (by decide) g7)
               replace HR14 := hid (row_aside11 HR14.out HLit.out (by decide) g7)
               replace BC := hid (BC.out.grown g7 BC.out.size (fun q hq => (HLit.out.lt q hq).1))
               clear o7 g7 HLit hpk hi1 hy0 hy1 hy2
               clear hh
               refine hK.out _ _ (HSk.out _ BC.out) (fun hh => ?_)
               clear hK KP
               try simp only [Act.put]
               try simp only [List.getElem_toArray, List.getElem_cons_succ, List.getElem_cons_zero]
               try simp only [qP]
               refine qT 8 rfl hh 151 rfl ?_
               have HB9 := hid (below_setRow BC.out HP14.out #[.bool false, .slice am 2 cm, .slice a7 3 c7])
               have kn := KN.grown (row_grown11 x10 p14 #[.bool false, .slice am 2 cm, .slice a7 3 c7]) (fun k q => by obtain rfl := Option.some.inj q; exact ⟨_, _, _, HR14.out, .inl rfl⟩)
               refine qS 10 rfl fun KP hK => ?_
               refine wp_store_row 61 (.tmp 14) (.tmp 151) rfl p14 #[.bool false, .slice am 2 cm, .slice a7 3 c7] rfl rfl 61 _ HR14.out size_nd11 rfl (by simp [Value.oneCell']) ?_
               clear hh
               refine hK.out _ _ (HSk.out _ HB9.out) (fun hh => ?_)
               clear hK KP hh
               try simp only [qP]
               refine anyK_done (by kernel_rfl) ?_ _
               go_wp2_with fail
               go_meet
               exact ⟨p14, am, cm, a7, c7, xm, rfl, hid (setRow_heap _ _ _ _ _ _ HR14.out), hid (HEm.out.kn kn), hid (HIk.out.kn kn), HB9, HP14⟩
           · go_simp
             have HBL := hid (Below.alloc1 x2 (.cells #[.bool false, .slice none 0 0, .slice none 0 0] 61))
             have HR14 := hid (heap_alloc_new x2 (.cells #[.bool false, .slice none 0 0, .slice none 0 0] 61))
             have HP14 := hid (show v11.heap.size ≤ x2.heap.size from BC.out.size)
             replace HEm := hid (HEm.out.kn (KN.below HBL.out))
             replace BC := hid (BC.out.trans (HBL.out.mono BC.out.size))
             clear hh
             refine hK.out _ _ (HSk.out _ BC.out) (fun hh => ?_)
             clear hK KP
             try simp only [qP]
             generalize x2.alloc (.cells #[.bool false, .slice none 0 0, .slice none 0 0] 61) = x12 at *
             generalize x2.heap.size = p14 at *
             clear HBL
             refine qS 4 rfl fun KP hK => ?_
             go_simp
             have HBL := hid (Below.alloc1 x12 (.cells #[] 3))
             have HLit := hid (World.ownsRow_lit (base := v11.heap.size) (e := 3) (size := 1) x12 #[] 0 BC.out.size (Nat.zero_le _) rfl)
             replace HEm := hid (HEm.out.kn (KN.below HBL.out))
             replace HR14 := hid ((HBL.out.block p14 (qL HR14.out)).trans HR14.out)
             replace BC := hid (BC.out.trans (HBL.out.mono BC.out.size))
             clear hh
             refine hK.out _ _ (HSk.out _ BC.out) (fun hh => ?_)
             clear hK KP
             try simp only [qP]
             generalize x12.alloc (.cells #[] 3) = x13 at *
             generalize x12.heap.size = gl at *
             clear HBL
             refine qS 7 rfl fun KP hK => ?_
             have hpk := HPk.out.below BC.out
             obtain ⟨i1, hi1, hy0, hy1, hy2⟩ := info_parts Tryz.infoI
             refine step_append_row rfl _ _ 59 rfl v11.heap.size 3 i1 (.int .i64 0) 1 8 Tryz.underlying59 hi1 hy0 hy1 hy2 rfl (by decide) (.slice (some ⟨gl, 0, none⟩) 0 0) 0 [] rfl HLit.out (some ⟨gk4, 3, none⟩) 3 (c4 - 3) _ rfl hpk.1 hpk.2.1 hpk.2.2 (ins_ones _) (by unfold maxLen; omega) (by omega) BC.out.size ?_
             intro a7 c7 x14 o7 g7
             rw [List.nil_append] at o7
             try simp only [Nat.zero_add] at o7 ⊢
             have HIk := hid (show InR x14 (.slice a7 3 c7) (KS.drop 3) from ⟨⟨_, by rw [HKd.out]; exact o7⟩, bd_drop HKb4.out 3⟩)
             replace HEm := hid (HEm.out.aside HLit.out (by decide) (by decide) g7)
             replace HR14 := hid (row_aside11 HR14.out HLit.out (by decide) g7)
             replace BC := hid (BC.out.grown g7 BC.out.size (fun q hq => (HLit.out.lt q hq).1))
             clear o7 g7 HLit hpk hi1 hy0 hy1 hy2
             clear hh
             refine hK.out _ _ (HSk.out _ BC.out) (fun hh => ?_)
             clear hK KP
             try simp only [Act.put]
             try simp only [List.getElem_toArray, List.getElem_cons_succ, List.getElem_cons_zero]
             try simp only [qP]
             refine qT 8 rfl hh 151 rfl ?_
             have HB9 := hid (below_setRow BC.out HP14.out #[.bool false, .slice am 2 cm, .slice a7 3 c7])
             have kn := KN.grown (row_grown11 x14 p14 #[.bool false, .slice am 2 cm, .slice a7 3 c7]) (fun k q => by obtain rfl := Option.some.inj q; exact ⟨_, _, _, HR14.out, .inl rfl⟩)
             refine qS 10 rfl fun KP hK => ?_
             refine wp_store_row 61 (.tmp 14) (.tmp 151) rfl p14 #[.bool false, .slice am 2 cm, .slice a7 3 c7] rfl rfl 61 _ HR14.out size_nd11 rfl (by simp [Value.oneCell']) ?_
             clear hh
             refine hK.out _ _ (HSk.out _ HB9.out) (fun hh => ?_)
             clear hK KP hh
             try simp only [qP]
             refine anyK_done (by kernel_rfl) ?_ _
             go_wp2_with fail
             go_meet
             exact ⟨p14, am, cm, a7, c7, xm, rfl, hid (setRow_heap _ _ _ _ _ _ HR14.out), hid (HEm.out.kn kn), hid (HIk.out.kn kn), HB9, HP14⟩
        · as_aux_lemma =>
           go_simp
           have HBL := hid (Below.alloc1 vd (.cells #[] 3))
           have HLit := hid (World.ownsRow_lit (base := v11.heap.size) (e := 3) (size := 1) vd #[] 0 BC.out.size (Nat.zero_le _) rfl)
           replace BC := hid (BC.out.trans (HBL.out.mono BC.out.size))
           clear hh
           refine hK.out _ _ (HSk.out _ BC.out) (fun hh => ?_)
           clear hK KP
           try simp only [qP]
           generalize vd.alloc (.cells #[] 3) = x16 at *
           generalize vd.heap.size = gl at *
           clear HBL
           refine anyK_two (i := 3) (j := 9) (by kernel_rfl) rfl rfl (fun KP hK => ?_) (fun KP hK => ?_)
           · go_simp
             refine (spec_entries _ (HRd3.out.below BC.out qN) HEl3.out (by omega) HMd.out).mono ?_
             rintro e x18 ⟨y, rfl, oe, b1⟩
             obtain ⟨am, cm, ey⟩ := oe.slice
             rw [HEl3.out] at ey
             subst ey
             obtain ⟨xm, hem⟩ := oe.enr
             have HEm := hid (hem.lower BC.out.size)
             replace HLit := hid (owns_below b1 qN HLit.out)
             replace BC := hid (BC.out.trans (b1.mono BC.out.size))
             clear oe b1 hem hh
             go_wp2_with fail
             refine hK.out _ _ (HSk.out _ BC.out) (fun hh => ?_)
             clear hK KP
             try simp only [qP]
             refine anyK_two (i := 7) (j := 9) (by kernel_rfl) rfl rfl (fun KP hK => ?_) (fun KP hK => ?_)
             · have hpk := HPk.out.below BC.out
               obtain ⟨i1, hi1, hy0, hy1, hy2⟩ := info_parts Tryz.infoI
               refine step_append_row rfl _ _ 59 rfl v11.heap.size 3 i1 (.int .i64 0) 1 8 Tryz.underlying59 hi1 hy0 hy1 hy2 rfl (by decide) (.slice (some ⟨gl, 0, none⟩) 0 0) 0 [] rfl HLit.out (some ⟨gk4, 3, none⟩) 3 (c4 - 3) _ rfl hpk.1 hpk.2.1 hpk.2.2 (ins_ones _) (by unfold maxLen; omega) (by omega) BC.out.size ?_
               intro a7 c7 x20 o7 g7
               rw [List.nil_append] at o7
               try simp only [Nat.zero_add] at o7 ⊢
               have HIk := hid (show InR x20 (.slice a7 3 c7) (KS.drop 3) from ⟨⟨_, by rw [HKd.out]; exact o7⟩, bd_drop HKb4.out 3⟩)
               replace HEm := hid (HEm.out.aside HLit.out (by decide) (by decide) g7)
               replace BC := hid (BC.out.grown g7 BC.out.size (fun q hq => (HLit.out.lt q hq).1))
               clear o7 g7 HLit hpk hi1 hy0 hy1 hy2
               clear hh
               refine hK.out _ _ (HSk.out _ BC.out) (fun hh => ?_)
               clear hK KP
               try simp only [Act.put]
               try simp only [List.getElem_toArray, List.getElem_cons_succ, List.getElem_cons_zero]
               try simp only [qP]
               refine qT 8 rfl hh 151 rfl ?_
               refine qS 9 rfl fun KP hK => ?_
               go_simp
               have HBL := hid (Below.alloc1 x20 (.cells #[.bool false, .slice none 0 0, .slice none 0 0] 61))
               have HR14 := hid (heap_alloc_new x20 (.cells #[.bool false, .slice none 0 0, .slice none 0 0] 61))
               have HP14 := hid (show v11.heap.size ≤ x20.heap.size from BC.out.size)
               replace HEm := hid (HEm.out.kn (KN.below HBL.out))
               replace HIk := hid (HIk.out.kn (KN.below HBL.out))
               replace BC := hid (BC.out.trans (HBL.out.mono BC.out.size))
               clear hh
               refine hK.out _ _ (HSk.out _ BC.out) (fun hh => ?_)
               clear hK KP
               try simp only [qP]
               generalize x20.alloc (.cells #[.bool false, .slice none 0 0, .slice none 0 0] 61) = x21 at *
               generalize x20.heap.size = p14 at *
               clear HBL
               have HB9 := hid (below_setRow BC.out HP14.out #[.bool false, .slice am 2 cm, .slice a7 3 c7])
               have kn := KN.grown (row_grown11 x21 p14 #[.bool false, .slice am 2 cm, .slice a7 3 c7]) (fun k q => by obtain rfl := Option.some.inj q; exact ⟨_, _, _, HR14.out, .inl rfl⟩)
               refine qS 10 rfl fun KP hK => ?_
               refine wp_store_row 61 (.tmp 14) (.tmp 151) rfl p14 #[.bool false, .slice am 2 cm, .slice a7 3 c7] rfl rfl 61 _ HR14.out size_nd11 rfl (by simp [Value.oneCell']) ?_
               clear hh
               refine hK.out _ _ (HSk.out _ HB9.out) (fun hh => ?_)
               clear hK KP hh
               try simp only [qP]
               refine anyK_done (by kernel_rfl) ?_ _
               go_wp2_with fail
               go_meet
               exact ⟨p14, am, cm, a7, c7, xm, rfl, hid (setRow_heap _ _ _ _ _ _ HR14.out), hid (HEm.out.kn kn), hid (HIk.out.kn kn), HB9, HP14⟩
             · go_simp
               have HBL := hid (Below.alloc1 x18 (.cells #[.bool false, .slice none 0 0, .slice none 0 0] 61))
               have HR14 := hid (heap_alloc_new x18 (.cells #[.bool false, .slice none 0 0, .slice none 0 0] 61))
               have HP14 := hid (show v11.heap.size ≤ x18.heap.size from BC.out.size)
               replace HEm := hid (HEm.out.kn (KN.below HBL.out))
               replace HLit := hid (owns_below HBL.out qN HLit.out)
               replace BC := hid (BC.out.trans (HBL.out.mono BC.out.size))
               clear hh
               refine hK.out _ _ (HSk.out _ BC.out) (fun hh => ?_)
               clear hK KP
               try simp only [qP]
               generalize x18.alloc (.cells #[.bool false, .slice none 0 0, .slice none 0 0] 61) = x23 at *
               generalize x18.heap.size = p14 at *
               clear HBL
               refine qS 7 rfl fun KP hK => ?_
               have hpk := HPk.out.below BC.out
               obtain ⟨i1, hi1, hy0, hy1, hy2⟩ := info_parts Tryz.infoI
               refine step_append_row rfl _ _ 59 rfl v11.heap.size 3 i1 (.int .i64 0) 1 8 Tryz.underlying59 hi1 hy0 hy1 hy2 rfl (by decide) (.slice (some ⟨gl, 0, none⟩) 0 0) 0 [] rfl HLit.out (some ⟨gk4, 3, none⟩) 3 (c4 - 3) _ rfl hpk.1 hpk.2.1 hpk.2.2 (ins_ones _) (by unfold maxLen; omega) (by omega) BC.out.size ?_
               intro a7 c7 x24 o7 g7
               rw [List.nil_append] at o7
               try simp only [Nat.zero_add] at o7 ⊢
               have HIk := hid (show InR x24 (.slice a7 3 c7) (KS.drop 3) from ⟨⟨_, by rw [HKd.out]; exact o7⟩, bd_drop HKb4.out 3⟩)
               replace HEm := hid (HEm.out.aside HLit.out (by decide) (by decide) g7)
               replace HR14 := hid (row_aside11 HR14.out HLit.out (by decide) g7)
               replace BC := hid (BC.out.grown g7 BC.out.size (fun q hq => (HLit.out.lt q hq).1))
               clear o7 g7 HLit hpk hi1 hy0 hy1 hy2
               clear hh
               refine hK.out _ _ (HSk.out _ BC.out) (fun hh => ?_)
               clear hK KP
               try simp only [Act.put]
               try simp only [List.getElem_toArray, List.getElem_cons_succ, List.getElem_cons_zero]
               try simp only [qP]
               refine qT 8 rfl hh 151 rfl ?_
               have HB9 := hid (below_setRow BC.out HP14.out #[.bool false, .slice am 2 cm, .slice a7 3 c7])
               have kn := KN.grown (row_grown11 x24 p14 #[.bool false, .slice am 2 cm, .slice a7 3 c7]) (fun k q => by obtain rfl := Option.some.inj q; exact ⟨_, _, _, HR14.out, .inl rfl⟩)
               refine qS 10 rfl fun KP hK => ?_
               refine wp_store_row 61 (.tmp 14) (.tmp 151) rfl p14 #[.bool false, .slice am 2 cm, .slice a7 3 c7] rfl rfl 61 _ HR14.out size_nd11 rfl (by simp [Value.oneCell']) ?_
               clear hh
               refine hK.out _ _ (HSk.out _ HB9.out) (fun hh => ?_)
               clear hK KP hh
               try simp only [qP]
               refine anyK_done (by kernel_rfl) ?_ _
               go_wp2_with fail
               go_meet
               exact ⟨p14, am, cm, a7, c7, xm, rfl, hid (setRow_heap _ _ _ _ _ _ HR14.out), hid (HEm.out.kn kn), hid (HIk.out.kn kn), HB9, HP14⟩
           · go_simp
             have HBL := hid (Below.alloc1 x16 (.cells #[.bool false, .slice none 0 0, .slice none 0 0] 61))
             have HR14 := hid (heap_alloc_new x16 (.cells #[.bool false, .slice none 0 0, .slice none 0 0] 61))
             have HP14 := hid (show v11.heap.size ≤ x16.heap.size from BC.out.size)
             replace HLit := hid (owns_below HBL.out qN HLit.out)
             replace BC := hid (BC.out.trans (HBL.out.mono BC.out.size))
             clear hh
             refine hK.out _ _ (HSk.out _ BC.out) (fun hh => ?_)
             clear hK KP
             try simp only [qP]
             generalize x16.alloc (.cells #[.bool false, .slice none 0 0, .slice none 0 0] 61) = x26 at *
             generalize x16.heap.size = p14 at *
             clear HBL
             refine qS 3 rfl fun KP hK => ?_
             go_simp
             refine (spec_entries _ (HRd3.out.below BC.out qN) HEl3.out (by omega) HMd.out).mono ?_
             rintro e x27 ⟨y, rfl, oe, b1⟩
             obtain ⟨am, cm, ey⟩ := oe.slice
             rw [HEl3.out] at ey
             subst ey
             obtain ⟨xm, hem⟩ := oe.enr
             have HEm := hid (hem.lower BC.out.size)
             replace HLit := hid (owns_below b1 qN HLit.out)
             replace HR14 := hid ((b1.block p14 (qL HR14.out)).trans HR14.out)
             replace BC := hid (BC.out.trans (b1.mono BC.out.size))
             clear oe b1 hem hh
             go_wp2_with fail
             refine hK.out _ _ (HSk.out _ BC.out) (fun hh => ?_)
             clear hK KP
             try simp only [qP]
             refine qS 7 rfl fun KP hK => ?_
             have hpk := HPk.out.below BC.out
             obtain ⟨i1, hi1, hy0, hy1, hy2⟩ := info_parts Tryz.infoI
             refine step_append_row rfl _ _ 59 rfl v11.heap.size 3 i1 (.int .i64 0) 1 8 Tryz.underlying59 hi1 hy0 hy1 hy2 rfl (by decide) (.slice (some ⟨gl, 0, none⟩) 0 0) 0 [] rfl HLit.out (some ⟨gk4, 3, none⟩) 3 (c4 - 3) _ rfl hpk.1 hpk.2.1 hpk.2.2 (ins_ones _) (by unfold maxLen; omega) (by omega) BC.out.size ?_
             intro a7 c7 x28 o7 g7
             rw [List.nil_append] at o7
             try simp only [Nat.zero_add] at o7 ⊢
             have HIk := hid (show InR x28 (.slice a7 3 c7) (KS.drop 3) from ⟨⟨_, by rw [HKd.out]; exact o7⟩, bd_drop HKb4.out 3⟩)
             replace HEm := hid (HEm.out.aside HLit.out (by decide) (by decide) g7)
             replace HR14 := hid (row_aside11 HR14.out HLit.out (by decide) g7)
             replace BC := hid (BC.out.grown g7 BC.out.size (fun q hq => (HLit.out.lt q hq).1))
             clear o7 g7 HLit hpk hi1 hy0 hy1 hy2
             clear hh
             refine hK.out _ _ (HSk.out _ BC.out) (fun hh => ?_)
             clear hK KP
             try simp only [Act.put]
             try simp only [List.getElem_toArray, List.getElem_cons_succ, List.getElem_cons_zero]
             try simp only [qP]
             refine qT 8 rfl hh 151 rfl ?_
             have HB9 := hid (below_setRow BC.out HP14.out #[.bool false, .slice am 2 cm, .slice a7 3 c7])
             have kn := KN.grown (row_grown11 x28 p14 #[.bool false, .slice am 2 cm, .slice a7 3 c7]) (fun k q => by obtain rfl := Option.some.inj q; exact ⟨_, _, _, HR14.out, .inl rfl⟩)
             refine qS 10 rfl fun KP hK => ?_
             refine wp_store_row 61 (.tmp 14) (.tmp 151) rfl p14 #[.bool false, .slice am 2 cm, .slice a7 3 c7] rfl rfl 61 _ HR14.out size_nd11 rfl (by simp [Value.oneCell']) ?_
             clear hh
             refine hK.out _ _ (HSk.out _ HB9.out) (fun hh => ?_)
             clear hK KP hh
             try simp only [qP]
             refine anyK_done (by kernel_rfl) ?_ _
             go_wp2_with fail
             go_meet
             exact ⟨p14, am, cm, a7, c7, xm, rfl, hid (setRow_heap _ _ _ _ _ _ HR14.out), hid (HEm.out.kn kn), hid (HIk.out.kn kn), HB9, HP14⟩
        · as_aux_lemma =>
           go_simp
           have HBL := hid (Below.alloc1 vd (.cells #[.bool false, .slice none 0 0, .slice none 0 0] 61))
           have HR14 := hid (heap_alloc_new vd (.cells #[.bool false, .slice none 0 0, .slice none 0 0] 61))
           have HP14 := hid (show v11.heap.size ≤ vd.heap.size from BC.out.size)
           replace BC := hid (BC.out.trans (HBL.out.mono BC.out.size))
           clear hh
           refine hK.out _ _ (HSk.out _ BC.out) (fun hh => ?_)
           clear hK KP
           try simp only [qP]
           generalize vd.alloc (.cells #[.bool false, .slice none 0 0, .slice none 0 0] 61) = x30 at *
           generalize vd.heap.size = p14 at *
           clear HBL
           refine anyK_two (i := 3) (j := 4) (by kernel_rfl) rfl rfl (fun KP hK => ?_) (fun KP hK => ?_)
           · go_simp
             refine (spec_entries _ (HRd3.out.below BC.out qN) HEl3.out (by omega) HMd.out).mono ?_
             rintro e x32 ⟨y, rfl, oe, b1⟩
             obtain ⟨am, cm, ey⟩ := oe.slice
             rw [HEl3.out] at ey
             subst ey
             obtain ⟨xm, hem⟩ := oe.enr
             have HEm := hid (hem.lower BC.out.size)
             replace HR14 := hid ((b1.block p14 (qL HR14.out)).trans HR14.out)
             replace BC := hid (BC.out.trans (b1.mono BC.out.size))
             clear oe b1 hem hh
             go_wp2_with fail
             refine hK.out _ _ (HSk.out _ BC.out) (fun hh => ?_)
             clear hK KP
             try simp only [qP]
             refine qS 4 rfl fun KP hK => ?_
             go_simp
             have HBL := hid (Below.alloc1 x32 (.cells #[] 3))
             have HLit := hid (World.ownsRow_lit (base := v11.heap.size) (e := 3) (size := 1) x32 #[] 0 BC.out.size (Nat.zero_le _) rfl)
             replace HEm := hid (HEm.out.kn (KN.below HBL.out))
             replace HR14 := hid ((HBL.out.block p14 (qL HR14.out)).trans HR14.out)
             replace BC := hid (BC.out.trans (HBL.out.mono BC.out.size))
             clear hh
             refine hK.out _ _ (HSk.out _ BC.out) (fun hh => ?_)
             clear hK KP
             try simp only [qP]
             generalize x32.alloc (.cells #[] 3) = x33 at *
             generalize x32.heap.size = gl at *
             clear HBL
             refine qS 7 rfl fun KP hK => ?_
             have hpk := HPk.out.below BC.out
             obtain ⟨i1, hi1, hy0, hy1, hy2⟩ := info_parts Tryz.infoI
             refine step_append_row rfl _ _ 59 rfl v11.heap.size 3 i1 (.int .i64 0) 1 8 Tryz.underlying59 hi1 hy0 hy1 hy2 rfl (by decide) (.slice (some ⟨gl, 0, none⟩) 0 0) 0 [] rfl HLit.out (some ⟨gk4, 3, none⟩) 3 (c4 - 3) _ rfl hpk.1 hpk.2.1 hpk.2.2 (ins_ones _) (by unfold maxLen; omega) (by omega) BC.out.size ?_
             intro a7 c7 x34 o7 g7
             rw [List.nil_append] at o7
             try simp only [Nat.zero_add] at o7 ⊢
             have HIk := hid (show InR x34 (.slice a7 3 c7) (KS.drop 3) from ⟨⟨_, by rw [HKd.out]; exact o7⟩, bd_drop HKb4.out 3⟩)
             replace HEm := hid (HEm.out.aside HLit.out (by decide) (by decide) g7)
             replace HR14 := hid (row_aside11 HR14.out HLit.out (by decide) g7)
             replace BC := hid (BC.out.grown g7 BC.out.size (fun q hq => (HLit.out.lt q hq).1))
             clear o7 g7 HLit hpk hi1 hy0 hy1 hy2
             clear hh
             refine hK.out _ _ (HSk.out _ BC.out) (fun hh => ?_)
             clear hK KP
             try simp only [Act.put]
             try simp only [List.getElem_toArray, List.getElem_cons_succ, List.getElem_cons_zero]
             try simp only [qP]
             refine qT 8 rfl hh 151 rfl ?_
             have HB9 := hid (below_setRow BC.out HP14.out #[.bool false, .slice am 2 cm, .slice a7 3 c7])
             have kn := KN.grown (row_grown11 x34 p14 #[.bool false, .slice am 2 cm, .slice a7 3 c7]) (fun k q => by obtain rfl := Option.some.inj q; exact ⟨_, _, _, HR14.out, .inl rfl⟩)
             refine qS 10 rfl fun KP hK => ?_
             refine wp_store_row 61 (.tmp 14) (.tmp 151) rfl p14 #[.bool false, .slice am 2 cm, .slice a7 3 c7] rfl rfl 61 _ HR14.out size_nd11 rfl (by simp [Value.oneCell']) ?_
             clear hh
             refine hK.out _ _ (HSk.out _ HB9.out) (fun hh => ?_)
             clear hK KP hh
             try simp only [qP]
             refine anyK_done (by kernel_rfl) ?_ _
             go_wp2_with fail
             go_meet
             exact ⟨p14, am, cm, a7, c7, xm, rfl, hid (setRow_heap _ _ _ _ _ _ HR14.out), hid (HEm.out.kn kn), hid (HIk.out.kn kn), HB9, HP14⟩
           · go_simp
             have HBL := hid (Below.alloc1 x30 (.cells #[] 3))
             have HLit := hid (World.ownsRow_lit (base := v11.heap.size) (e := 3) (size := 1) x30 #[] 0 BC.out.size (Nat.zero_le _) rfl)
             replace HR14 := hid ((HBL.out.block p14 (qL HR14.out)).trans HR14.out)
             replace BC := hid (BC.out.trans (HBL.out.mono BC.out.size))
             clear hh
             refine hK.out _ _ (HSk.out _ BC.out) (fun hh => ?_)
             clear hK KP
             try simp only [qP]
             generalize x30.alloc (.cells #[] 3) = x36 at *
             generalize x30.heap.size = gl at *
             clear HBL
             refine qS 3 rfl fun KP hK => ?_
             go_simp
             refine (spec_entries _ (HRd3.out.below BC.out qN) HEl3.out (by omega) HMd.out).mono ?_
             rintro e x37 ⟨y, rfl, oe, b1⟩
             obtain ⟨am, cm, ey⟩ := oe.slice
             rw [HEl3.out] at ey
             subst ey
             obtain ⟨xm, hem⟩ := oe.enr
             have HEm := hid (hem.lower BC.out.size)
             replace HLit := hid (owns_below b1 qN HLit.out)
             replace HR14 := hid ((b1.block p14 (qL HR14.out)).trans HR14.out)
             replace BC := hid (BC.out.trans (b1.mono BC.out.size))
             clear oe b1 hem hh
             go_wp2_with fail
             refine hK.out _ _ (HSk.out _ BC.out) (fun hh => ?_)
             clear hK KP
             try simp only [qP]
             refine qS 7 rfl fun KP hK => ?_
             have hpk := HPk.out.below BC.out
             obtain ⟨i1, hi1, hy0, hy1, hy2⟩ := info_parts Tryz.infoI
             refine step_append_row rfl _ _ 59 rfl v11.heap.size 3 i1 (.int .i64 0) 1 8 Tryz.underlying59 hi1 hy0 hy1 hy2 rfl (by decide) (.slice (some ⟨gl, 0, none⟩) 0 0) 0 [] rfl HLit.out (some ⟨gk4, 3, none⟩) 3 (c4 - 3) _ rfl hpk.1 hpk.2.1 hpk.2.2 (ins_ones _) (by unfold maxLen; omega) (by omega) BC.out.size ?_
             intro a7 c7 x38 o7 g7
             rw [List.nil_append] at o7
             try simp only [Nat.zero_add] at o7 ⊢
             have HIk := hid (show InR x38 (.slice a7 3 c7) (KS.drop 3) from ⟨⟨_, by rw [HKd.out]; exact o7⟩, bd_drop HKb4.out 3⟩)
             replace HEm := hid (HEm.out.aside HLit.out (by decide) (by decide) g7)
             replace HR14 := hid (row_aside11 HR14.out HLit.out (by decide) g7)
             replace BC := hid (BC.out.grown g7 BC.out.size (fun q hq => (HLit.out.lt q hq).1))
             clear o7 g7 HLit hpk hi1 hy0 hy1 hy2
             clear hh
             refine hK.out _ _ (HSk.out _ BC.out) (fun hh => ?_)
             clear hK KP
             try simp only [Act.put]
             try simp only [List.getElem_toArray, List.getElem_cons_succ, List.getElem_cons_zero]
             try simp only [qP]
             refine qT 8 rfl hh 151 rfl ?_
             have HB9 := hid (below_setRow BC.out HP14.out #[.bool false, .slice am 2 cm, .slice a7 3 c7])
             have kn := KN.grown (row_grown11 x38 p14 #[.bool false, .slice am 2 cm, .slice a7 3 c7]) (fun k q => by obtain rfl := Option.some.inj q; exact ⟨_, _, _, HR14.out, .inl rfl⟩)
             refine qS 10 rfl fun KP hK => ?_
             refine wp_store_row 61 (.tmp 14) (.tmp 151) rfl p14 #[.bool false, .slice am 2 cm, .slice a7 3 c7] rfl rfl 61 _ HR14.out size_nd11 rfl (by simp [Value.oneCell']) ?_
             clear hh
             refine hK.out _ _ (HSk.out _ HB9.out) (fun hh => ?_)
             clear hK KP hh
             try simp only [qP]
             refine anyK_done (by kernel_rfl) ?_ _
             go_wp2_with fail
             go_meet
             exact ⟨p14, am, cm, a7, c7, xm, rfl, hid (setRow_heap _ _ _ _ _ _ HR14.out), hid (HEm.out.kn kn), hid (HIk.out.kn kn), HB9, HP14⟩
       case rest =>
        obtain ⟨p14, am, cm, a7, c7, xm, rfl, HR14, HEm, HIk, BC, HP14⟩ := hcut
        have HS20 := hid (HSp.out.below BC.out)
        obtain ⟨bb, xb, hen5⟩ := HS20.out.nd.es
        dsimp only at hen5
        have hom := hen5.own
        rw [HEl.out] at hom
        have hcm := fun j (hj : j < 5) => (hom.cellAt (2 * 5 + j) (by omega)).trans (cellsE_at ES xb 2 j hen5.len (by rw [HEl.out]; omega) hj)
        have hxm := hen5.tx 2 (by rw [HEl.out]; omega)
        have HUpn := hid (show upN ⟨false, ES, KS⟩ = ES.getD 2 en0 from rfl)
        obtain ⟨ee, hee⟩ : ∃ ee, ES.getD 2 en0 = ee := ⟨_, rfl⟩
        rw [hee] at hxm hcm HUpn
        generalize xb.getD 2 nilS = tx at hxm hcm
        obtain ⟨bt, ot⟩ := hxm.1.own
        obtain ⟨a3, c3, rfl⟩ := own_sl ot
        obtain ⟨nz3, hnz3⟩ : ∃ nz3, ee.Z.length = nz3 := ⟨_, rfl⟩
        rw [hnz3] at hxm hcm
        have HTx3 := hid hxm
        have k0 : wc.cell? ⟨ga, 10, none⟩ = some (.int .i64 ee.K) := hcm 0 (by omega)
        have k1 : wc.cell? ⟨ga, 11, none⟩ = some (.int .i64 ee.N) := hcm 1 (by omega)
        have k2 : wc.cell? ⟨ga, 12, none⟩ = some (.float .f64 ee.F) := hcm 2 (by omega)
        have k3 : wc.cell? ⟨ga, 13, none⟩ = some (.slice a3 nz3 c3) := hcm 3 (by omega)
        have k4 : wc.cell? ⟨ga, 14, none⟩ = some (.int .i64 ee.id) := hcm 4 (by omega)
        have f1 : wc.cell? ⟨p8, 1, none⟩ = some (.slice (some ⟨ga, 0, none⟩) 5 c1) := qC HS20.out.r8
        have hst3 := fun w a m => run_store Tryz.prog w a (.float .f64 ee.F) m rfl
        have HBA := hid (Below.alloc1 wc (.cells #[.int .i64 ee.K, .int .i64 ee.N, .float .f64 ee.F, .slice a3 nz3 c3, .int .i64 ee.id] 48))
        have HR15 := hid (heap_alloc_new wc (.cells #[.int .i64 ee.K, .int .i64 ee.N, .float .f64 ee.F, .slice a3 nz3 c3, .int .i64 ee.id] 48))
        have HP15 := hid (show v11.heap.size ≤ wc.heap.size from BC.out.size)
        clear hom hxm hcm hee ot hnz3 hen5
        go_upto_region 28 with fail
        clear k0 k1 k2 k3 k4 f1
        have HS21 := hid (HS20.out.below HBA.out)
        replace HR14 := hid ((HBA.out.block p14 (qL HR14.out)).trans HR14.out)
        replace HEm := hid (HEm.out.kn (KN.below HBA.out))
        replace HIk := hid (HIk.out.kn (KN.below HBA.out))
        have HTx := hid (HTx3.out.1.kn (KN.below HBA.out))
        generalize wc.alloc (.cells #[.int .i64 ee.K, .int .i64 ee.N, .float .f64 ee.F, .slice a3 nz3 c3, .int .i64 ee.id] 48) = u2 at *
        generalize wc.heap.size = p15 at *
        clear HBA HS20
        obtain ⟨bb, xb, hen5⟩ := HS21.out.nd.es
        dsimp only at hen5
        have hrd := hen5.rd
        have f1 : u2.cell? ⟨p8, 1, none⟩ = some (.slice (some ⟨ga, 0, none⟩) 5 c1) := qC HS21.out.r8
        clear hen5
        go_wp2_with fail
        clear f1
        refine (spec_entries _ (hrd.take 2) (by rw [List.length_take, HEl.out]; rfl) (by omega) (fun j => by
         by_cases hj : j < 2
         · rw [show (ES.take 2).getD j en0 = ES.getD j en0 by simp [List.getD, hj]]; exact HMe.out j
         · rw [show (ES.take 2).getD j en0 = en0 by simp [List.getD, List.getElem?_take, hj]]; simp [en0])).mono ?_
        rintro r u3 ⟨vl, rfl, ol, bl⟩
        obtain ⟨al, cl, el⟩ := ol.slice
        have hl2 : (ES.take 2).length = 2 := by rw [List.length_take, HEl.out]; rfl
        rw [hl2] at el
        subst el
        obtain ⟨xl, hel⟩ := ol.enr
        have HS22 := hid (HS21.out.below bl)
        replace HR14 := hid ((bl.block p14 (qL HR14.out)).trans HR14.out)
        replace HR15 := hid ((bl.block p15 (qL HR15.out)).trans HR15.out)
        replace HEm := hid (HEm.out.kn (KN.below bl))
        replace HIk := hid (HIk.out.kn (KN.below bl))
        replace HTx := hid (HTx.out.kn (KN.below bl))
        have HShl := hid (Shuns.own hel.own (fun g h => by have := HAl.out g h; have := HS21.out.pos; omega))
        have HS23 := hid (HS22.out.es ⟨_, _, hel⟩ HShl.out)
        have kn9 := KN.set (p := ⟨p8, 1, none⟩) HS22.out.r8 (.inl rfl) (.slice al 2 cl)
        replace HEm := hid (HEm.out.kn kn9)
        replace HIk := hid (HIk.out.kn kn9)
        replace HTx := hid (HTx.out.kn kn9)
        replace HR14 := hid (show (u3.setCell ⟨p8, 1, none⟩ (.slice al 2 cl)).heap[p14]? = _ from (heap_set_ne u3 p8 1 p14 _ (by have := HP14.out; have := HP8.out; omega)).trans HR14.out)
        replace HR15 := hid (show (u3.setCell ⟨p8, 1, none⟩ (.slice al 2 cl)).heap[p15]? = _ from (heap_set_ne u3 p8 1 p15 _ (by have := HP15.out; have := HP8.out; omega)).trans HR15.out)
        have f1 : u3.cell? ⟨p8, 1, none⟩ = some (.slice (some ⟨ga, 0, none⟩) 5 c1) := qC HS22.out.r8
        have g1 : u3.frozen? ⟨p8, 1, none⟩ = false := frozen_of_row _ _ 1 _ _ HS22.out.r8
        clear ol bl hel hrd kn9 HS21 hl2
        go_upto_region 29 with fail
        clear f1 g1 HS22
        generalize u3.setCell ⟨p8, 1, none⟩ (.slice al 2 cl) = u4 at *
        have HBL := hid (Below.alloc1 u4 (.cells #[] 3))
        have HLit := hid (World.ownsRow_lit (base := u4.heap.size) (e := 3) (size := 1) u4 #[] 0 qN (Nat.zero_le _) rfl)
        have HPa := hid (((show InR u4 (.slice (some ⟨gk4, 0, none⟩) 6 c4) KS from HS23.out.nd.ks).part (by have := HKt.out; have := HKd.out; rw [List.length_take] at *; rw [List.length_drop] at *; omega) 3 (by omega) c4 (c4 - 3) (by omega)).1.below HBL.out)
        have HIo := hid (ins_ones (KS.take 3))
        generalize hL3 : ins (KS.take 3) = L3 at *
        obtain ⟨i1, hi1, hy0, hy1, hy2⟩ := info_parts Tryz.infoI
        go_wp2_with (at_builtin; refine wpList_append_row rfl _ _ 59 rfl u4.heap.size 3 i1 (.int .i64 0) 1 8 Tryz.underlying59 hi1 hy0 hy1 hy2 rfl (by decide) _ 0 [] rfl HLit.out (some ⟨gk4, 0, none⟩) 3 c4 L3 rfl HPa.out.1 HPa.out.2.1 HPa.out.2.2 HIo.out (by unfold maxLen; omega) (by omega) HBL.out.size ?_)
        intro a9 c9 u5 o9 g9
        try rw [List.nil_append] at o9
        try simp only [Nat.zero_add] at o9 ⊢
        have HIl := hid (show InR u5 (.slice a9 3 c9) (KS.take 3) from ⟨⟨u4.heap.size, by rw [HKt.out, hL3]; exact o9⟩, bd_take HKb4.out 3⟩)
        have b9 := HBL.out.grown g9 HBL.out.size (fun q hq => (HLit.out.lt q hq).1)
        have HS24 := hid (HS23.out.below b9)
        have kn9 := KN.set (p := ⟨p8, 2, none⟩) HS24.out.r8 (.inl rfl) (.slice a9 3 c9)
        have HS25 := hid (HS24.out.ks HIl.out)
        replace HR14 := hid (show (u5.setCell ⟨p8, 2, none⟩ (.slice a9 3 c9)).heap[p14]? = _ from (heap_set_ne u5 p8 2 p14 _ (by have := HP14.out; have := HP8.out; omega)).trans ((b9.block p14 (qL HR14.out)).trans HR14.out))
        replace HR15 := hid (show (u5.setCell ⟨p8, 2, none⟩ (.slice a9 3 c9)).heap[p15]? = _ from (heap_set_ne u5 p8 2 p15 _ (by have := HP15.out; have := HP8.out; omega)).trans ((b9.block p15 (qL HR15.out)).trans HR15.out))
        replace HEm := hid ((HEm.out.kn (KN.below b9)).kn kn9)
        replace HIk := hid ((HIk.out.kn (KN.below b9)).kn kn9)
        replace HTx := hid ((HTx.out.kn (KN.below b9)).kn kn9)
        have f2 : u5.cell? ⟨p8, 2, none⟩ = some (.slice (some ⟨gk4, 0, none⟩) 6 c4) := qC HS24.out.r8
        have g2 : u5.frozen? ⟨p8, 2, none⟩ = false := frozen_of_row _ _ 2 _ _ HS24.out.r8
        clear o9 g9 b9 kn9 HLit HBL HPa HS23 HIl hi1 hy0 hy1 hy2 hL3 HIo
        go_upto_region 30 with fail
        clear f2 g2 HS24
        generalize u5.setCell ⟨p8, 2, none⟩ (.slice a9 3 c9) = u6 at *
        have HSd := hid (HS25.out.below ((Still.drew u6).below u6.heap.size))
        have hS0 : (fun W => W.cell? ⟨pT, 0, none⟩ = some (.slice (some ⟨G', 0, none⟩) N1 c') ∧ W.cell? ⟨p8, 0, none⟩ = some (.bool false) ∧ W.cell? ⟨p8, 1, none⟩ = some (.slice al 2 cl) ∧ W.cell? ⟨p8, 2, none⟩ = some (.slice a9 3 c9)) u6.drew := ⟨qC HSd.out.tr, by rw [cell_of_row _ _ _ _ _ _ HSd.out.r8]; first | rfl | exact congrArg (fun q => some (Value.bool q)) HLf.out, qC HSd.out.r8, qC HSd.out.r8⟩
        have hlt' : (x : Int) < (N1 : Int) := by exact hx1'
        have hk0 : (0 : Int) ≤ (x : Int) := by omega
        have HBd := hid ((Still.drew u6).below u6.heap.size)
        refine region_K 99 (fun W => W.cell? ⟨pT, 0, none⟩ = some (.slice (some ⟨G', 0, none⟩) N1 c') ∧ W.cell? ⟨p8, 0, none⟩ = some (.bool false) ∧ W.cell? ⟨p8, 1, none⟩ = some (.slice al 2 cl) ∧ W.cell? ⟨p8, 2, none⟩ = some (.slice a9 3 c9)) (by kernel_rfl) hS0 (fun hh => ?_)
        clear hS0
        generalize u6.drew = vd at *
        refine qT 0 rfl hh 166 rfl ?_
        refine qT 1 rfl hh 167 rfl ?_
        refine qT 2 rfl hh 168 rfl ?_
        refine qT 3 rfl hh 169 rfl ?_
        refine qT 4 rfl hh 170 rfl ?_
        refine qT 5 rfl hh 171 rfl ?_
        refine qT 6 rfl hh 172 rfl ?_
        have hown := HSd.out.nsr.own
        rw [HSd.out.len] at hown
        have hcy : ∀ q, q < 3 → ∃ v, vd.cell? ⟨G', x * 3 + q, none⟩ = some v := fun q hq => by
         rw [hown.cellAt (x * 3 + q) (by omega)]
         exact ⟨_, List.getElem?_eq_getElem (by have := hown.1; omega)⟩
        obtain ⟨u0, d0⟩ := hcy 0 (by omega)
        obtain ⟨u1', d1⟩ := hcy 1 (by omega)
        obtain ⟨u2, d2⟩ := hcy 2 (by omega)
        rw [Nat.add_zero] at d0
        have f0 := hown.frozenAt (x * 3)
        have f1 := hown.frozenAt (x * 3 + 1)
        have f2 := hown.frozenAt (x * 3 + 2)
        have HSq := hid (show DS A' w b pT G0 p5 p6 p8 #[.int .i64 K0, .int .i64 N0, .float .f64 F0, .slice ax nz cx, .int .i64 i0] #[.int .i64 0, .int .i64 0, .float .f64 0, .slice none 0 0, .int .i64 0] root G' N1 c' ((r0.1.set x ⟨false, ES, KS⟩).set x ⟨false, ES.take 2, KS.take 3⟩) ((ys'.set x (.slice (some ⟨ga, 0, none⟩) 5 c1, .slice (some ⟨gk4, 0, none⟩) 6 c4)).set x (.slice al 2 cl, .slice a9 3 c9)) (.slice al 2 cl, .slice a9 3 c9) (⟨false, ES.take 2, KS.take 3⟩) (set3 vd G' x false (.slice al 2 cl, .slice a9 3 c9)) from HSd.out.put (x := x) (by omega))
        have hS1 : (fun W => W.cell? ⟨pT, 0, none⟩ = some (.slice (some ⟨G', 0, none⟩) N1 c') ∧ W.cell? ⟨p8, 0, none⟩ = some (.bool false) ∧ W.cell? ⟨p8, 1, none⟩ = some (.slice al 2 cl) ∧ W.cell? ⟨p8, 2, none⟩ = some (.slice a9 3 c9)) (set3 vd G' x false (.slice al 2 cl, .slice a9 3 c9)) := ⟨qC HSq.out.tr, by rw [cell_of_row _ _ _ _ _ _ HSq.out.r8]; first | rfl | exact congrArg (fun q => some (Value.bool q)) HLf.out, qC HSq.out.r8, qC HSq.out.r8⟩
        have HKnu7 := hid (show KN u6 (set3 vd G' x false (.slice al 2 cl, .slice a9 3 c9)) from (KN.below HBd.out).trans ((set3_kept vd G' x false (.slice al 2 cl, .slice a9 3 c9)).mono (fun k _ q => by subst q; obtain ⟨cs, fz, e⟩ := HSd.out.gty; exact ⟨_, _, _, e, .inl rfl⟩)))
        have HKbu7 := hid (show ∀ k, k < u6.heap.size → k ≠ G' → (set3 vd G' x false (.slice al 2 cl, .slice a9 3 c9)).heap[k]? = u6.heap[k]? from fun k hk hne => (set3_heap vd G' x false (.slice al 2 cl, .slice a9 3 c9) hne).trans (HBd.out.block k hk))
        have HKzu7 := hid (show u6.heap.size ≤ (set3 vd G' x false (.slice al 2 cl, .slice a9 3 c9)).heap.size by rw [set3_size]; exact HBd.out.size)
        unfold set3 at hS1 HSq HKnu7 HKbu7 HKzu7
        clear hcy hown
        refine qS 7 rfl fun KP hK => ?_
        go_simp
        refine hK.out _ _ hS1 (fun hh => ?_)
        clear hK KP d0 d1 d2 f0 f1 f2 hS1 hh hlt' hk0
        try simp only [qP]
        refine anyK_done (by kernel_rfl) ?_ _
        clear HSd HBd
        generalize ((vd.setCell ⟨G', x * 3, none⟩ (.bool false)).setCell ⟨G', x * 3 + 1, none⟩ (.slice al 2 cl)).setCell ⟨G', x * 3 + 2, none⟩ (.slice a9 3 c9) = u7 at *
        have HGm := hid (show G' ≠ p14 by have := HGp.out.2.2.2.2; have := HP14.out; omega)
        have HG15 := hid (show G' ≠ p15 by have := HGp.out.2.2.2.2; have := HP15.out; omega)
        have HPm := hid (show p8 < p14 ∧ p14 < u7.heap.size from ⟨by have := HP14.out; have := HP8.out; omega, Nat.lt_of_lt_of_le (qL HR14.out) HKzu7.out⟩)
        have HRm := hid ((HKbu7.out p14 (qL HR14.out) (Ne.symm HGm.out)).trans HR14.out)
        have HRx := hid ((HKbu7.out p15 (qL HR15.out) (Ne.symm HG15.out)).trans HR15.out)
        have HEmA := hid (HEm.out.kn HKnu7.out)
        have HTxA := hid (HTx.out.kn HKnu7.out)
        have HNdm := hid (show NdR u7 (.slice am 2 cm, .slice a7 3 c7) ⟨false, ES.drop 3, KS.drop 3⟩ from ⟨⟨_, _, HEmA.out⟩, HIk.out.kn HKnu7.out⟩)
        have HShm1 := hid (show Shuns A' (.slice am 2 cm) from Shuns.own HEmA.out.own (fun g h => by have := HAl.out g h; have := HP8.out; omega))
        clear HR14 HR15 HEm HIk HTx
        go_wp2_with fail
        have HBd := hid ((Still.drew u7).below u7.heap.size)
        have HSd := hid (HSq.out.below HBd.out)
        have HRd := hid ((HBd.out.block p14 HPm.out.2).trans HRm.out)
        have HNd := hid (HNdm.out.kn (KN.below HBd.out))
        have HLm := hid (show p14 < u7.drew.heap.size from Nat.lt_of_lt_of_le HPm.out.2 HBd.out.size)
        refine region_K 10 (fun W => W.cell? ⟨pT, 0, none⟩ = some (.slice (some ⟨G', 0, none⟩) N1 c') ∧ W.cell? ⟨p14, 0, none⟩ = some (.bool false) ∧ W.cell? ⟨p14, 1, none⟩ = some (.slice am 2 cm) ∧ W.cell? ⟨p14, 2, none⟩ = some (.slice a7 3 c7)) (by kernel_rfl) ⟨qC HSd.out.tr, qC HRd.out, qC HRd.out, qC HRd.out⟩ (fun hh => ?_)
        generalize u7.drew = vd at *
        refine qA 0 rfl hh 173 rfl ?_
        refine qA 1 rfl hh 174 rfl ?_
        refine qA 2 rfl hh 175 rfl ?_
        refine qA 3 rfl hh 176 rfl ?_
        refine qA 4 rfl hh 177 rfl ?_
        refine qA 5 rfl hh 178 rfl ?_
        refine qS 6 rfl fun KP hK => ?_
        go_simp
        have HBA4 := hid (Below.alloc1 vd (.cells #[.bool false, .slice am 2 cm, .slice a7 3 c7] 61))
        have HN4 := hid (heap_alloc_new vd (.cells #[.bool false, .slice am 2 cm, .slice a7 3 c7] 61))
        have HSe := hid (HSd.out.below HBA4.out)
        have HRe := hid ((HBA4.out.block p14 HLm.out).trans HRd.out)
        have HNe := hid (HNd.out.kn (KN.below HBA4.out))
        have HLe := hid (Nat.lt_of_lt_of_le HLm.out HBA4.out.size)
        clear hh
        refine hK.out _ _ ⟨qC HSe.out.tr, qC HRe.out, qC HRe.out, qC HRe.out⟩ (fun hh => ?_)
        clear hK KP
        try simp only [qP]
        have HBe := hid (show Below u7.heap.size u7 (vd.alloc (.cells #[.bool false, .slice am 2 cm, .slice a7 3 c7] 61)) from HBd.out.trans (HBA4.out.mono HBd.out.size))
        generalize vd.alloc (.cells #[.bool false, .slice am 2 cm, .slice a7 3 c7] 61) = w4 at *
        have oR := HSe.out.nsr.own
        rw [HSe.out.len] at oR
        have hgne := HSe.out.gne
        obtain ⟨i1, hi1, hz0, hz1, hz2⟩ := info_parts Tryz.infoNd11
        have hbw : b ≤ w4.heap.size := by have := HSe.out.pos; omega
        have hN7 := HNb.out
        refine qS 7 rfl fun KP hK => ?_
        refine step_append11 rfl _ _ 31 rfl b 61 i1 (.agg #[.bool false, .slice none 0 0, .slice none 0 0]) 3 56 Tryz.underlying31 hi1 hz0 hz1 hz2 rfl (by decide) _ N1 _ rfl oR ⟨vd.heap.size, 0, none⟩ 1 1 [.bool false, .slice am 2 cm, .slice a7 3 c7] rfl rfl (World.news_of_block HN4.out) ?g3u8 (by unfold maxLen; omega) (by omega) hbw ?_
        case g3u8 => intro u hu; simp only [List.mem_cons, List.not_mem_nil, or_false] at hu; rcases hu with rfl | rfl | rfl <;> rfl
        intro a8 c8 w8 o8 g8 hh8
        obtain ⟨G1, ea8, hG8, hs9⟩ := HSe.out.app HNe.out HShm1.out o8 g8 hh8
        subst ea8
        have HSr := hid hs9
        have t8 : w8.heap[pT]? = some (.cells #[.slice (some ⟨G', 0, none⟩) N1 c', .int .i64 root] 33) := (g8.block pT (qL HSe.out.tr) (fun q => hgne.2.2.2.1 (by first | exact Option.some.inj q | exact (Option.some.inj q).symm))).trans HSe.out.tr
        have r8 := (g8.block p14 HLe.out (fun q => HGm.out (by first | exact Option.some.inj q | exact (Option.some.inj q).symm))).trans HRe.out
        have HKnu8 := hid (show KN u7 (w8.setCell ⟨pT, 0, none⟩ (.slice (some ⟨G1, 0, none⟩) (N1 + 1) c8)) from ((KN.below HBe.out).trans (KN.grown g8 (fun k q => by obtain rfl := Option.some.inj q; obtain ⟨cs, fz, e⟩ := HSe.out.gty; exact ⟨_, _, _, e, .inl rfl⟩))).trans (KN.set (p := ⟨pT, 0, none⟩) t8 (.inr rfl) _))
        have HRmu8 := hid (show (w8.setCell ⟨pT, 0, none⟩ (.slice (some ⟨G1, 0, none⟩) (N1 + 1) c8)).heap[p14]? = _ from (heap_set_ne w8 pT 0 p14 _ (by have := HPm.out; have := HSe.out.pos; omega)).trans r8)
        have HRxu8 := hid (show (w8.setCell ⟨pT, 0, none⟩ (.slice (some ⟨G1, 0, none⟩) (N1 + 1) c8)).heap[p15]? = _ from (heap_set_ne w8 pT 0 p15 _ (by have := HP15.out; have := HSe.out.pos; have := HP8.out; omega)).trans ((g8.block p15 (Nat.lt_of_lt_of_le (qL HRx.out) HBe.out.size) (fun q => HG15.out (by first | exact Option.some.inj q | exact (Option.some.inj q).symm))).trans ((HBe.out.block p15 (qL HRx.out)).trans HRx.out)))
        have HKzu8 := hid (show u7.heap.size ≤ (w8.setCell ⟨pT, 0, none⟩ (.slice (some ⟨G1, 0, none⟩) (N1 + 1) c8)).heap.size by rw [set_size]; exact Nat.le_trans HBe.out.size g8.size)
        have kc := (show w8.cell? ⟨pT, 0, none⟩ = some (.slice (some ⟨G', 0, none⟩) N1 c') from by rw [cell_of_row _ _ _ _ _ _ t8]; rfl)
        have kf := frozen_of_row _ _ 0 _ _ t8
        clear o8 g8 hh8 hs9 oR hh
        refine hK.out _ _ ⟨kc, qC r8, qC r8, qC r8⟩ (fun hh => ?_)
        clear hK KP r8 t8
        try simp only [qP]
        have HSw := hid hh
        refine qS 8 rfl fun KP hK => ?_
        go_simp
        clear hh
        refine hK.out _ _ HSw.out (fun hh => ?_)
        clear hK KP HSw
        try simp only [qP]
        refine qA 9 rfl hh 182 rfl ?_
        obtain ⟨N2, hN2⟩ : ∃ N2, N1 + 1 = N2 := ⟨_, rfl⟩
        rw [hN2] at HSr HKnu8 HRmu8 HRxu8 HKzu8
        simp only [hN2]
        have HN2 := hid hN2
        clear hN2
        refine anyK_last (by kernel_rfl) rfl (fun KP hK => ?_)
        go_simp
        refine hK.out _ _ ?_
        clear hK KP hh kc kf
        try simp only [qP]
        refine anyK_done (by kernel_rfl) ?_ _
        clear HSd HRd HNd HLm HSe HRe HNe HLe HBe HBd HBA4 HN4 hgne hbw hN7 hi1 hz0 hz1 hz2
        generalize w8.setCell ⟨pT, 0, none⟩ (.slice (some ⟨G1, 0, none⟩) N2 c8) = u8 at *
        have HTxB := hid (HTxA.out.kn HKnu8.out)
        clear HNdm HRm HEmA HTxA HRx HRmu8
        have hw1 : IntKind.i64.wrap ((N2 : Int) - 1) = (N1 : Int) := by
         have := HN2.out; have := HNb.out
         rw [show (N2 : Int) - 1 = (N1 : Int) by omega]; simp [IntKind.wrap, IntKind.bits, IntKind.signed]; omega
        go_wp2_with fail
        have HBd := hid ((Still.drew u8).below u8.heap.size)
        have HSt := hid (HSr.out.below HBd.out)
        have HTx4 := hid (HTxB.out.kn (KN.below HBd.out))
        have HRd := hid ((HBd.out.block p15 (qL HRxu8.out)).trans HRxu8.out)
        refine region_K 99 (fun W => W.cell? ⟨p15, 0, none⟩ = some (.int .i64 ee.K) ∧ W.cell? ⟨p15, 1, none⟩ = some (.int .i64 ee.N) ∧ W.cell? ⟨p15, 2, none⟩ = some (.float .f64 ee.F) ∧ W.cell? ⟨p15, 3, none⟩ = some (.slice a3 nz3 c3) ∧ W.cell? ⟨p15, 4, none⟩ = some (.int .i64 ee.id) ∧ W.cell? ⟨pT, 0, none⟩ = some (.slice (some ⟨G1, 0, none⟩) N2 c8)) (by kernel_rfl) ⟨qC HRd.out, qC HRd.out, qC HRd.out, qC HRd.out, qC HRd.out, qC HSt.out.tr⟩ (fun hh => ?_)
        generalize u8.drew = vd at *
        refine qT 0 rfl hh 183 rfl ?_
        refine qT 1 rfl hh 184 rfl ?_
        refine qT 2 rfl hh 185 rfl ?_
        refine qT 3 rfl hh 186 rfl ?_
        refine qT 4 rfl hh 187 rfl ?_
        refine qT 5 rfl hh 188 rfl ?_
        refine qT 6 rfl hh 189 rfl ?_
        have HC6 := HSt.out.r6
        have g6 := row_grown11 vd p6 #[.int .i64 ee.K, .int .i64 ee.N, .float .f64 ee.F, .slice a3 nz3 c3, .int .i64 ee.id]
        have hS9 : (fun W => W.cell? ⟨p15, 0, none⟩ = some (.int .i64 ee.K) ∧ W.cell? ⟨p15, 1, none⟩ = some (.int .i64 ee.N) ∧ W.cell? ⟨p15, 2, none⟩ = some (.float .f64 ee.F) ∧ W.cell? ⟨p15, 3, none⟩ = some (.slice a3 nz3 c3) ∧ W.cell? ⟨p15, 4, none⟩ = some (.int .i64 ee.id) ∧ W.cell? ⟨pT, 0, none⟩ = some (.slice (some ⟨G1, 0, none⟩) N2 c8)) (vd.setRow p6 #[.int .i64 ee.K, .int .i64 ee.N, .float .f64 ee.F, .slice a3 nz3 c3, .int .i64 ee.id]) := by
         have c := fun {k j : Nat} {v : Value} (hne : k ≠ p6) (e : vd.cell? ⟨k, j, none⟩ = some v) => (World.cell?_of_block (w := vd) (a := ⟨k, j, none⟩) (g6.block k (World.block_lt_of_cell? vd _ e) (fun q => hne (by first | exact Option.some.inj q | exact (Option.some.inj q).symm)))).trans e
         have h := hh
         have hp := HP8.out
         have hm := HP15.out
         exact ⟨c (by omega) h.1, c (by omega) h.2.1, c (by omega) h.2.2.1, c (by omega) h.2.2.2.1, c (by omega) h.2.2.2.2.1, c (by omega) h.2.2.2.2.2⟩
        refine qS 7 rfl fun KP hK => ?_
        refine wp_store_row 48 (.tmp 6) (.tmp 183) rfl p6 #[.int .i64 ee.K, .int .i64 ee.N, .float .f64 ee.F, .slice a3 nz3 c3, .int .i64 ee.id] rfl rfl 48 _ HC6 size_en11 rfl (by simp [Value.oneCell']) ?_
        clear hh
        refine hK.out _ _ hS9 (fun hh => ?_)
        clear hK KP hS9 g6
        try simp only [qP]
        refine qT 8 rfl hh 7 rfl ?_
        clear hh
        refine anyK_done (by kernel_rfl) ?_ _
        go_wp2_with fail
        refine bodyPost_ret (results_cell_tmp11 Tryz.results23 _ _ p6 48 #[.int .i64 ee.K, .int .i64 ee.N, .float .f64 ee.F, .slice a3 nz3 c3, .int .i64 ee.id] (0, 0) _ rfl (setRow_heap _ _ _ _ _ _ HC6) Tryz.underlying48 rfl size_en11) rfl ?_
        rw [← HRes.out, HTk.out, show layN r0.1 (x : Int) ⟨false, ES, KS⟩ = (((r0.1.set x ⟨false, ES, KS⟩).set x ⟨false, ES.take 2, KS.take 3⟩) ++ [⟨false, ES.drop 3, KS.drop 3⟩], some (ee, (N1 : Int))) by
         unfold layN
         rw [if_neg (by rw [HEl.out]; omega), HUpn.out, HN1e.out, Int.toNat_natCast, List.set_set]
         rfl]
        exact HSt.out.down HA6.out HAw.out _ (fun h => by cases h) (fun up k h => by cases h; exact ⟨a3, nz3, c3, rfl, HTx4.out, HTx3.out.2⟩)
end Go.Proofs.YtlkoghdajpbffaaGreat
