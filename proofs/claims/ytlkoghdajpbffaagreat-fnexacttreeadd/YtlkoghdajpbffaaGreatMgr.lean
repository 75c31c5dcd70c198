/- Texts of this proof in one: Nj11 Oa11 Oc11. -/
import Derived.Test.YtlkoghdajpbffaaGreatMgq
import Derived.Test.YtlkoghdajpbffaaGreatMgp
/- Linked nodes as they stand, and behind one leaf's list changed. No statement of its own; no conditions. -/

namespace Go.Proofs.YtlkoghdajpbffaaGreat
open Go.RowKit
set_option maxRecDepth 100000
section
variable {tb : List (Option Addr)} {w0 w : World} {ns : List Nd} {lo hi : Nat}
theorem LkT.pos : ∀ (f : Nat) (x : Int) (g : Nat), LkT tb w0 w ns lo hi f x g → ∀ y ∈ posL ns f x, ∃ f' g', LkT tb w0 w ns lo hi (f' + 1) y g'
 | 0, _, _, h, _, _ => h.elim
 | f + 1, x, g, h, y, hy => by
  rcases pos_kid hy with e | ⟨i, hi', hy'⟩
  · exact ⟨f, g, e ▸ h⟩
  · obtain ⟨_, _, _, _, _, _, _, gs, _, _, _, hl, _, hk⟩ := h
    exact LkT.pos f _ _ (hk i (by omega)) y hy'
theorem LkT.told {f : Nat} {x : Int} {g : Nat} (h : LkT tb w0 w ns lo hi (f + 1) x g) : tb.getD x.toNat none = some ⟨g, 0, none⟩ ∧ lo ≤ g ∧ g < hi ∧ formOk (ns.getD x.toNat nd0) = true := by
 obtain ⟨h0, h1, h2, h3, _⟩ := h
 exact ⟨h0, h1, h2, h3⟩
end
end Go.Proofs.YtlkoghdajpbffaaGreat
/- The program's TreeDrop. Conditions: texts of at most 2^21 bytes. -/

namespace Go.Proofs.YtlkoghdajpbffaaGreat
open Go.RowKit
set_option maxRecDepth 100000
theorem results_cell_tmp11 {P : Program} {fn : Func} {p q : Tmp} {ty : TypeId} (h : fn.results = #[.cell p ty, .tmp q]) (tmps : Array Value) (w : World) (g : Nat) (t : TypeId) (cs : Array Value) (fr : Nat × Nat) (d : TypeDesc)
 (hp : tmps.getD p undef = .pointer (some ⟨g, 0, none⟩)) (hg : w.heap[g]? = some (.cells cs t fr))
 (hu : P.underlying ty = some d) (hd : (match d with | .struct _ | .array _ _ => true | _ => false) = true) (hi : (P.info? ty).map (·.size) = some cs.size) :
 (results fn tmps).run P w = .ok (.tuple #[.agg cs, tmps.getD q undef]) w := by
 have hp' : tmps[p]?.getD undef = .pointer (some ⟨g, 0, none⟩) := by simpa using hp
 simp [results, h, hp', asAddr, run_loadVar_row w g t ty cs fr d hg hu hd hi]
theorem size_st11 : (Tryz.prog.info? 72).map (·.size) = some 2 := by kernel_rfl
theorem three11 (w : World) (a b c : Obj) : ((w.alloc a).alloc b |>.alloc c).heap[w.heap.size]? = some a ∧ ((w.alloc a).alloc b |>.alloc c).heap[w.heap.size + 1]? = some b ∧ ((w.alloc a).alloc b |>.alloc c).heap[w.heap.size + 1 + 1]? = some c ∧ ((w.alloc a).alloc b |>.alloc c).heap.size = w.heap.size + 3 ∧ Below w.heap.size w ((w.alloc a).alloc b |>.alloc c) := by
 obtain ⟨h1, h2, h3⟩ := two_rows11 w a b
 have hb := two w a b
 have hc := Below.alloc1 ((w.alloc a).alloc b) c
 have hn := heap_alloc_new ((w.alloc a).alloc b) c
 have hz := alloc_size ((w.alloc a).alloc b) c
 rw [h3] at hn
 exact ⟨(hc.block _ (by omega)).trans h1, (hc.block _ (by omega)).trans h2, hn, by omega, hb.trans (hc.mono hb.size)⟩
theorem treeIs_len {ns : List Nd} {root : Int} (h : treeIs ns root = true) : ns.length ≤ 300 := by
 unfold treeIs at h
 rw [Bool.and_eq_true] at h
 exact (of_decide_eq_true h.1).2
theorem isAt_null {ns : List Nd} {root : Int} {q : En} (h : treeIs ns root = true) (hq : entOk q = true) : isAt ns root q = (decide (0 < upsB (ns.getD (leafW ns (ns.length + 1) root q).toNat nd0).es q) && nullE ((ns.getD (leafW ns (ns.length + 1) root q).toNat nd0).es.getD (upsB (ns.getD (leafW ns (ns.length + 1) root q).toNat nd0).es q - 1) en0) q) := by
 obtain ⟨hg, -, -⟩ := treeIs_parts h
 obtain ⟨-, -, l3, l4⟩ := leafW_pos ns q _ _ hg
 obtain ⟨lo, hi, hn⟩ := node_ok h (i := (leafW ns (ns.length + 1) root q).toNat) (by omega)
 have hle := upsB_le (ns.getD (leafW ns (ns.length + 1) root q).toNat nd0).es q
 unfold isAt
 dsimp only
 by_cases h0 : 0 < upsB (ns.getD (leafW ns (ns.length + 1) root q).toNat nd0).es q
 · rw [decide_eq_true h0, Bool.true_and, Bool.true_and, null_off (ento_at hn (by omega)).1 hq]
 · rw [decide_eq_false h0, Bool.false_and, Bool.false_and]
theorem form_small {d : Nd} (h : formOk d = true) : d.es.length ≤ 4 ∧ d.ks.length ≤ 5 := by
 cases hl : d.leaf with
 | true => have := form_leaf h hl; omega
 | false => have := form_kids h hl; omega
end Go.Proofs.YtlkoghdajpbffaaGreat
/- The specification's copy of a tree. Conditions: at most 300 nodes, each of at most four entries and five kids, texts of at most 2^21 bytes. -/


namespace Go.Proofs.YtlkoghdajpbffaaGreat
open Go.RowKit
set_option maxRecDepth 100000
theorem NsR.lower {w : World} {b b' : Nat} {v : Value} {ds : List Nd} {ys : List (Value × Value)} (h : NsR w b v ds ys) (hb : b' ≤ b) : NsR w b' v ds ys := ⟨h.len, owns_lower h.own hb, h.nd⟩
theorem NsR.nil (w : World) (b : Nat) : NsR w b (.slice none 0 0) [] [] := ⟨rfl, World.ownsRow_nil _ _ _ _, fun i hi => by cases hi⟩
theorem NsR.tree {w : World} {b : Nat} {v : Value} {ds : List Nd} {ys : List (Value × Value)} (h : NsR w b v ds ys) {p j : Nat} {cs : Array Value} {fz : Nat × Nat} (hp : w.heap[p]? = some (.cells cs 33 fz)) (u : Value) : NsR (w.setCell ⟨p, j, none⟩ u) b v ds ys := by
 refine ⟨h.len, ⟨h.own.1, ?_⟩, fun i hi => (h.nd i hi).kn (KN.set (p := ⟨p, j, none⟩) hp (.inr rfl) u)⟩
 rcases h.own.2 with hn | ⟨g, cap, cur, rfl, hb, hg, rest⟩
 · exact .inl hn
 · have hne : g ≠ p := fun e => by
    subst e
    rw [hg] at hp
    simp only [Option.some.injEq, Obj.cells.injEq] at hp
    exact absurd hp.2.1 (by decide)
   exact .inr ⟨g, cap, cur, rfl, hb, (heap_set_ne w p j g u hne).trans hg, rest⟩
def KapD (w : World) (ad : Option Addr) (N : Nat) : Prop := ∀ (k : Nat), k < N → ∀ {b off n c : Nat} {a : Option Addr}, ad = some ⟨b, off, none⟩ → w.cell? ⟨b, off + k * 3 + 2, none⟩ = some (.slice a n c) → a = none → c = 0
structure CpS (w : World) (p1 r0 pB lo N cap : Nat) (ad : Option Addr) (root : Int) (ds : List Nd) (v : Value) (ys : List (Value × Value)) (wx : World) : Prop where
 arg : wx.heap[p1]? = some (.cells #[.slice ad N cap, .int .i64 root] 33)
 res : wx.heap[r0]? = some (.cells #[.slice none 0 0, .int .i64 0] 33)
 box : wx.heap[pB]? = some (.cells #[v, .int .i64 root] 33 (0, 0))
 nsr : NsR wx lo v ds ys
 bel : Below w.heap.size w wx
 pos : w.heap.size ≤ p1 ∧ p1 < r0 ∧ r0 < pB ∧ pB < lo ∧ lo ≤ wx.heap.size
set_option maxHeartbeats 12800000 in
theorem spec_l11copy {ad : Option Addr} {N : Nat} (cap : Nat) (root : Int) {ns : List Nd} {w : World} (hR : ReadsD w ad ns) (hns : ns.length = N) (hN : N ≤ 300) (hes : ∀ i, (ns.getD i nd0).es.length ≤ 4) (hks : ∀ i, (ns.getD i nd0).ks.length ≤ 5) (hm : ∀ i j, ((ns.getD i nd0).es.getD j en0).Z.length ≤ 2097152) (hkap : KapD w ad N) :
 Calls Tryz.prog 22 #[.agg #[.slice ad N cap, .int .i64 root]] w fun e w' => ∃ a c ys, e = .returned (.agg #[.slice a N c, .int .i64 root]) ∧ NsR w' w.heap.size (.slice a N c) ns ys ∧ Below w.heap.size w w' := by
 have HRR := hid (three11 w (.cells #[.slice ad N cap, .int .i64 root] 33) (.cells #[.slice none 0 0, .int .i64 0] 33) (.cells #[.slice none 0 0, .int .i64 root] 33))
 have HR := hid hR
 have HNs := hid hns
 have HEs := hid hes
 have HKs := hid hks
 have HM := hid hm
 have HKp := hid hkap
 have HTw := hid (two w (.cells #[.slice ad N cap, .int .i64 root] 33) (.cells #[.slice none 0 0, .int .i64 0] 33))
 have HR1 := hid (two_rows11 w (.cells #[.slice ad N cap, .int .i64 root] 33) (.cells #[.slice none 0 0, .int .i64 0] 33))
 clear hR hns hes hks hm hkap
 go_enter Tryz.func22, Tryz.ntmps22
 have c1 : ((w.alloc (.cells #[.slice ad N cap, .int .i64 root] 33)).alloc (.cells #[.slice none 0 0, .int .i64 0] 33)).cell? ⟨w.heap.size, 1, none⟩ = some (.int .i64 root) := qC HR1.out.1
 go_upto_region 2 with fail
 clear c1 HTw HR1
 generalize (((w.alloc (.cells #[.slice ad N cap, .int .i64 root] 33)).alloc (.cells #[.slice none 0 0, .int .i64 0] 33)).alloc (.cells #[.slice none 0 0, .int .i64 root] 33)) = U at *
 obtain ⟨pB, hpB⟩ : ∃ pB, w.heap.size + 1 + 1 = pB := ⟨_, rfl⟩
 obtain ⟨r0, hr0⟩ : ∃ r0, w.heap.size + 1 = r0 := ⟨_, rfl⟩
 obtain ⟨p1, hp1⟩ : ∃ p1, w.heap.size = p1 := ⟨_, rfl⟩
 have hRR := HRR.out
 rw [hpB, hr0, hp1] at hRR
 obtain ⟨r1, r2, r3, hzU, hbU⟩ := hRR
 obtain ⟨lo, hlo⟩ : ∃ lo, U.heap.size = lo := ⟨_, rfl⟩
 have HS := hid (show CpS w p1 r0 pB lo N cap ad root (ns.take 0) (.slice none 0 0) [] U from ⟨r1, r2, r3, by rw [List.take_zero]; exact NsR.nil _ _, by rw [hp1]; exact hbU, by omega⟩)
 try simp only [hpB]
 try simp only [hr0]
 try simp only [hp1]
 clear hpB hr0 hp1 r1 r2 r3 hzU hbU hlo HRR
 go_wp2_with fail
 go_loopw [4] (fun s wr => ∃ (k : Nat) (v : Value) (ys : List (Value × Value)), k ≤ N ∧ s = .int .i64 k ∧ Hid (CpS w p1 r0 pB lo N cap ad root (ns.take k) v ys wr)) (fun s _ => N - (intOf s).toNat)
 case atStart => exact ⟨0, _, _, Nat.zero_le _, rfl, HS⟩
 case round =>
  clear HS
  obtain ⟨k, v, ys, hk, rfl, HS⟩ := hrel
  have c0 : wr.cell? ⟨p1, 0, none⟩ = some (.slice ad N cap) := qC HS.out.arg
  by_cases hlt : k < N
  · have hlt' : (k : Int) < (N : Int) := by omega
    have hk0 : (0 : Int) ≤ (k : Int) := by omega
    have hkl : k < ns.length := by have := HNs.out; omega
    obtain ⟨b, off, ae, ce, ak, ck, rfl, n0, n1, n2, re, _, ri, _⟩ := HR.out.at hkl
    have hnil := HKp.out k hlt rfl n2
    have hle := HEs.out k
    have hlk := HKs.out k
    have HMk := hid (HM.out k)
    have HT := hid (take_snoc ns k nd0 hkl)
    have cw : ∀ {p : Addr} {v : Value}, w.cell? p = some v → wr.cell? p = some v := fun e => (HS.out.bel.cell (World.block_lt_of_cell? w _ e)).trans e
    have c5 := cw n0
    have c6 := cw n1
    have c7 := cw n2
    have HRe := hid re
    have HRi := hid ri
    generalize ns.getD k nd0 = d at *
    obtain ⟨n, hn⟩ : ∃ n, d.es.length = n := ⟨_, rfl⟩
    obtain ⟨m, hmm⟩ : ∃ m, d.ks.length = m := ⟨_, rfl⟩
    rw [hn] at c6 hle
    rw [hmm] at c7 hlk HRi
    have HNn := hid hn
    have HNm := hid hmm
    have HNil := hid hnil
    have hkl2 : (ns.take k).length = k := by rw [List.length_take]; omega
    have HL2 := hid hkl2
    obtain ⟨av, cv, hv⟩ := own_sl HS.out.nsr.own
    rw [hkl2] at hv
    subst hv
    have HB5 := hid (Below.alloc1 wr (.cells #[.bool d.leaf, .slice ae n ce, .slice ak m ck] 61))
    have HR5 := hid (heap_alloc_new wr (.cells #[.bool d.leaf, .slice ae n ce, .slice ak m ck] 61))
    have HZ5 := hid (alloc_size wr (.cells #[.bool d.leaf, .slice ae n ce, .slice ak m ck] 61))
    have HSz := hid HS.out.bel.size
    clear cw n0 n1 n2 re ri hn hmm hnil hkl hkl2
    go_wp2_with fail
    clear c0 c5 c6 c7
    generalize wr.alloc (.cells #[.bool d.leaf, .slice ae n ce, .slice ak m ck] 61) = W1 at *
    obtain ⟨p5, hp5⟩ : ∃ p5, wr.heap.size = p5 := ⟨_, rfl⟩
    have HP5 := hid hp5
    rw [hp5] at HR5 HZ5
    try simp only [hp5]
    clear hp5
    have HKq := hid (show ∀ W, Below W1.heap.size W1 W → (fun W => W.cell? ⟨pB, 0, none⟩ = some (.slice av k cv) ∧ W.cell? ⟨p5, 0, none⟩ = some (.bool d.leaf) ∧ W.cell? ⟨p5, 1, none⟩ = some (.slice ae n ce) ∧ W.cell? ⟨p5, 2, none⟩ = some (.slice ak m ck)) W from fun W bb => by
     have h5 := HP5.out
     have hpo := HS.out.pos
     have r5 := (bb.block p5 (by have := HZ5.out; omega)).trans HR5.out
     have rB := ((HB5.out.trans (bb.mono HB5.out.size)).block pB (by omega)).trans HS.out.box
     exact ⟨qC rB, qC r5, qC r5, qC r5⟩)
    have BC := hid (show Below W1.heap.size W1 W1.drew from (Still.drew W1).below _)
    refine region_K 15 (fun W => W.cell? ⟨pB, 0, none⟩ = some (.slice av k cv) ∧ W.cell? ⟨p5, 0, none⟩ = some (.bool d.leaf) ∧ W.cell? ⟨p5, 1, none⟩ = some (.slice ae n ce) ∧ W.cell? ⟨p5, 2, none⟩ = some (.slice ak m ck)) (by kernel_rfl) (HKq.out _ BC.out) (fun hh => ?_)
    generalize W1.drew = vd at *
    refine qA 0 rfl hh 21 rfl ?_
    refine qA 1 rfl hh 22 rfl ?_
    refine qA 2 rfl hh 23 rfl ?_
    refine qA 3 rfl hh 24 rfl ?_
    refine qA 4 rfl hh 25 rfl ?_
    refine qA 5 rfl hh 26 rfl ?_
    refine qA 8 rfl hh 29 rfl ?_
    refine qA 9 rfl hh 30 rfl ?_
    refine anyK_two (i := 6) (j := 7) (by kernel_rfl) rfl rfl (fun KP hK => ?_) (fun KP hK => ?_)
    · go_simp
      have HBw1 := hid (HS.out.bel.trans ((HB5.out.trans (BC.out.mono HB5.out.size)).mono HS.out.bel.size))
      refine (spec_entries ce (HRe.out.below HBw1.out qN) HNn.out (by omega) HMk.out).mono ?_
      rintro e v1 ⟨y, rfl, oe, b1⟩
      obtain ⟨ay, cy, ey⟩ := oe.slice
      rw [HNn.out] at ey
      subst ey
      replace BC := hid (BC.out.trans (b1.mono BC.out.size))
      have HOE1 := hid oe
      clear oe b1 hh HBw1
      go_wp2_with fail
      refine hK.out _ _ (HKq.out _ BC.out) (fun hh => ?_)
      clear hK KP
      try simp only [qP]
      refine qS 7 rfl fun KP hK => ?_
      go_simp
      have HBL := hid (Below.alloc1 v1 (.cells #[] 3))
      have HLit := hid (World.ownsRow_lit (base := W1.heap.size) (e := 3) (size := 1) v1 #[] 0 BC.out.size (Nat.zero_le _) rfl)
      have HOE := hid (HOE1.out.below HBL.out qN)
      have BCv := hid (BC.out.trans (HBL.out.mono BC.out.size))
      clear hh HOE1
      refine hK.out _ _ (HKq.out _ BCv.out) (fun hh => ?_)
      clear hK KP
      try simp only [qP]
      generalize v1.alloc (.cells #[] 3) = v2 at *
      generalize v1.heap.size = gl at *
      clear HBL
      obtain ⟨i1, hi1, hy0, hy1, hy2⟩ := info_parts Tryz.infoI
      have HBw2 := hid (HS.out.bel.trans ((HB5.out.trans (BCv.out.mono HB5.out.size)).mono HS.out.bel.size))
      have hRi2 := HRi.out.below HBw2.out qN
      refine qS 10 rfl fun KP hK => ?_
      refine step_append_row rfl _ _ 59 rfl W1.heap.size 3 i1 (.int .i64 0) 1 8 Tryz.underlying59 hi1 hy0 hy1 hy2 rfl (by decide) (.slice (some ⟨gl, 0, none⟩) 0 0) 0 [] rfl HLit.out ak m ck (ins d.ks) rfl (by rw [ins_length, HNm.out, Nat.mul_one]) ?n1gl ?n2gl (ins_one _) (by unfold maxLen; omega) (by omega) BCv.out.size ?_
      case n1gl =>
       rcases hRi2.cells with h0 | ⟨b', o', e', hc⟩
       · cases hak : ak with
         | none => exact .inl ⟨rfl, HNil.out hak⟩
         | some p => exact .inr ⟨p, rfl, fun j u hu => by have := (List.getElem?_eq_some_iff.1 hu).1; rw [ins_length, HNm.out] at this; omega⟩
       · subst e'
         refine .inr ⟨_, rfl, fun j u hu => ?_⟩
         have hj := (List.getElem?_eq_some_iff.1 hu).1
         rw [ins_length, HNm.out] at hj
         rw [Addr.add_lit, hc j hj]
         rw [← hu, show (ins d.ks)[j]? = some (.int .i64 (d.ks.getD j 0)) by
          have hj2 : j < d.ks.length := by have := HNm.out; omega
          simp [ins, List.getD, hj2]]
      case n2gl =>
       intro e
       rcases hRi2.cells with h0 | ⟨b', o', e', hc⟩
       · exact h0
       · rw [e] at e'; cases e'
      intro a3 c3 w3 o3 g3
      rw [Nat.zero_add, List.nil_append] at o3
      rw [Nat.zero_add]
      have HOE3 := hid (HOE.out.aside HLit.out (by decide) (by decide) g3)
      have HB3 := hid (BCv.out.grown g3 BCv.out.size (fun q hq => (HLit.out.lt q hq).1))
      have HI3 := hid (show InR w3 (.slice a3 m c3) d.ks from ⟨⟨_, by rw [HNm.out]; exact o3⟩, HRi.out.bd⟩)
      clear o3 g3 hRi2 HOE HLit hh
      refine hK.out _ _ (HKq.out _ HB3.out) (fun hh => ?_)
      clear hK KP
      try simp only [qP]
      obtain ⟨xs, hen⟩ := HOE3.out.enr
      have HN3 := hid (show NdR w3 (.slice ay n cy, .slice a3 m c3) d from ⟨⟨_, xs, hen⟩, HI3.out⟩)
      clear hen
      refine qS 11 rfl fun KP hK => ?_
      go_simp
      clear hh
      refine hK.out _ _ (HKq.out _ HB3.out) (fun hh => ?_)
      clear hK KP
      try simp only [qP]
      refine qS 12 rfl fun KP hK => ?_
      go_simp
      have HBA4 := hid (Below.alloc1 w3 (.cells #[.bool d.leaf, .slice ay n cy, .slice a3 m c3] 61))
      have HN4 := hid (heap_alloc_new w3 (.cells #[.bool d.leaf, .slice ay n cy, .slice a3 m c3] 61))
      have HB4 := hid (HB3.out.trans (HBA4.out.mono HB3.out.size))
      clear hh
      refine hK.out _ _ (HKq.out _ HB4.out) (fun hh => ?_)
      clear hK KP
      try simp only [qP]
      generalize w3.alloc (.cells #[.bool d.leaf, .slice ay n cy, .slice a3 m c3] 61) = w4 at *
      have HBr4 := hid (show Below wr.heap.size wr w4 from HB5.out.trans (HB4.out.mono HB5.out.size))
      have HNs4 := hid (HS.out.nsr.below HBr4.out)
      have HNd4 := hid (HN3.out.kn (KN.below HBA4.out))
      have oR := HNs4.out.own
      rw [HL2.out] at oR
      have HRow := hid oR
      clear oR
      obtain ⟨i0, hi0, hz0, hz1, hz2⟩ := info_parts Tryz.infoNd11
      have hls := HS.out.pos.2.2.2.2
      have hls2 := HBr4.out.size
      refine qS 13 rfl fun KP hK => ?_
      refine step_append11 rfl _ _ 31 rfl lo 61 i0 (.agg #[.bool false, .slice none 0 0, .slice none 0 0]) 3 56 Tryz.underlying31 hi0 hz0 hz1 hz2 rfl (by decide) _ k _ rfl HRow.out ⟨w3.heap.size, 0, none⟩ 1 1 [.bool d.leaf, .slice ay n cy, .slice a3 m c3] rfl rfl (World.news_of_block HN4.out) ?g3gl (by unfold maxLen; omega) (by omega) (by omega) ?_
      case g3gl => intro u hu; simp only [List.mem_cons, List.not_mem_nil, or_false] at hu; rcases hu with rfl | rfl | rfl <;> rfl
      intro a8 c8 w8 o8 g8 _
      have hpo := HS.out.pos
      have hne : ∀ p, p < lo → (Value.slice av k cv).ownBlock ≠ some p := fun p hp e => by have := (HRow.out.lt p e).1; omega
      have HNs8 := hid (show NsR w8 lo (.slice a8 (k + 1) c8) (ns.take (k + 1)) (ys ++ [(.slice ay n cy, .slice a3 m c3)]) from by
       rw [HT.out]
       exact HNs4.out.push HNd4.out (by rw [HL2.out]; exact o8) g8)
      have HBx8 := hid (show w8.heap[pB]? = some (.cells #[.slice av k cv, .int .i64 root] 33 (0, 0)) from (g8.block pB (by omega) (fun e => hne pB (by omega) e.symm)).trans ((HBr4.out.block pB (by omega)).trans HS.out.box))
      have HR18 := hid ((g8.block p1 (by omega) (fun e => hne p1 (by omega) e.symm)).trans ((HBr4.out.block p1 (by omega)).trans HS.out.arg))
      have HRs8 := hid ((g8.block r0 (by omega) (fun e => hne r0 (by omega) e.symm)).trans ((HBr4.out.block r0 (by omega)).trans HS.out.res))
      have HBb8 := hid ((HS.out.bel.trans (HBr4.out.mono HS.out.bel.size)).grown g8 (HS.out.bel.trans (HBr4.out.mono HS.out.bel.size)).size (fun p hp => by have := (HRow.out.lt p hp).1; omega))
      have hs8 := g8.size
      have HFin := hid (show CpS w p1 r0 pB lo N cap (some ⟨b, off, none⟩) root (ns.take (k + 1)) (.slice a8 (k + 1) c8) (ys ++ [(.slice ay n cy, .slice a3 m c3)]) (w8.setCell ⟨pB, 0, none⟩ (.slice a8 (k + 1) c8)) from
       ⟨(heap_set_ne _ pB 0 p1 _ (by omega)).trans HR18.out, (heap_set_ne _ pB 0 r0 _ (by omega)).trans HRs8.out, by rw [heap_setCell_same _ _ _ _ _ _ HBx8.out]; rfl, HNs8.out.tree HBx8.out _, HBb8.out.setCell (show w.heap.size ≤ (⟨pB, 0, none⟩ : Addr).block by simp only; omega) _, by rw [set_size]; omega⟩)
      have q5 := (HKq.out _ HB4.out)
      have HC8 := hid (show (fun W => W.cell? ⟨pB, 0, none⟩ = some (.slice av k cv) ∧ W.cell? ⟨p5, 0, none⟩ = some (.bool d.leaf) ∧ W.cell? ⟨p5, 1, none⟩ = some (.slice ae n ce) ∧ W.cell? ⟨p5, 2, none⟩ = some (.slice ak m ck)) w8 from by
       have e5 : w8.heap[p5]? = w4.heap[p5]? := g8.block p5 (by have := HP5.out; have := HZ5.out; have := HB4.out.size; omega) (fun e => by
        have h9 := (HS.out.nsr.own.lt p5 e.symm).2
        have := HP5.out
        omega)
       exact ⟨qC HBx8.out, (World.cell?_of_block (w := w4) (a := ⟨p5, 0, none⟩) e5).trans q5.2.1, (World.cell?_of_block (w := w4) (a := ⟨p5, 1, none⟩) e5).trans q5.2.2.1, (World.cell?_of_block (w := w4) (a := ⟨p5, 2, none⟩) e5).trans q5.2.2.2⟩)
      have HFr := hid (frozen_of_row _ _ 0 _ _ HBx8.out)
      clear o8 g8 hne hh HRow hls hls2 hpo hs8 HBx8 HR18 HRs8 HBb8 HNs8 HNs4 HNd4 q5
      refine hK.out _ _ HC8.out (fun hh => ?_)
      clear hK KP
      try simp only [qP]
      refine qS 14 rfl fun KP hK => ?_
      go_simp
      clear hh
      refine hK.out _ _ HC8.out (fun hh => ?_)
      clear hK KP
      try simp only [qP]
      have kc2 := HC8.out.1
      have kf2 := HFr.out
      refine anyK_last (by kernel_rfl) rfl (fun KP hK => ?_)
      go_simp
      refine hK.out _ _ ?_
      clear hK KP hh kc2 kf2
      try simp only [Act.put]
      refine anyK_done (by kernel_rfl) ?_ _
      clear HC8 HFr
      generalize w8.setCell ⟨pB, 0, none⟩ (.slice a8 (k + 1) c8) = w9 at *
      go_wp2_with fail
      go_roundw
      case rel => exact ⟨k + 1, _, _, by omega, by go_num, HFin⟩
      case measure => simp [intOf]; omega
    · go_simp
      have HBL := hid (Below.alloc1 vd (.cells #[] 3))
      have HLit0 := hid (World.ownsRow_lit (base := W1.heap.size) (e := 3) (size := 1) vd #[] 0 BC.out.size (Nat.zero_le _) rfl)
      replace BC := hid (BC.out.trans (HBL.out.mono BC.out.size))
      clear hh
      refine hK.out _ _ (HKq.out _ BC.out) (fun hh => ?_)
      clear hK KP
      try simp only [qP]
      generalize vd.alloc (.cells #[] 3) = v1 at *
      generalize vd.heap.size = gm at *
      clear HBL
      refine qS 6 rfl fun KP hK => ?_
      go_simp
      have HBw1 := hid (HS.out.bel.trans ((HB5.out.trans (BC.out.mono HB5.out.size)).mono HS.out.bel.size))
      refine (spec_entries ce (HRe.out.below HBw1.out qN) HNn.out (by omega) HMk.out).mono ?_
      rintro e v2 ⟨y, rfl, oe, b1⟩
      obtain ⟨ay, cy, ey⟩ := oe.slice
      rw [HNn.out] at ey
      subst ey
      have BCv := hid (BC.out.trans (b1.mono BC.out.size))
      have HLit := hid (owns_below b1 qN HLit0.out)
      have HOE := hid oe
      clear oe b1 hh HBw1 HLit0
      go_wp2_with fail
      refine hK.out _ _ (HKq.out _ BCv.out) (fun hh => ?_)
      clear hK KP
      try simp only [qP]
      obtain ⟨i1, hi1, hy0, hy1, hy2⟩ := info_parts Tryz.infoI
      have HBw2 := hid (HS.out.bel.trans ((HB5.out.trans (BCv.out.mono HB5.out.size)).mono HS.out.bel.size))
      have hRi2 := HRi.out.below HBw2.out qN
      refine qS 10 rfl fun KP hK => ?_
      refine step_append_row rfl _ _ 59 rfl W1.heap.size 3 i1 (.int .i64 0) 1 8 Tryz.underlying59 hi1 hy0 hy1 hy2 rfl (by decide) (.slice (some ⟨gm, 0, none⟩) 0 0) 0 [] rfl HLit.out ak m ck (ins d.ks) rfl (by rw [ins_length, HNm.out, Nat.mul_one]) ?n1gm ?n2gm (ins_one _) (by unfold maxLen; omega) (by omega) BCv.out.size ?_
      case n1gm =>
       rcases hRi2.cells with h0 | ⟨b', o', e', hc⟩
       · cases hak : ak with
         | none => exact .inl ⟨rfl, HNil.out hak⟩
         | some p => exact .inr ⟨p, rfl, fun j u hu => by have := (List.getElem?_eq_some_iff.1 hu).1; rw [ins_length, HNm.out] at this; omega⟩
       · subst e'
         refine .inr ⟨_, rfl, fun j u hu => ?_⟩
         have hj := (List.getElem?_eq_some_iff.1 hu).1
         rw [ins_length, HNm.out] at hj
         rw [Addr.add_lit, hc j hj]
         rw [← hu, show (ins d.ks)[j]? = some (.int .i64 (d.ks.getD j 0)) by
          have hj2 : j < d.ks.length := by have := HNm.out; omega
          simp [ins, List.getD, hj2]]
      case n2gm =>
       intro e
       rcases hRi2.cells with h0 | ⟨b', o', e', hc⟩
       · exact h0
       · rw [e] at e'; cases e'
      intro a3 c3 w3 o3 g3
      rw [Nat.zero_add, List.nil_append] at o3
      rw [Nat.zero_add]
      have HOE3 := hid (HOE.out.aside HLit.out (by decide) (by decide) g3)
      have HB3 := hid (BCv.out.grown g3 BCv.out.size (fun q hq => (HLit.out.lt q hq).1))
      have HI3 := hid (show InR w3 (.slice a3 m c3) d.ks from ⟨⟨_, by rw [HNm.out]; exact o3⟩, HRi.out.bd⟩)
      clear o3 g3 hRi2 HOE HLit hh
      refine hK.out _ _ (HKq.out _ HB3.out) (fun hh => ?_)
      clear hK KP
      try simp only [qP]
      obtain ⟨xs, hen⟩ := HOE3.out.enr
      have HN3 := hid (show NdR w3 (.slice ay n cy, .slice a3 m c3) d from ⟨⟨_, xs, hen⟩, HI3.out⟩)
      clear hen
      refine qS 11 rfl fun KP hK => ?_
      go_simp
      clear hh
      refine hK.out _ _ (HKq.out _ HB3.out) (fun hh => ?_)
      clear hK KP
      try simp only [qP]
      refine qS 12 rfl fun KP hK => ?_
      go_simp
      have HBA4 := hid (Below.alloc1 w3 (.cells #[.bool d.leaf, .slice ay n cy, .slice a3 m c3] 61))
      have HN4 := hid (heap_alloc_new w3 (.cells #[.bool d.leaf, .slice ay n cy, .slice a3 m c3] 61))
      have HB4 := hid (HB3.out.trans (HBA4.out.mono HB3.out.size))
      clear hh
      refine hK.out _ _ (HKq.out _ HB4.out) (fun hh => ?_)
      clear hK KP
      try simp only [qP]
      generalize w3.alloc (.cells #[.bool d.leaf, .slice ay n cy, .slice a3 m c3] 61) = w4 at *
      have HBr4 := hid (show Below wr.heap.size wr w4 from HB5.out.trans (HB4.out.mono HB5.out.size))
      have HNs4 := hid (HS.out.nsr.below HBr4.out)
      have HNd4 := hid (HN3.out.kn (KN.below HBA4.out))
      have oR := HNs4.out.own
      rw [HL2.out] at oR
      have HRow := hid oR
      clear oR
      obtain ⟨i0, hi0, hz0, hz1, hz2⟩ := info_parts Tryz.infoNd11
      have hls := HS.out.pos.2.2.2.2
      have hls2 := HBr4.out.size
      refine qS 13 rfl fun KP hK => ?_
      refine step_append11 rfl _ _ 31 rfl lo 61 i0 (.agg #[.bool false, .slice none 0 0, .slice none 0 0]) 3 56 Tryz.underlying31 hi0 hz0 hz1 hz2 rfl (by decide) _ k _ rfl HRow.out ⟨w3.heap.size, 0, none⟩ 1 1 [.bool d.leaf, .slice ay n cy, .slice a3 m c3] rfl rfl (World.news_of_block HN4.out) ?g3gm (by unfold maxLen; omega) (by omega) (by omega) ?_
      case g3gm => intro u hu; simp only [List.mem_cons, List.not_mem_nil, or_false] at hu; rcases hu with rfl | rfl | rfl <;> rfl
      intro a8 c8 w8 o8 g8 _
      have hpo := HS.out.pos
      have hne : ∀ p, p < lo → (Value.slice av k cv).ownBlock ≠ some p := fun p hp e => by have := (HRow.out.lt p e).1; omega
      have HNs8 := hid (show NsR w8 lo (.slice a8 (k + 1) c8) (ns.take (k + 1)) (ys ++ [(.slice ay n cy, .slice a3 m c3)]) from by
       rw [HT.out]
       exact HNs4.out.push HNd4.out (by rw [HL2.out]; exact o8) g8)
      have HBx8 := hid (show w8.heap[pB]? = some (.cells #[.slice av k cv, .int .i64 root] 33 (0, 0)) from (g8.block pB (by omega) (fun e => hne pB (by omega) e.symm)).trans ((HBr4.out.block pB (by omega)).trans HS.out.box))
      have HR18 := hid ((g8.block p1 (by omega) (fun e => hne p1 (by omega) e.symm)).trans ((HBr4.out.block p1 (by omega)).trans HS.out.arg))
      have HRs8 := hid ((g8.block r0 (by omega) (fun e => hne r0 (by omega) e.symm)).trans ((HBr4.out.block r0 (by omega)).trans HS.out.res))
      have HBb8 := hid ((HS.out.bel.trans (HBr4.out.mono HS.out.bel.size)).grown g8 (HS.out.bel.trans (HBr4.out.mono HS.out.bel.size)).size (fun p hp => by have := (HRow.out.lt p hp).1; omega))
      have hs8 := g8.size
      have HFin := hid (show CpS w p1 r0 pB lo N cap (some ⟨b, off, none⟩) root (ns.take (k + 1)) (.slice a8 (k + 1) c8) (ys ++ [(.slice ay n cy, .slice a3 m c3)]) (w8.setCell ⟨pB, 0, none⟩ (.slice a8 (k + 1) c8)) from
       ⟨(heap_set_ne _ pB 0 p1 _ (by omega)).trans HR18.out, (heap_set_ne _ pB 0 r0 _ (by omega)).trans HRs8.out, by rw [heap_setCell_same _ _ _ _ _ _ HBx8.out]; rfl, HNs8.out.tree HBx8.out _, HBb8.out.setCell (show w.heap.size ≤ (⟨pB, 0, none⟩ : Addr).block by simp only; omega) _, by rw [set_size]; omega⟩)
      have q5 := (HKq.out _ HB4.out)
      have HC8 := hid (show (fun W => W.cell? ⟨pB, 0, none⟩ = some (.slice av k cv) ∧ W.cell? ⟨p5, 0, none⟩ = some (.bool d.leaf) ∧ W.cell? ⟨p5, 1, none⟩ = some (.slice ae n ce) ∧ W.cell? ⟨p5, 2, none⟩ = some (.slice ak m ck)) w8 from by
       have e5 : w8.heap[p5]? = w4.heap[p5]? := g8.block p5 (by have := HP5.out; have := HZ5.out; have := HB4.out.size; omega) (fun e => by
        have h9 := (HS.out.nsr.own.lt p5 e.symm).2
        have := HP5.out
        omega)
       exact ⟨qC HBx8.out, (World.cell?_of_block (w := w4) (a := ⟨p5, 0, none⟩) e5).trans q5.2.1, (World.cell?_of_block (w := w4) (a := ⟨p5, 1, none⟩) e5).trans q5.2.2.1, (World.cell?_of_block (w := w4) (a := ⟨p5, 2, none⟩) e5).trans q5.2.2.2⟩)
      have HFr := hid (frozen_of_row _ _ 0 _ _ HBx8.out)
      clear o8 g8 hne hh HRow hls hls2 hpo hs8 HBx8 HR18 HRs8 HBb8 HNs8 HNs4 HNd4 q5
      refine hK.out _ _ HC8.out (fun hh => ?_)
      clear hK KP
      try simp only [qP]
      refine qS 14 rfl fun KP hK => ?_
      go_simp
      clear hh
      refine hK.out _ _ HC8.out (fun hh => ?_)
      clear hK KP
      try simp only [qP]
      have kc2 := HC8.out.1
      have kf2 := HFr.out
      refine anyK_last (by kernel_rfl) rfl (fun KP hK => ?_)
      go_simp
      refine hK.out _ _ ?_
      clear hK KP hh kc2 kf2
      try simp only [Act.put]
      refine anyK_done (by kernel_rfl) ?_ _
      clear HC8 HFr
      generalize w8.setCell ⟨pB, 0, none⟩ (.slice a8 (k + 1) c8) = w9 at *
      go_wp2_with fail
      go_roundw
      case rel => exact ⟨k + 1, _, _, by omega, by go_num, HFin⟩
      case measure => simp [intOf]; omega
  · have hlt' : ¬ (k : Int) < (N : Int) := by omega
    have HNr := hid (show NsR wr lo v ns ys by have := HS.out.nsr; rwa [List.take_of_length_le (by have := HNs.out; omega)] at this)
    obtain ⟨av, cv, hv⟩ := own_sl HNr.out.own
    rw [HNs.out] at hv
    subst hv
    have hpo := HS.out.pos
    have hrs := HS.out.res
    have HFin := hid (show NsR (wr.setRow r0 #[.slice av N cv, .int .i64 root]) w.heap.size (.slice av N cv) ns ys from by
     have g2 := row_grown11 wr r0 #[.slice av N cv, .int .i64 root]
     have kn : KN wr (wr.setRow r0 #[.slice av N cv, .int .i64 root]) := KN.grown g2 (fun q hq => by obtain rfl := Option.some.inj hq; exact ⟨_, _, _, hrs, .inr rfl⟩)
     have hn := HNr.out.lower (b' := w.heap.size) (by omega)
     refine ⟨hn.len, hn.own.kept g2 (.inr (fun e => ?_)), fun i hi => (hn.nd i hi).kn kn⟩
     rcases hn.own.2 with ⟨e2, _⟩ | ⟨g, cp, cu, e2, _, hg, _⟩
     · rw [e2] at e; cases e
     · rw [e2] at e
       have e3 : g = r0 := by first | exact Option.some.inj e | exact (Option.some.inj e).symm
       rw [e3, hrs] at hg
       simp only [Option.some.injEq, Obj.cells.injEq] at hg
       exact absurd hg.2.1 (by decide))
    have HBf := hid (below_setRow HS.out.bel (show w.heap.size ≤ r0 by omega) #[.slice av N cv, .int .i64 root])
    have HRf := hid (show (wr.setRow r0 #[.slice av N cv, .int .i64 root]).heap[r0]? = some (.cells #[.slice av N cv, .int .i64 root] 33 (0, 0)) from setRow_heap _ _ _ _ _ _ HS.out.res)
    have HBx := hid HS.out.box
    have HRs := hid HS.out.res
    clear hpo hrs
    go_wp2_with (first
     | (refine wpList_load_row rfl 33 (.tmp 3) rfl pB rfl 33 _ (0, 0) _ HBx.out Tryz.underlying33 rfl size_tr11 ?_)
     | (refine wpList_store_row rfl 33 (.tmp 2) _ rfl r0 #[.slice av N cv, .int .i64 root] rfl rfl 33 _ HRs.out size_tr11 rfl (by simp [Value.oneCell']) ?_))
    exact bodyPost_ret (results_cell_row Tryz.results22 _ _ r0 33 _ (0, 0) _ rfl HRf.out Tryz.underlying33 rfl size_tr11) rfl ⟨_, _, rfl, ⟨_, HFin.out⟩, HBf.out⟩
end Go.Proofs.YtlkoghdajpbffaaGreat
