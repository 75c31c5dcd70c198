/- Texts of this proof in one: Oc11 Od11. -/
import Derived.Test.YtphmlndkjgldkaaMgi
import Derived.Test.YtphmlndkjgldkaaOa11
/- The specification's copy of a tree. Conditions: at most 300 nodes, each of at most four entries and five kids, texts of at most 2^21 bytes. -/


namespace Go.Proofs.Ytphmlndkjgldkaa
open Go.RowKit
set_option maxRecDepth 100000
theorem NsR.lower {w : World} {b b' : Nat} {v : Value} {ds : List Nd} {ys : List (Value × Value)} (h : NsR w b v ds ys) (hb : b' ≤ b) : NsR w b' v ds ys := ⟨h.len, owns_lower h.own hb, h.nd⟩
theorem NsR.nil (w : World) (b : Nat) : NsR w b (.slice none 0 0) [] [] := ⟨rfl, World.ownsRow_nil _ _ _ _, fun i hi => by cases hi⟩
theorem NsR.tree {w : World} {b : Nat} {v : Value} {ds : List Nd} {ys : List (Value × Value)} (h : NsR w b v ds ys) {p j : Nat} {cs : Array Value} {fz : Nat × Nat} (hp : w.heap[p]? = some (.cells cs 26 fz)) (u : Value) : NsR (w.setCell ⟨p, j, none⟩ u) b v ds ys := by
 refine ⟨h.len, ⟨h.own.1, ?_⟩, fun i hi => (h.nd i hi).kn (KN.set (p := ⟨p, j, none⟩) hp (.inr rfl) u)⟩
 rcases h.own.2 with hn | ⟨g, cap, cur, rfl, hb, hg, rest⟩
 · exact .inl hn
 · have hne : g ≠ p := fun e => by
    subst e
    rw [hg] at hp
    simp only [Option.some.injEq, Obj.cells.injEq] at hp
    exact absurd hp.2.1 (by decide)
   exact .inr ⟨g, cap, cur, rfl, hb, (heap_set_ne w p j g u hne).trans hg, rest⟩
def KapD (w : World) (ad : Option Addr) (N : Nat) : Prop := ∀ (k : Nat), k < N → ∀ {b off n c : Nat} {a : Option Addr}, ad = some ⟨b, off, none⟩ → w.cell? ⟨b, off + k * 3 + 2, none⟩ = some (.slice a n c) → a = none → c = 0
structure CpS (w : World) (p1 r0 pB lo N cap : Nat) (ad : Option Addr) (root : Int) (ds : List Nd) (v : Value) (ys : List (Value × Value)) (wx : World) : Prop where
 arg : wx.heap[p1]? = some (.cells #[.slice ad N cap, .int .i64 root] 26)
 res : wx.heap[r0]? = some (.cells #[.slice none 0 0, .int .i64 0] 26)
 box : wx.heap[pB]? = some (.cells #[v, .int .i64 root] 26 (0, 0))
 nsr : NsR wx lo v ds ys
 bel : Below w.heap.size w wx
 pos : w.heap.size ≤ p1 ∧ p1 < r0 ∧ r0 < pB ∧ pB < lo ∧ lo ≤ wx.heap.size
set_option maxHeartbeats 12800000 in
theorem spec_l11copy {ad : Option Addr} {N : Nat} (cap : Nat) (root : Int) {ns : List Nd} {w : World} (hR : ReadsD w ad ns) (hns : ns.length = N) (hN : N ≤ 300) (hes : ∀ i, (ns.getD i nd0).es.length ≤ 4) (hks : ∀ i, (ns.getD i nd0).ks.length ≤ 5) (hm : ∀ i j, ((ns.getD i nd0).es.getD j en0).Z.length ≤ 2097152) (hkap : KapD w ad N) :
 Calls Try.prog 81 #[.agg #[.slice ad N cap, .int .i64 root]] w fun e w' => ∃ a c ys, e = .returned (.agg #[.slice a N c, .int .i64 root]) ∧ NsR w' w.heap.size (.slice a N c) ns ys ∧ Below w.heap.size w w' := by
 have HRR := hid (three11 w (.cells #[.slice ad N cap, .int .i64 root] 26) (.cells #[.slice none 0 0, .int .i64 0] 26) (.cells #[.slice none 0 0, .int .i64 root] 26))
 have HR := hid hR
 have HNs := hid hns
 have HEs := hid hes
 have HKs := hid hks
 have HM := hid hm
 have HKp := hid hkap
 have HTw := hid (two w (.cells #[.slice ad N cap, .int .i64 root] 26) (.cells #[.slice none 0 0, .int .i64 0] 26))
 have HR1 := hid (two_rows11 w (.cells #[.slice ad N cap, .int .i64 root] 26) (.cells #[.slice none 0 0, .int .i64 0] 26))
 clear hR hns hes hks hm hkap
 go_enter Try.func81, Try.ntmps81
 have c1 : ((w.alloc (.cells #[.slice ad N cap, .int .i64 root] 26)).alloc (.cells #[.slice none 0 0, .int .i64 0] 26)).cell? ⟨w.heap.size, 1, none⟩ = some (.int .i64 root) := by rw [cell_of_row _ _ _ _ _ _ HR1.out.1]; rfl
 go_upto_region 2 with fail
 clear c1 HTw HR1
 generalize (((w.alloc (.cells #[.slice ad N cap, .int .i64 root] 26)).alloc (.cells #[.slice none 0 0, .int .i64 0] 26)).alloc (.cells #[.slice none 0 0, .int .i64 root] 26)) = U at *
 obtain ⟨pB, hpB⟩ : ∃ pB, w.heap.size + 1 + 1 = pB := ⟨_, rfl⟩
 obtain ⟨r0, hr0⟩ : ∃ r0, w.heap.size + 1 = r0 := ⟨_, rfl⟩
 obtain ⟨p1, hp1⟩ : ∃ p1, w.heap.size = p1 := ⟨_, rfl⟩
 have hRR := HRR.out
 rw [hpB, hr0, hp1] at hRR
 obtain ⟨r1, r2, r3, hzU, hbU⟩ := hRR
 obtain ⟨lo, hlo⟩ : ∃ lo, U.heap.size = lo := ⟨_, rfl⟩
 have HS := hid (show CpS w p1 r0 pB lo N cap ad root (ns.take 0) (.slice none 0 0) [] U from ⟨r1, r2, r3, by rw [List.take_zero]; exact NsR.nil _ _, by rw [hp1]; exact hbU, by omega⟩)
 try simp only [hpB]
 try simp only [hr0]
 try simp only [hp1]
 clear hpB hr0 hp1 r1 r2 r3 hzU hbU hlo HRR
 go_wp2_with fail
 go_loopw [4] (fun s wr => ∃ (k : Nat) (v : Value) (ys : List (Value × Value)), k ≤ N ∧ s = .int .i64 k ∧ Hid (CpS w p1 r0 pB lo N cap ad root (ns.take k) v ys wr)) (fun s _ => N - (intOf s).toNat)
 case atStart => exact ⟨0, _, _, Nat.zero_le _, rfl, HS⟩
 case round =>
  clear HS
  obtain ⟨k, v, ys, hk, rfl, HS⟩ := hrel
  have c0 : wr.cell? ⟨p1, 0, none⟩ = some (.slice ad N cap) := by rw [cell_of_row _ _ _ _ _ _ HS.out.arg]; rfl
  by_cases hlt : k < N
  · have hlt' : (k : Int) < (N : Int) := by omega
    have hk0 : (0 : Int) ≤ (k : Int) := by omega
    have hkl : k < ns.length := by have := HNs.out; omega
    obtain ⟨b, off, ae, ce, ak, ck, rfl, n0, n1, n2, re, _, ri, _⟩ := HR.out.at hkl
    have hnil := HKp.out k hlt rfl n2
    have hle := HEs.out k
    have hlk := HKs.out k
    have HMk := hid (HM.out k)
    have HT := hid (take_snoc ns k nd0 hkl)
    have cw : ∀ {p : Addr} {v : Value}, w.cell? p = some v → wr.cell? p = some v := fun e => (HS.out.bel.cell (World.block_lt_of_cell? w _ e)).trans e
    have c5 := cw n0
    have c6 := cw n1
    have c7 := cw n2
    have HRe := hid re
    have HRi := hid ri
    generalize ns.getD k nd0 = d at *
    obtain ⟨n, hn⟩ : ∃ n, d.es.length = n := ⟨_, rfl⟩
    obtain ⟨m, hmm⟩ : ∃ m, d.ks.length = m := ⟨_, rfl⟩
    rw [hn] at c6 hle
    rw [hmm] at c7 hlk HRi
    have HNn := hid hn
    have HNm := hid hmm
    have HNil := hid hnil
    have hkl2 : (ns.take k).length = k := by rw [List.length_take]; omega
    have HL2 := hid hkl2
    obtain ⟨av, cv, hv⟩ := own_sl HS.out.nsr.own
    rw [hkl2] at hv
    subst hv
    have HB5 := hid (Below.alloc1 wr (.cells #[.bool d.leaf, .slice ae n ce, .slice ak m ck] 67))
    have HR5 := hid (heap_alloc_new wr (.cells #[.bool d.leaf, .slice ae n ce, .slice ak m ck] 67))
    have HZ5 := hid (alloc_size wr (.cells #[.bool d.leaf, .slice ae n ce, .slice ak m ck] 67))
    have HSz := hid HS.out.bel.size
    clear cw n0 n1 n2 re ri hn hmm hnil hkl hkl2
    go_wp2_with fail
    clear c0 c5 c6 c7
    generalize wr.alloc (.cells #[.bool d.leaf, .slice ae n ce, .slice ak m ck] 67) = W1 at *
    obtain ⟨p5, hp5⟩ : ∃ p5, wr.heap.size = p5 := ⟨_, rfl⟩
    have HP5 := hid hp5
    rw [hp5] at HR5 HZ5
    try simp only [hp5]
    clear hp5
    have HKq := hid (show ∀ W, Below W1.heap.size W1 W → (fun W => W.cell? ⟨pB, 0, none⟩ = some (.slice av k cv) ∧ W.cell? ⟨p5, 0, none⟩ = some (.bool d.leaf) ∧ W.cell? ⟨p5, 1, none⟩ = some (.slice ae n ce) ∧ W.cell? ⟨p5, 2, none⟩ = some (.slice ak m ck)) W from fun W bb => by
     have h5 := HP5.out
     have hpo := HS.out.pos
     have r5 := (bb.block p5 (by have := HZ5.out; omega)).trans HR5.out
     have rB := ((HB5.out.trans (bb.mono HB5.out.size)).block pB (by omega)).trans HS.out.box
     exact ⟨by rw [cell_of_row _ _ _ _ _ _ rB]; rfl, by rw [cell_of_row _ _ _ _ _ _ r5]; rfl, by rw [cell_of_row _ _ _ _ _ _ r5]; rfl, by rw [cell_of_row _ _ _ _ _ _ r5]; rfl⟩)
    have BC := hid (show Below W1.heap.size W1 W1.drew from (Still.drew W1).below _)
    refine region_K 15 (fun W => W.cell? ⟨pB, 0, none⟩ = some (.slice av k cv) ∧ W.cell? ⟨p5, 0, none⟩ = some (.bool d.leaf) ∧ W.cell? ⟨p5, 1, none⟩ = some (.slice ae n ce) ∧ W.cell? ⟨p5, 2, none⟩ = some (.slice ak m ck)) (by kernel_rfl) (HKq.out _ BC.out) (fun hHeld => ?_)
    generalize W1.drew = vd at *
    refine anyK_take (i := 0) (v := ?vj0_1) rfl (by kernel_rfl) (by kernel_rfl) (by kernel_rfl) (by kernel_rfl) (fun _ _ _ h => h) (by rfl) hHeld ?hyj0_1 (some 21) (by rfl) ?restj0_1
    case hyj0_1 => (intro W hSw; obtain ⟨x0, x1, x2, x3⟩ := hSw; go_simp; (try with_reducible rfl))
    try simp only [Act.put]
    try simp only [List.setIfInBounds_toArray]
    try simp only [List.set_cons_succ, List.set_cons_zero]
    refine anyK_take (i := 1) (v := ?vj1_2) rfl (by kernel_rfl) (by kernel_rfl) (by kernel_rfl) (by kernel_rfl) (fun _ _ _ h => h) (by rfl) hHeld ?hyj1_2 (some 22) (by rfl) ?restj1_2
    case hyj1_2 => (intro W hSw; obtain ⟨x0, x1, x2, x3⟩ := hSw; go_simp; (try with_reducible rfl))
    try simp only [Act.put]
    try simp only [List.setIfInBounds_toArray]
    try simp only [List.set_cons_succ, List.set_cons_zero]
    refine anyK_take (i := 2) (v := ?vj2_3) rfl (by kernel_rfl) (by kernel_rfl) (by kernel_rfl) (by kernel_rfl) (fun _ _ _ h => h) (by rfl) hHeld ?hyj2_3 (some 23) (by rfl) ?restj2_3
    case hyj2_3 => (intro W hSw; obtain ⟨x0, x1, x2, x3⟩ := hSw; go_simp; (try with_reducible rfl))
    try simp only [Act.put]
    try simp only [List.setIfInBounds_toArray]
    try simp only [List.set_cons_succ, List.set_cons_zero]
    refine anyK_take (i := 3) (v := ?vj3_4) rfl (by kernel_rfl) (by kernel_rfl) (by kernel_rfl) (by kernel_rfl) (fun _ _ _ h => h) (by rfl) hHeld ?hyj3_4 (some 24) (by rfl) ?restj3_4
    case hyj3_4 => (intro W hSw; obtain ⟨x0, x1, x2, x3⟩ := hSw; go_simp; (try with_reducible rfl))
    try simp only [Act.put]
    try simp only [List.setIfInBounds_toArray]
    try simp only [List.set_cons_succ, List.set_cons_zero]
    refine anyK_take (i := 4) (v := ?vj4_5) rfl (by kernel_rfl) (by kernel_rfl) (by kernel_rfl) (by kernel_rfl) (fun _ _ _ h => h) (by rfl) hHeld ?hyj4_5 (some 25) (by rfl) ?restj4_5
    case hyj4_5 => (intro W hSw; obtain ⟨x0, x1, x2, x3⟩ := hSw; go_simp; (try with_reducible rfl))
    try simp only [Act.put]
    try simp only [List.setIfInBounds_toArray]
    try simp only [List.set_cons_succ, List.set_cons_zero]
    refine anyK_take (i := 5) (v := ?vj5_6) rfl (by kernel_rfl) (by kernel_rfl) (by kernel_rfl) (by kernel_rfl) (fun _ _ _ h => h) (by rfl) hHeld ?hyj5_6 (some 26) (by rfl) ?restj5_6
    case hyj5_6 => (intro W hSw; obtain ⟨x0, x1, x2, x3⟩ := hSw; go_simp; (try with_reducible rfl))
    try simp only [Act.put]
    try simp only [List.setIfInBounds_toArray]
    try simp only [List.set_cons_succ, List.set_cons_zero]
    refine anyK_take (i := 8) (v := ?vj8_7) rfl (by kernel_rfl) (by kernel_rfl) (by kernel_rfl) (by kernel_rfl) (fun _ _ _ h => h) (by rfl) hHeld ?hyj8_7 (some 29) (by rfl) ?restj8_7
    case hyj8_7 => (intro W hSw; obtain ⟨x0, x1, x2, x3⟩ := hSw; go_simp; (try with_reducible rfl))
    try simp only [Act.put]
    try simp only [List.setIfInBounds_toArray]
    try simp only [List.set_cons_succ, List.set_cons_zero]
    refine anyK_take (i := 9) (v := ?vj9_8) rfl (by kernel_rfl) (by kernel_rfl) (by kernel_rfl) (by kernel_rfl) (fun _ _ _ h => h) (by rfl) hHeld ?hyj9_8 (some 30) (by rfl) ?restj9_8
    case hyj9_8 => (intro W hSw; obtain ⟨x0, x1, x2, x3⟩ := hSw; go_simp; (try with_reducible rfl))
    try simp only [Act.put]
    try simp only [List.setIfInBounds_toArray]
    try simp only [List.set_cons_succ, List.set_cons_zero]
    refine anyK_two (i := 6) (j := 7) (by kernel_rfl) rfl rfl (fun KP hK => ?_) (fun KP hK => ?_)
    · go_simp
      have HBw1 := hid (HS.out.bel.trans ((HB5.out.trans (BC.out.mono HB5.out.size)).mono HS.out.bel.size))
      refine (spec_entries ce (HRe.out.below HBw1.out (Nat.le_refl _)) HNn.out (by omega) HMk.out).mono ?_
      rintro e v1 ⟨y, rfl, oe, b1⟩
      obtain ⟨ay, cy, ey⟩ := oe.slice
      rw [HNn.out] at ey
      subst ey
      replace BC := hid (BC.out.trans (b1.mono BC.out.size))
      have HOE1 := hid oe
      clear oe b1 hHeld HBw1
      go_wp2_with fail
      refine hK.out _ _ (HKq.out _ BC.out) (fun hHeld => ?_)
      clear hK KP
      try simp only [Act.put]
      try simp only [List.setIfInBounds_toArray]
      try simp only [List.set_cons_succ, List.set_cons_zero]
      refine anyK_step (i := 7) (by kernel_rfl) rfl (fun KP hK => ?_)
      go_simp
      have HBL := hid (Below.alloc1 v1 (.cells #[] 3))
      have HLit := hid (World.ownsRow_lit (base := W1.heap.size) (e := 3) (size := 1) v1 #[] 0 BC.out.size (Nat.zero_le _) rfl)
      have HOE := hid (HOE1.out.below HBL.out (Nat.le_refl _))
      have BCv := hid (BC.out.trans (HBL.out.mono BC.out.size))
      clear hHeld HOE1
      refine hK.out _ _ (HKq.out _ BCv.out) (fun hHeld => ?_)
      clear hK KP
      try simp only [Act.put]
      try simp only [List.setIfInBounds_toArray]
      try simp only [List.set_cons_succ, List.set_cons_zero]
      generalize v1.alloc (.cells #[] 3) = v2 at *
      generalize v1.heap.size = gl at *
      clear HBL
      obtain ⟨i1, hi1, hy0, hy1, hy2⟩ := info_parts Try.infoI
      have HBw2 := hid (HS.out.bel.trans ((HB5.out.trans (BCv.out.mono HB5.out.size)).mono HS.out.bel.size))
      have hRi2 := HRi.out.below HBw2.out (Nat.le_refl _)
      refine anyK_step (i := 10) (by kernel_rfl) rfl (fun KP hK => ?_)
      refine step_append_row rfl _ _ 43 rfl W1.heap.size 3 i1 (.int .i64 0) 1 8 Try.underlying43 hi1 hy0 hy1 hy2 rfl (by decide) (.slice (some ⟨gl, 0, none⟩) 0 0) 0 [] rfl HLit.out ak m ck (ins d.ks) rfl (by rw [ins_length, HNm.out, Nat.mul_one]) ?n1gl ?n2gl (ins_one _) (by unfold maxLen; omega) (by omega) BCv.out.size ?_
      case n1gl =>
       rcases hRi2.cells with h0 | ⟨b', o', e', hc⟩
       · cases hak : ak with
         | none => exact .inl ⟨rfl, HNil.out hak⟩
         | some p => exact .inr ⟨p, rfl, fun j u hu => by have := (List.getElem?_eq_some_iff.1 hu).1; rw [ins_length, HNm.out] at this; omega⟩
       · subst e'
         refine .inr ⟨_, rfl, fun j u hu => ?_⟩
         have hj := (List.getElem?_eq_some_iff.1 hu).1
         rw [ins_length, HNm.out] at hj
         rw [Addr.add_lit, hc j hj]
         rw [← hu, show (ins d.ks)[j]? = some (.int .i64 (d.ks.getD j 0)) by
          have hj2 : j < d.ks.length := by have := HNm.out; omega
          simp [ins, List.getD, hj2]]
      case n2gl =>
       intro e
       rcases hRi2.cells with h0 | ⟨b', o', e', hc⟩
       · exact h0
       · rw [e] at e'; cases e'
      intro a3 c3 w3 o3 g3
      rw [Nat.zero_add, List.nil_append] at o3
      rw [Nat.zero_add]
      have HOE3 := hid (HOE.out.aside HLit.out (by decide) (by decide) g3)
      have HB3 := hid (BCv.out.grown g3 BCv.out.size (fun q hq => (HLit.out.lt q hq).1))
      have HI3 := hid (show InR w3 (.slice a3 m c3) d.ks from ⟨⟨_, by rw [HNm.out]; exact o3⟩, HRi.out.bd⟩)
      clear o3 g3 hRi2 HOE HLit hHeld
      refine hK.out _ _ (HKq.out _ HB3.out) (fun hHeld => ?_)
      clear hK KP
      try simp only [Act.put]
      try simp only [List.setIfInBounds_toArray]
      try simp only [List.set_cons_succ, List.set_cons_zero]
      obtain ⟨xs, hen⟩ := HOE3.out.enr
      have HN3 := hid (show NdR w3 (.slice ay n cy, .slice a3 m c3) d from ⟨⟨_, xs, hen⟩, HI3.out⟩)
      clear hen
      refine anyK_step (i := 11) (by kernel_rfl) rfl (fun KP hK => ?_)
      go_simp
      clear hHeld
      refine hK.out _ _ (HKq.out _ HB3.out) (fun hHeld => ?_)
      clear hK KP
      try simp only [Act.put]
      try simp only [List.setIfInBounds_toArray]
      try simp only [List.set_cons_succ, List.set_cons_zero]
      refine anyK_step (i := 12) (by kernel_rfl) rfl (fun KP hK => ?_)
      go_simp
      have HBA4 := hid (Below.alloc1 w3 (.cells #[.bool d.leaf, .slice ay n cy, .slice a3 m c3] 67))
      have HN4 := hid (heap_alloc_new w3 (.cells #[.bool d.leaf, .slice ay n cy, .slice a3 m c3] 67))
      have HB4 := hid (HB3.out.trans (HBA4.out.mono HB3.out.size))
      clear hHeld
      refine hK.out _ _ (HKq.out _ HB4.out) (fun hHeld => ?_)
      clear hK KP
      try simp only [Act.put]
      try simp only [List.setIfInBounds_toArray]
      try simp only [List.set_cons_succ, List.set_cons_zero]
      generalize w3.alloc (.cells #[.bool d.leaf, .slice ay n cy, .slice a3 m c3] 67) = w4 at *
      have HBr4 := hid (show Below wr.heap.size wr w4 from HB5.out.trans (HB4.out.mono HB5.out.size))
      have HNs4 := hid (HS.out.nsr.below HBr4.out)
      have HNd4 := hid (HN3.out.kn (KN.below HBA4.out))
      have oR := HNs4.out.own
      rw [HL2.out] at oR
      have HRow := hid oR
      clear oR
      obtain ⟨i0, hi0, hz0, hz1, hz2⟩ := info_parts Try.infoNd11
      have hls := HS.out.pos.2.2.2.2
      have hls2 := HBr4.out.size
      refine anyK_step (i := 13) (by kernel_rfl) rfl (fun KP hK => ?_)
      refine step_append11 rfl _ _ 24 rfl lo 67 i0 (.agg #[.bool false, .slice none 0 0, .slice none 0 0]) 3 56 Try.underlying24 hi0 hz0 hz1 hz2 rfl (by decide) _ k _ rfl HRow.out ⟨w3.heap.size, 0, none⟩ 1 1 [.bool d.leaf, .slice ay n cy, .slice a3 m c3] rfl rfl (World.news_of_block HN4.out) ?g3gl (by unfold maxLen; omega) (by omega) (by omega) ?_
      case g3gl => intro u hu; simp only [List.mem_cons, List.not_mem_nil, or_false] at hu; rcases hu with rfl | rfl | rfl <;> rfl
      intro a8 c8 w8 o8 g8 _
      have hpo := HS.out.pos
      have hne : ∀ p, p < lo → (Value.slice av k cv).ownBlock ≠ some p := fun p hp e => by have := (HRow.out.lt p e).1; omega
      have HNs8 := hid (show NsR w8 lo (.slice a8 (k + 1) c8) (ns.take (k + 1)) (ys ++ [(.slice ay n cy, .slice a3 m c3)]) from by
       rw [HT.out]
       exact HNs4.out.push HNd4.out (by rw [HL2.out]; exact o8) g8)
      have HBx8 := hid (show w8.heap[pB]? = some (.cells #[.slice av k cv, .int .i64 root] 26 (0, 0)) from (g8.block pB (by omega) (fun e => hne pB (by omega) e.symm)).trans ((HBr4.out.block pB (by omega)).trans HS.out.box))
      have HR18 := hid ((g8.block p1 (by omega) (fun e => hne p1 (by omega) e.symm)).trans ((HBr4.out.block p1 (by omega)).trans HS.out.arg))
      have HRs8 := hid ((g8.block r0 (by omega) (fun e => hne r0 (by omega) e.symm)).trans ((HBr4.out.block r0 (by omega)).trans HS.out.res))
      have HBb8 := hid ((HS.out.bel.trans (HBr4.out.mono HS.out.bel.size)).grown g8 (HS.out.bel.trans (HBr4.out.mono HS.out.bel.size)).size (fun p hp => by have := (HRow.out.lt p hp).1; omega))
      have hs8 := g8.size
      have HFin := hid (show CpS w p1 r0 pB lo N cap (some ⟨b, off, none⟩) root (ns.take (k + 1)) (.slice a8 (k + 1) c8) (ys ++ [(.slice ay n cy, .slice a3 m c3)]) (w8.setCell ⟨pB, 0, none⟩ (.slice a8 (k + 1) c8)) from
       ⟨(heap_set_ne _ pB 0 p1 _ (by omega)).trans HR18.out, (heap_set_ne _ pB 0 r0 _ (by omega)).trans HRs8.out, by rw [heap_setCell_same _ _ _ _ _ _ HBx8.out]; rfl, HNs8.out.tree HBx8.out _, HBb8.out.setCell (show w.heap.size ≤ (⟨pB, 0, none⟩ : Addr).block by simp only; omega) _, by rw [set_size]; omega⟩)
      have q5 := (HKq.out _ HB4.out)
      have HC8 := hid (show (fun W => W.cell? ⟨pB, 0, none⟩ = some (.slice av k cv) ∧ W.cell? ⟨p5, 0, none⟩ = some (.bool d.leaf) ∧ W.cell? ⟨p5, 1, none⟩ = some (.slice ae n ce) ∧ W.cell? ⟨p5, 2, none⟩ = some (.slice ak m ck)) w8 from by
       have e5 : w8.heap[p5]? = w4.heap[p5]? := g8.block p5 (by have := HP5.out; have := HZ5.out; have := HB4.out.size; omega) (fun e => by
        have h9 := (HS.out.nsr.own.lt p5 e.symm).2
        have := HP5.out
        omega)
       exact ⟨by rw [cell_of_row _ _ _ _ _ _ HBx8.out]; rfl, (World.cell?_of_block (w := w4) (a := ⟨p5, 0, none⟩) e5).trans q5.2.1, (World.cell?_of_block (w := w4) (a := ⟨p5, 1, none⟩) e5).trans q5.2.2.1, (World.cell?_of_block (w := w4) (a := ⟨p5, 2, none⟩) e5).trans q5.2.2.2⟩)
      have HFr := hid (frozen_of_row _ _ 0 _ _ HBx8.out)
      clear o8 g8 hne hHeld HRow hls hls2 hpo hs8 HBx8 HR18 HRs8 HBb8 HNs8 HNs4 HNd4 q5
      refine hK.out _ _ HC8.out (fun hHeld => ?_)
      clear hK KP
      try simp only [Act.put]
      try simp only [List.setIfInBounds_toArray]
      try simp only [List.set_cons_succ, List.set_cons_zero]
      refine anyK_step (i := 14) (by kernel_rfl) rfl (fun KP hK => ?_)
      go_simp
      clear hHeld
      refine hK.out _ _ HC8.out (fun hHeld => ?_)
      clear hK KP
      try simp only [Act.put]
      try simp only [List.setIfInBounds_toArray]
      try simp only [List.set_cons_succ, List.set_cons_zero]
      have kc2 := HC8.out.1
      have kf2 := HFr.out
      refine anyK_last (by kernel_rfl) rfl (fun KP hK => ?_)
      go_simp
      refine hK.out _ _ ?_
      clear hK KP hHeld kc2 kf2
      try simp only [Act.put]
      refine anyK_done (by kernel_rfl) ?_ _
      clear HC8 HFr
      generalize w8.setCell ⟨pB, 0, none⟩ (.slice a8 (k + 1) c8) = w9 at *
      go_wp2_with fail
      go_roundw
      case rel => exact ⟨k + 1, _, _, by omega, by go_num, HFin⟩
      case measure => simp [intOf]; omega
    · go_simp
      have HBL := hid (Below.alloc1 vd (.cells #[] 3))
      have HLit0 := hid (World.ownsRow_lit (base := W1.heap.size) (e := 3) (size := 1) vd #[] 0 BC.out.size (Nat.zero_le _) rfl)
      replace BC := hid (BC.out.trans (HBL.out.mono BC.out.size))
      clear hHeld
      refine hK.out _ _ (HKq.out _ BC.out) (fun hHeld => ?_)
      clear hK KP
      try simp only [Act.put]
      try simp only [List.setIfInBounds_toArray]
      try simp only [List.set_cons_succ, List.set_cons_zero]
      generalize vd.alloc (.cells #[] 3) = v1 at *
      generalize vd.heap.size = gm at *
      clear HBL
      refine anyK_step (i := 6) (by kernel_rfl) rfl (fun KP hK => ?_)
      go_simp
      have HBw1 := hid (HS.out.bel.trans ((HB5.out.trans (BC.out.mono HB5.out.size)).mono HS.out.bel.size))
      refine (spec_entries ce (HRe.out.below HBw1.out (Nat.le_refl _)) HNn.out (by omega) HMk.out).mono ?_
      rintro e v2 ⟨y, rfl, oe, b1⟩
      obtain ⟨ay, cy, ey⟩ := oe.slice
      rw [HNn.out] at ey
      subst ey
      have BCv := hid (BC.out.trans (b1.mono BC.out.size))
      have HLit := hid (owns_below b1 (Nat.le_refl _) HLit0.out)
      have HOE := hid oe
      clear oe b1 hHeld HBw1 HLit0
      go_wp2_with fail
      refine hK.out _ _ (HKq.out _ BCv.out) (fun hHeld => ?_)
      clear hK KP
      try simp only [Act.put]
      try simp only [List.setIfInBounds_toArray]
      try simp only [List.set_cons_succ, List.set_cons_zero]
      obtain ⟨i1, hi1, hy0, hy1, hy2⟩ := info_parts Try.infoI
      have HBw2 := hid (HS.out.bel.trans ((HB5.out.trans (BCv.out.mono HB5.out.size)).mono HS.out.bel.size))
      have hRi2 := HRi.out.below HBw2.out (Nat.le_refl _)
      refine anyK_step (i := 10) (by kernel_rfl) rfl (fun KP hK => ?_)
      refine step_append_row rfl _ _ 43 rfl W1.heap.size 3 i1 (.int .i64 0) 1 8 Try.underlying43 hi1 hy0 hy1 hy2 rfl (by decide) (.slice (some ⟨gm, 0, none⟩) 0 0) 0 [] rfl HLit.out ak m ck (ins d.ks) rfl (by rw [ins_length, HNm.out, Nat.mul_one]) ?n1gm ?n2gm (ins_one _) (by unfold maxLen; omega) (by omega) BCv.out.size ?_
      case n1gm =>
       rcases hRi2.cells with h0 | ⟨b', o', e', hc⟩
       · cases hak : ak with
         | none => exact .inl ⟨rfl, HNil.out hak⟩
         | some p => exact .inr ⟨p, rfl, fun j u hu => by have := (List.getElem?_eq_some_iff.1 hu).1; rw [ins_length, HNm.out] at this; omega⟩
       · subst e'
         refine .inr ⟨_, rfl, fun j u hu => ?_⟩
         have hj := (List.getElem?_eq_some_iff.1 hu).1
         rw [ins_length, HNm.out] at hj
         rw [Addr.add_lit, hc j hj]
         rw [← hu, show (ins d.ks)[j]? = some (.int .i64 (d.ks.getD j 0)) by
          have hj2 : j < d.ks.length := by have := HNm.out; omega
          simp [ins, List.getD, hj2]]
      case n2gm =>
       intro e
       rcases hRi2.cells with h0 | ⟨b', o', e', hc⟩
       · exact h0
       · rw [e] at e'; cases e'
      intro a3 c3 w3 o3 g3
      rw [Nat.zero_add, List.nil_append] at o3
      rw [Nat.zero_add]
      have HOE3 := hid (HOE.out.aside HLit.out (by decide) (by decide) g3)
      have HB3 := hid (BCv.out.grown g3 BCv.out.size (fun q hq => (HLit.out.lt q hq).1))
      have HI3 := hid (show InR w3 (.slice a3 m c3) d.ks from ⟨⟨_, by rw [HNm.out]; exact o3⟩, HRi.out.bd⟩)
      clear o3 g3 hRi2 HOE HLit hHeld
      refine hK.out _ _ (HKq.out _ HB3.out) (fun hHeld => ?_)
      clear hK KP
      try simp only [Act.put]
      try simp only [List.setIfInBounds_toArray]
      try simp only [List.set_cons_succ, List.set_cons_zero]
      obtain ⟨xs, hen⟩ := HOE3.out.enr
      have HN3 := hid (show NdR w3 (.slice ay n cy, .slice a3 m c3) d from ⟨⟨_, xs, hen⟩, HI3.out⟩)
      clear hen
      refine anyK_step (i := 11) (by kernel_rfl) rfl (fun KP hK => ?_)
      go_simp
      clear hHeld
      refine hK.out _ _ (HKq.out _ HB3.out) (fun hHeld => ?_)
      clear hK KP
      try simp only [Act.put]
      try simp only [List.setIfInBounds_toArray]
      try simp only [List.set_cons_succ, List.set_cons_zero]
      refine anyK_step (i := 12) (by kernel_rfl) rfl (fun KP hK => ?_)
      go_simp
      have HBA4 := hid (Below.alloc1 w3 (.cells #[.bool d.leaf, .slice ay n cy, .slice a3 m c3] 67))
      have HN4 := hid (heap_alloc_new w3 (.cells #[.bool d.leaf, .slice ay n cy, .slice a3 m c3] 67))
      have HB4 := hid (HB3.out.trans (HBA4.out.mono HB3.out.size))
      clear hHeld
      refine hK.out _ _ (HKq.out _ HB4.out) (fun hHeld => ?_)
      clear hK KP
      try simp only [Act.put]
      try simp only [List.setIfInBounds_toArray]
      try simp only [List.set_cons_succ, List.set_cons_zero]
      generalize w3.alloc (.cells #[.bool d.leaf, .slice ay n cy, .slice a3 m c3] 67) = w4 at *
      have HBr4 := hid (show Below wr.heap.size wr w4 from HB5.out.trans (HB4.out.mono HB5.out.size))
      have HNs4 := hid (HS.out.nsr.below HBr4.out)
      have HNd4 := hid (HN3.out.kn (KN.below HBA4.out))
      have oR := HNs4.out.own
      rw [HL2.out] at oR
      have HRow := hid oR
      clear oR
      obtain ⟨i0, hi0, hz0, hz1, hz2⟩ := info_parts Try.infoNd11
      have hls := HS.out.pos.2.2.2.2
      have hls2 := HBr4.out.size
      refine anyK_step (i := 13) (by kernel_rfl) rfl (fun KP hK => ?_)
      refine step_append11 rfl _ _ 24 rfl lo 67 i0 (.agg #[.bool false, .slice none 0 0, .slice none 0 0]) 3 56 Try.underlying24 hi0 hz0 hz1 hz2 rfl (by decide) _ k _ rfl HRow.out ⟨w3.heap.size, 0, none⟩ 1 1 [.bool d.leaf, .slice ay n cy, .slice a3 m c3] rfl rfl (World.news_of_block HN4.out) ?g3gm (by unfold maxLen; omega) (by omega) (by omega) ?_
      case g3gm => intro u hu; simp only [List.mem_cons, List.not_mem_nil, or_false] at hu; rcases hu with rfl | rfl | rfl <;> rfl
      intro a8 c8 w8 o8 g8 _
      have hpo := HS.out.pos
      have hne : ∀ p, p < lo → (Value.slice av k cv).ownBlock ≠ some p := fun p hp e => by have := (HRow.out.lt p e).1; omega
      have HNs8 := hid (show NsR w8 lo (.slice a8 (k + 1) c8) (ns.take (k + 1)) (ys ++ [(.slice ay n cy, .slice a3 m c3)]) from by
       rw [HT.out]
       exact HNs4.out.push HNd4.out (by rw [HL2.out]; exact o8) g8)
      have HBx8 := hid (show w8.heap[pB]? = some (.cells #[.slice av k cv, .int .i64 root] 26 (0, 0)) from (g8.block pB (by omega) (fun e => hne pB (by omega) e.symm)).trans ((HBr4.out.block pB (by omega)).trans HS.out.box))
      have HR18 := hid ((g8.block p1 (by omega) (fun e => hne p1 (by omega) e.symm)).trans ((HBr4.out.block p1 (by omega)).trans HS.out.arg))
      have HRs8 := hid ((g8.block r0 (by omega) (fun e => hne r0 (by omega) e.symm)).trans ((HBr4.out.block r0 (by omega)).trans HS.out.res))
      have HBb8 := hid ((HS.out.bel.trans (HBr4.out.mono HS.out.bel.size)).grown g8 (HS.out.bel.trans (HBr4.out.mono HS.out.bel.size)).size (fun p hp => by have := (HRow.out.lt p hp).1; omega))
      have hs8 := g8.size
      have HFin := hid (show CpS w p1 r0 pB lo N cap (some ⟨b, off, none⟩) root (ns.take (k + 1)) (.slice a8 (k + 1) c8) (ys ++ [(.slice ay n cy, .slice a3 m c3)]) (w8.setCell ⟨pB, 0, none⟩ (.slice a8 (k + 1) c8)) from
       ⟨(heap_set_ne _ pB 0 p1 _ (by omega)).trans HR18.out, (heap_set_ne _ pB 0 r0 _ (by omega)).trans HRs8.out, by rw [heap_setCell_same _ _ _ _ _ _ HBx8.out]; rfl, HNs8.out.tree HBx8.out _, HBb8.out.setCell (show w.heap.size ≤ (⟨pB, 0, none⟩ : Addr).block by simp only; omega) _, by rw [set_size]; omega⟩)
      have q5 := (HKq.out _ HB4.out)
      have HC8 := hid (show (fun W => W.cell? ⟨pB, 0, none⟩ = some (.slice av k cv) ∧ W.cell? ⟨p5, 0, none⟩ = some (.bool d.leaf) ∧ W.cell? ⟨p5, 1, none⟩ = some (.slice ae n ce) ∧ W.cell? ⟨p5, 2, none⟩ = some (.slice ak m ck)) w8 from by
       have e5 : w8.heap[p5]? = w4.heap[p5]? := g8.block p5 (by have := HP5.out; have := HZ5.out; have := HB4.out.size; omega) (fun e => by
        have h9 := (HS.out.nsr.own.lt p5 e.symm).2
        have := HP5.out
        omega)
       exact ⟨by rw [cell_of_row _ _ _ _ _ _ HBx8.out]; rfl, (World.cell?_of_block (w := w4) (a := ⟨p5, 0, none⟩) e5).trans q5.2.1, (World.cell?_of_block (w := w4) (a := ⟨p5, 1, none⟩) e5).trans q5.2.2.1, (World.cell?_of_block (w := w4) (a := ⟨p5, 2, none⟩) e5).trans q5.2.2.2⟩)
      have HFr := hid (frozen_of_row _ _ 0 _ _ HBx8.out)
      clear o8 g8 hne hHeld HRow hls hls2 hpo hs8 HBx8 HR18 HRs8 HBb8 HNs8 HNs4 HNd4 q5
      refine hK.out _ _ HC8.out (fun hHeld => ?_)
      clear hK KP
      try simp only [Act.put]
      try simp only [List.setIfInBounds_toArray]
      try simp only [List.set_cons_succ, List.set_cons_zero]
      refine anyK_step (i := 14) (by kernel_rfl) rfl (fun KP hK => ?_)
      go_simp
      clear hHeld
      refine hK.out _ _ HC8.out (fun hHeld => ?_)
      clear hK KP
      try simp only [Act.put]
      try simp only [List.setIfInBounds_toArray]
      try simp only [List.set_cons_succ, List.set_cons_zero]
      have kc2 := HC8.out.1
      have kf2 := HFr.out
      refine anyK_last (by kernel_rfl) rfl (fun KP hK => ?_)
      go_simp
      refine hK.out _ _ ?_
      clear hK KP hHeld kc2 kf2
      try simp only [Act.put]
      refine anyK_done (by kernel_rfl) ?_ _
      clear HC8 HFr
      generalize w8.setCell ⟨pB, 0, none⟩ (.slice a8 (k + 1) c8) = w9 at *
      go_wp2_with fail
      go_roundw
      case rel => exact ⟨k + 1, _, _, by omega, by go_num, HFin⟩
      case measure => simp [intOf]; omega
  · have hlt' : ¬ (k : Int) < (N : Int) := by omega
    have HNr := hid (show NsR wr lo v ns ys by have := HS.out.nsr; rwa [List.take_of_length_le (by have := HNs.out; omega)] at this)
    obtain ⟨av, cv, hv⟩ := own_sl HNr.out.own
    rw [HNs.out] at hv
    subst hv
    have hpo := HS.out.pos
    have hrs := HS.out.res
    have HFin := hid (show NsR (wr.setRow r0 #[.slice av N cv, .int .i64 root]) w.heap.size (.slice av N cv) ns ys from by
     have g2 := row_grown11 wr r0 #[.slice av N cv, .int .i64 root]
     have kn : KN wr (wr.setRow r0 #[.slice av N cv, .int .i64 root]) := KN.grown g2 (fun q hq => by obtain rfl := Option.some.inj hq; exact ⟨_, _, _, hrs, .inr rfl⟩)
     have hn := HNr.out.lower (b' := w.heap.size) (by omega)
     refine ⟨hn.len, hn.own.kept g2 (.inr (fun e => ?_)), fun i hi => (hn.nd i hi).kn kn⟩
     rcases hn.own.2 with ⟨e2, _⟩ | ⟨g, cp, cu, e2, _, hg, _⟩
     · rw [e2] at e; cases e
     · rw [e2] at e
       have e3 : g = r0 := by first | exact Option.some.inj e | exact (Option.some.inj e).symm
       rw [e3, hrs] at hg
       simp only [Option.some.injEq, Obj.cells.injEq] at hg
       exact absurd hg.2.1 (by decide))
    have HBf := hid (below_setRow HS.out.bel (show w.heap.size ≤ r0 by omega) #[.slice av N cv, .int .i64 root])
    have HRf := hid (show (wr.setRow r0 #[.slice av N cv, .int .i64 root]).heap[r0]? = some (.cells #[.slice av N cv, .int .i64 root] 26 (0, 0)) from setRow_heap _ _ _ _ _ _ HS.out.res)
    have HBx := hid HS.out.box
    have HRs := hid HS.out.res
    clear hpo hrs
    go_wp2_with (first
     | (refine wpList_load_row rfl 26 (.tmp 3) rfl pB rfl 26 _ (0, 0) _ HBx.out Try.underlying26 rfl size_tr11 ?_)
     | (refine wpList_store_row rfl 26 (.tmp 2) _ rfl r0 #[.slice av N cv, .int .i64 root] rfl rfl 26 _ HRs.out size_tr11 rfl (by simp [Value.oneCell']) ?_))
    exact bodyPost_ret (results_cell_row Try.results81 _ _ r0 26 _ (0, 0) _ rfl HRf.out Try.underlying26 rfl size_tr11) rfl ⟨_, _, rfl, ⟨_, HFin.out⟩, HBf.out⟩
end Go.Proofs.Ytphmlndkjgldkaa
/- Whether an entry is among others, as the specification asks it. Conditions: at most 100000 entries, texts of at most 2^21 bytes. -/

namespace Go.Proofs.Ytphmlndkjgldkaa
open Go.RowKit
set_option maxRecDepth 100000
set_option maxHeartbeats 6400000 in
theorem spec_l11there {a : Option Addr} {n : Nat} (c : Nat) {es : List En} (KQ NQ : Int) (FQ : Nat) {aq : Option Addr} {zq : Nat} (cq : Nat) (iq : Int) {ZQ : List Int} {w : World} (hr : ReadsE w a es) (hn : es.length = n) (hn4 : n ≤ 100000) (hm : ∀ j, (es.getD j en0).Z.length ≤ 2097152) (hq : Reads w aq zq ZQ) (hqq : ZQ.length = zq ∧ FQ < 18446744073709551616 ∧ zq ≤ 2097152) :
 Calls Try.prog 80 #[.slice a n c, .agg #[.int .i64 KQ, .int .i64 NQ, .float .f64 FQ, .slice aq zq cq, .int .i64 iq]] w fun e w' => e = .returned (.bool (es.any (fun z => !offE ⟨KQ, NQ, FQ, ZQ, iq⟩ z))) ∧ Below w.heap.size w w' := by
 have hst := fun w a m => run_store Try.prog w a (.float .f64 FQ) m rfl
 have HBX := hid (Below.alloc1 w (.cells #[.int .i64 KQ, .int .i64 NQ, .float .f64 FQ, .slice aq zq cq, .int .i64 iq] 35))
 have HR0 := hid (heap_alloc_new w (.cells #[.int .i64 KQ, .int .i64 NQ, .float .f64 FQ, .slice aq zq cq, .int .i64 iq] 35))
 have HZ0 := hid (alloc_size w (.cells #[.int .i64 KQ, .int .i64 NQ, .float .f64 FQ, .slice aq zq cq, .int .i64 iq] 35))
 have HR := hid hr
 have HN := hid hn
 have HM := hid hm
 have HQ := hid hq
 have HQQ := hid hqq
 clear hr hn hm hq hqq
 go_enter Try.func80, Try.ntmps80
 go_wp2_with fail
 generalize w.alloc (.cells #[.int .i64 KQ, .int .i64 NQ, .float .f64 FQ, .slice aq zq cq, .int .i64 iq] 35) = V at *
 obtain ⟨p0, hp0⟩ : ∃ p0, w.heap.size = p0 := ⟨_, rfl⟩
 have HP := hid hp0
 rw [hp0] at HR0
 try simp only [hp0]
 clear hp0
 go_loopw [5] (fun s wr => ∃ k : Nat, k ≤ n ∧ s = .int .i64 k ∧ Hid (∀ j, j < k → offE ⟨KQ, NQ, FQ, ZQ, iq⟩ (es.getD j en0) = true) ∧ Hid (Below V.heap.size V wr)) (fun s _ => n - (intOf s).toNat)
 case atStart => exact ⟨0, Nat.zero_le _, rfl, hid (fun j hj => by omega), hid (Below.refl _ _)⟩
 case round =>
  obtain ⟨k, hk, rfl, HA, HB⟩ := hrel
  by_cases hlt : k < n
  · have hlt' : (k : Int) < (n : Int) := by omega
    have hk0 : (0 : Int) ≤ (k : Int) := by omega
    have hkl : k < es.length := by have := HN.out; omega
    obtain ⟨b, off, a1, c1, rfl, bx, rz, _, _, hF⟩ := HR.out.at hkl
    have hz1 := HM.out k
    have HOne := hid (fun (e : offE ⟨KQ, NQ, FQ, ZQ, iq⟩ (es.getD k en0) = false) => show es.any (fun z => !offE ⟨KQ, NQ, FQ, ZQ, iq⟩ z) = true from List.any_eq_true.2 ⟨es.getD k en0, by rw [List.getD_eq_getElem?_getD, List.getElem?_eq_getElem hkl]; exact List.getElem_mem hkl, by rw [e]; rfl⟩)
    have HNx := hid (fun (e : offE ⟨KQ, NQ, FQ, ZQ, iq⟩ (es.getD k en0) = true) j (hj : j < k + 1) => show offE ⟨KQ, NQ, FQ, ZQ, iq⟩ (es.getD j en0) = true from by
     by_cases hc : j < k
     · exact HA.out j hc
     · have : j = k := by omega
       subst this; exact e)
    generalize es.getD k en0 = ee at *
    obtain ⟨K, N, F, Z, id⟩ := ee
    simp only at bx rz hz1 hF
    obtain ⟨z, hz⟩ : ∃ z, Z.length = z := ⟨_, rfl⟩
    rw [hz] at bx rz hz1
    have HZ := hid hz
    have HRz := hid rz
    have HBx := hid bx
    have hstF := fun w a m => run_store Try.prog w a (.float .f64 F) m rfl
    have HKq := hid (show ∀ W, Below wr.heap.size wr W → (W.cell? ⟨p0, 0, none⟩ = some (.int .i64 KQ) ∧ W.cell? ⟨p0, 1, none⟩ = some (.int .i64 NQ) ∧ W.cell? ⟨p0, 2, none⟩ = some (.float .f64 FQ) ∧ W.cell? ⟨p0, 3, none⟩ = some (.slice aq zq cq) ∧ W.cell? ⟨p0, 4, none⟩ = some (.int .i64 iq)) ∧ W.cell? ⟨b, off + k * 5, none⟩ = some (.int .i64 K) ∧ W.cell? ⟨b, off + k * 5 + 1, none⟩ = some (.int .i64 N) ∧ W.cell? ⟨b, off + k * 5 + 2, none⟩ = some (.float .f64 F) ∧ W.cell? ⟨b, off + k * 5 + 3, none⟩ = some (.slice a1 z c1) ∧ W.cell? ⟨b, off + k * 5 + 4, none⟩ = some (.int .i64 id) from fun W bb => by
     have h1 := HP.out; have h2 := HZ0.out; have h3 := HB.out.size
     have r1 := (bb.block p0 (by omega)).trans ((HB.out.block p0 (by omega)).trans HR0.out)
     obtain ⟨y0, y1, y2, y3, y4⟩ := HBx.out.below (HBX.out.trans ((HB.out.trans (bb.mono HB.out.size)).mono HBX.out.size)) (Nat.le_refl _)
     exact ⟨⟨by rw [cell_of_row _ _ _ _ _ _ r1]; rfl, by rw [cell_of_row _ _ _ _ _ _ r1]; rfl, by rw [cell_of_row _ _ _ _ _ _ r1]; rfl, by rw [cell_of_row _ _ _ _ _ _ r1]; rfl, by rw [cell_of_row _ _ _ _ _ _ r1]; rfl⟩, y0, y1, y2, y3, y4⟩)
    have BC := hid ((Still.drew wr).below wr.heap.size)
    clear bx rz hz
    go_wp2_with fail
    refine region_K 99 (fun W => (W.cell? ⟨p0, 0, none⟩ = some (.int .i64 KQ) ∧ W.cell? ⟨p0, 1, none⟩ = some (.int .i64 NQ) ∧ W.cell? ⟨p0, 2, none⟩ = some (.float .f64 FQ) ∧ W.cell? ⟨p0, 3, none⟩ = some (.slice aq zq cq) ∧ W.cell? ⟨p0, 4, none⟩ = some (.int .i64 iq)) ∧ W.cell? ⟨b, off + k * 5, none⟩ = some (.int .i64 K) ∧ W.cell? ⟨b, off + k * 5 + 1, none⟩ = some (.int .i64 N) ∧ W.cell? ⟨b, off + k * 5 + 2, none⟩ = some (.float .f64 F) ∧ W.cell? ⟨b, off + k * 5 + 3, none⟩ = some (.slice a1 z c1) ∧ W.cell? ⟨b, off + k * 5 + 4, none⟩ = some (.int .i64 id)) (by kernel_rfl) (HKq.out _ BC.out) (fun hHeld => ?_)
    generalize wr.drew = vd at *
    refine anyK_take2 (i := 0) (v := ?v0_1) rfl (by kernel_rfl) (by kernel_rfl) (by kernel_rfl) (by rfl) (fun _ _ _ h => h) (by rfl) hHeld ?hy0_1 (some 12) (by rfl) ?rest0_1
    case hy0_1 => (intro W hSw; obtain ⟨⟨x0, x1, x2, x3, x4⟩, x5, x6, x7, x8, x9⟩ := hSw; go_simp; (try with_reducible rfl))
    try simp only [Act.put, List.setIfInBounds_toArray, List.set_cons_succ, List.set_cons_zero]
    refine anyK_take2 (i := 1) (v := ?v1_2) rfl (by kernel_rfl) (by kernel_rfl) (by kernel_rfl) (by rfl) (fun _ _ _ h => h) (by rfl) hHeld ?hy1_2 (some 13) (by rfl) ?rest1_2
    case hy1_2 => (intro W hSw; obtain ⟨⟨x0, x1, x2, x3, x4⟩, x5, x6, x7, x8, x9⟩ := hSw; go_simp; (try with_reducible rfl))
    try simp only [Act.put, List.setIfInBounds_toArray, List.set_cons_succ, List.set_cons_zero]
    refine anyK_take2 (i := 2) (v := ?v2_3) rfl (by kernel_rfl) (by kernel_rfl) (by kernel_rfl) (by rfl) (fun _ _ _ h => h) (by rfl) hHeld ?hy2_3 (some 14) (by rfl) ?rest2_3
    case hy2_3 => (intro W hSw; obtain ⟨⟨x0, x1, x2, x3, x4⟩, x5, x6, x7, x8, x9⟩ := hSw; go_simp; (try with_reducible rfl))
    try simp only [Act.put, List.setIfInBounds_toArray, List.set_cons_succ, List.set_cons_zero]
    refine anyK_take2 (i := 3) (v := ?v3_4) rfl (by kernel_rfl) (by kernel_rfl) (by kernel_rfl) (by rfl) (fun _ _ _ h => h) (by rfl) hHeld ?hy3_4 (some 15) (by rfl) ?rest3_4
    case hy3_4 => (intro W hSw; obtain ⟨⟨x0, x1, x2, x3, x4⟩, x5, x6, x7, x8, x9⟩ := hSw; go_simp; (try with_reducible rfl))
    try simp only [Act.put, List.setIfInBounds_toArray, List.set_cons_succ, List.set_cons_zero]
    refine anyK_take2 (i := 4) (v := ?v4_5) rfl (by kernel_rfl) (by kernel_rfl) (by kernel_rfl) (by rfl) (fun _ _ _ h => h) (by rfl) hHeld ?hy4_5 (some 16) (by rfl) ?rest4_5
    case hy4_5 => (intro W hSw; obtain ⟨⟨x0, x1, x2, x3, x4⟩, x5, x6, x7, x8, x9⟩ := hSw; go_simp; (try with_reducible rfl))
    try simp only [Act.put, List.setIfInBounds_toArray, List.set_cons_succ, List.set_cons_zero]
    refine anyK_step (i := 5) (by kernel_rfl) rfl (fun KP hK => ?_)
    go_simp
    have HWv := hid (HBX.out.trans ((HB.out.trans (BC.out.mono HB.out.size)).mono HBX.out.size))
    refine (spec_less K N F c1 id KQ NQ FQ cq iq hF HQQ.out.2.1 (HRz.out.below HWv.out (Nat.le_refl _)) (HQ.out.below HWv.out (Nat.le_refl _)) hz1 HQQ.out.2.2).mono ?_
    rintro e v1 ⟨rfl, b1⟩
    replace BC := hid (BC.out.trans (b1.mono BC.out.size))
    have HEX1 := hid (show ltE ⟨K, N, F, Z, id⟩ ⟨KQ, NQ, FQ, ZQ, iq⟩ = ltB (cmpI K N F z Z KQ NQ FQ zq ZQ) id iq by unfold ltE cmpE; simp only [HZ.out, HQQ.out.1])
    generalize ltB (cmpI K N F z Z KQ NQ FQ zq ZQ) id iq = X1 at *
    clear b1 hHeld HWv
    go_wp2_with fail
    refine hK.out _ _ (HKq.out _ BC.out) (fun hHeld => ?_)
    clear hK KP
    try simp only [Act.put, List.setIfInBounds_toArray, List.set_cons_succ, List.set_cons_zero]
    cases X1 with
    | true =>
     refine anyK_take2 (i := 6) (v := ?v6_6) rfl (by kernel_rfl) (by kernel_rfl) (by kernel_rfl) (by rfl) (fun _ _ _ h => h) (by rfl) hHeld ?hy6_6 (some 18) (by rfl) ?rest6_6
     case hy6_6 => (intro W hSw; obtain ⟨⟨x0, x1, x2, x3, x4⟩, x5, x6, x7, x8, x9⟩ := hSw; go_simp; (try with_reducible rfl))
     try simp only [Act.put, List.setIfInBounds_toArray, List.set_cons_succ, List.set_cons_zero]
     refine anyK_take2 (i := 7) (v := ?v7_7) rfl (by kernel_rfl) (by kernel_rfl) (by kernel_rfl) (by rfl) (fun _ _ _ h => h) (by rfl) hHeld ?hy7_7 (some 19) (by rfl) ?rest7_7
     case hy7_7 => (intro W hSw; obtain ⟨⟨x0, x1, x2, x3, x4⟩, x5, x6, x7, x8, x9⟩ := hSw; go_simp; (try with_reducible rfl))
     try simp only [Act.put, List.setIfInBounds_toArray, List.set_cons_succ, List.set_cons_zero]
     refine anyK_skip (i := 8) rfl (by kernel_rfl) (by kernel_rfl) (by kernel_rfl) (by kernel_rfl) (fun _ _ _ h => h) (by rfl) hHeld (some 20) (by rfl) ?_
     try simp only [Act.put, List.setIfInBounds_toArray, List.set_cons_succ, List.set_cons_zero]
     refine anyK_skip (i := 9) rfl (by kernel_rfl) (by kernel_rfl) (by kernel_rfl) (by kernel_rfl) (fun _ _ _ h => h) (by rfl) hHeld (some 21) (by rfl) ?_
     try simp only [Act.put, List.setIfInBounds_toArray, List.set_cons_succ, List.set_cons_zero]
     refine anyK_skip (i := 10) rfl (by kernel_rfl) (by kernel_rfl) (by kernel_rfl) (by kernel_rfl) (fun _ _ _ h => h) (by rfl) hHeld (some 22) (by rfl) ?_
     try simp only [Act.put, List.setIfInBounds_toArray, List.set_cons_succ, List.set_cons_zero]
     refine anyK_skip (i := 11) rfl (by kernel_rfl) (by kernel_rfl) (by kernel_rfl) (by kernel_rfl) (fun _ _ _ h => h) (by rfl) hHeld (some 23) (by rfl) ?_
     try simp only [Act.put, List.setIfInBounds_toArray, List.set_cons_succ, List.set_cons_zero]
     refine anyK_skip (i := 12) rfl (by kernel_rfl) (by kernel_rfl) (by kernel_rfl) (by kernel_rfl) (fun _ _ _ h => h) (by rfl) hHeld (some 24) (by rfl) ?_
     try simp only [Act.put, List.setIfInBounds_toArray, List.set_cons_succ, List.set_cons_zero]
     refine anyK_skip (i := 13) rfl (by kernel_rfl) (by kernel_rfl) (by kernel_rfl) (by kernel_rfl) (fun _ _ _ h => h) (by rfl) hHeld (some 25) (by rfl) ?_
     try simp only [Act.put, List.setIfInBounds_toArray, List.set_cons_succ, List.set_cons_zero]
     refine anyK_skip (i := 14) rfl (by kernel_rfl) (by kernel_rfl) (by kernel_rfl) (by kernel_rfl) (fun _ _ _ h => h) (by rfl) hHeld (some 26) (by rfl) ?_
     try simp only [Act.put, List.setIfInBounds_toArray, List.set_cons_succ, List.set_cons_zero]
     refine anyK_take2 (i := 15) (v := ?v15_8) rfl (by kernel_rfl) (by kernel_rfl) (by kernel_rfl) (by rfl) (fun _ _ _ h => h) (by rfl) hHeld ?hy15_8 (some 27) (by rfl) ?rest15_8
     case hy15_8 => (intro W hSw; obtain ⟨⟨x0, x1, x2, x3, x4⟩, x5, x6, x7, x8, x9⟩ := hSw; go_simp; (try with_reducible rfl))
     try simp only [Act.put, List.setIfInBounds_toArray, List.set_cons_succ, List.set_cons_zero]
     refine anyK_done (by kernel_rfl) ?_ _
     clear hHeld
     have HNo := hid (HNx.out (by unfold offE; rw [HEX1.out, Bool.true_or]))
     have HB9 := hid (HB.out.trans (BC.out.mono HB.out.size))
     go_wp2_with fail
     go_roundw
     case rel => exact ⟨k + 1, by omega, by go_num, HNo, HB9⟩
     case measure => simp [intOf]; omega
    | false =>
     refine anyK_take2 (i := 6) (v := ?v6_9) rfl (by kernel_rfl) (by kernel_rfl) (by kernel_rfl) (by rfl) (fun _ _ _ h => h) (by rfl) hHeld ?hy6_9 (some 18) (by rfl) ?rest6_9
     case hy6_9 => (intro W hSw; obtain ⟨⟨x0, x1, x2, x3, x4⟩, x5, x6, x7, x8, x9⟩ := hSw; go_simp; (try with_reducible rfl))
     try simp only [Act.put, List.setIfInBounds_toArray, List.set_cons_succ, List.set_cons_zero]
     refine anyK_take2 (i := 7) (v := ?v7_10) rfl (by kernel_rfl) (by kernel_rfl) (by kernel_rfl) (by rfl) (fun _ _ _ h => h) (by rfl) hHeld ?hy7_10 (some 19) (by rfl) ?rest7_10
     case hy7_10 => (intro W hSw; obtain ⟨⟨x0, x1, x2, x3, x4⟩, x5, x6, x7, x8, x9⟩ := hSw; go_simp; (try with_reducible rfl))
     try simp only [Act.put, List.setIfInBounds_toArray, List.set_cons_succ, List.set_cons_zero]
     refine anyK_take2 (i := 8) (v := ?v8_11) rfl (by kernel_rfl) (by kernel_rfl) (by kernel_rfl) (by rfl) (fun _ _ _ h => h) (by rfl) hHeld ?hy8_11 (some 20) (by rfl) ?rest8_11
     case hy8_11 => (intro W hSw; obtain ⟨⟨x0, x1, x2, x3, x4⟩, x5, x6, x7, x8, x9⟩ := hSw; go_simp; (try with_reducible rfl))
     try simp only [Act.put, List.setIfInBounds_toArray, List.set_cons_succ, List.set_cons_zero]
     refine anyK_take2 (i := 9) (v := ?v9_12) rfl (by kernel_rfl) (by kernel_rfl) (by kernel_rfl) (by rfl) (fun _ _ _ h => h) (by rfl) hHeld ?hy9_12 (some 21) (by rfl) ?rest9_12
     case hy9_12 => (intro W hSw; obtain ⟨⟨x0, x1, x2, x3, x4⟩, x5, x6, x7, x8, x9⟩ := hSw; go_simp; (try with_reducible rfl))
     try simp only [Act.put, List.setIfInBounds_toArray, List.set_cons_succ, List.set_cons_zero]
     refine anyK_take2 (i := 10) (v := ?v10_13) rfl (by kernel_rfl) (by kernel_rfl) (by kernel_rfl) (by rfl) (fun _ _ _ h => h) (by rfl) hHeld ?hy10_13 (some 22) (by rfl) ?rest10_13
     case hy10_13 => (intro W hSw; obtain ⟨⟨x0, x1, x2, x3, x4⟩, x5, x6, x7, x8, x9⟩ := hSw; go_simp; (try with_reducible rfl))
     try simp only [Act.put, List.setIfInBounds_toArray, List.set_cons_succ, List.set_cons_zero]
     refine anyK_take2 (i := 11) (v := ?v11_14) rfl (by kernel_rfl) (by kernel_rfl) (by kernel_rfl) (by rfl) (fun _ _ _ h => h) (by rfl) hHeld ?hy11_14 (some 23) (by rfl) ?rest11_14
     case hy11_14 => (intro W hSw; obtain ⟨⟨x0, x1, x2, x3, x4⟩, x5, x6, x7, x8, x9⟩ := hSw; go_simp; (try with_reducible rfl))
     try simp only [Act.put, List.setIfInBounds_toArray, List.set_cons_succ, List.set_cons_zero]
     refine anyK_take2 (i := 12) (v := ?v12_15) rfl (by kernel_rfl) (by kernel_rfl) (by kernel_rfl) (by rfl) (fun _ _ _ h => h) (by rfl) hHeld ?hy12_15 (some 24) (by rfl) ?rest12_15
     case hy12_15 => (intro W hSw; obtain ⟨⟨x0, x1, x2, x3, x4⟩, x5, x6, x7, x8, x9⟩ := hSw; go_simp; (try with_reducible rfl))
     try simp only [Act.put, List.setIfInBounds_toArray, List.set_cons_succ, List.set_cons_zero]
     refine anyK_step (i := 13) (by kernel_rfl) rfl (fun KP hK => ?_)
     go_simp
     have HWv := hid (HBX.out.trans ((HB.out.trans (BC.out.mono HB.out.size)).mono HBX.out.size))
     refine (spec_less KQ NQ FQ cq iq K N F c1 id HQQ.out.2.1 hF (HQ.out.below HWv.out (Nat.le_refl _)) (HRz.out.below HWv.out (Nat.le_refl _)) HQQ.out.2.2 hz1).mono ?_
     rintro e v2 ⟨rfl, b1⟩
     replace BC := hid (BC.out.trans (b1.mono BC.out.size))
     have HEX2 := hid (show ltE ⟨KQ, NQ, FQ, ZQ, iq⟩ ⟨K, N, F, Z, id⟩ = ltB (cmpI KQ NQ FQ zq ZQ K N F z Z) iq id by unfold ltE cmpE; simp only [HZ.out, HQQ.out.1])
     generalize ltB (cmpI KQ NQ FQ zq ZQ K N F z Z) iq id = X2 at *
     clear b1 hHeld HWv
     go_wp2_with fail
     refine hK.out _ _ (HKq.out _ BC.out) (fun hHeld => ?_)
     clear hK KP
     try simp only [Act.put, List.setIfInBounds_toArray, List.set_cons_succ, List.set_cons_zero]
     cases X2 with
     | true =>
      refine anyK_take2 (i := 14) (v := ?v14_16) rfl (by kernel_rfl) (by kernel_rfl) (by kernel_rfl) (by rfl) (fun _ _ _ h => h) (by rfl) hHeld ?hy14_16 (some 26) (by rfl) ?rest14_16
      case hy14_16 => (intro W hSw; obtain ⟨⟨x0, x1, x2, x3, x4⟩, x5, x6, x7, x8, x9⟩ := hSw; go_simp; (try with_reducible rfl))
      try simp only [Act.put, List.setIfInBounds_toArray, List.set_cons_succ, List.set_cons_zero]
      refine anyK_take2 (i := 15) (v := ?v15_17) rfl (by kernel_rfl) (by kernel_rfl) (by kernel_rfl) (by rfl) (fun _ _ _ h => h) (by rfl) hHeld ?hy15_17 (some 27) (by rfl) ?rest15_17
      case hy15_17 => (intro W hSw; obtain ⟨⟨x0, x1, x2, x3, x4⟩, x5, x6, x7, x8, x9⟩ := hSw; go_simp; (try with_reducible rfl))
      try simp only [Act.put, List.setIfInBounds_toArray, List.set_cons_succ, List.set_cons_zero]
      refine anyK_done (by kernel_rfl) ?_ _
      clear hHeld
      have HNo := hid (HNx.out (by unfold offE; rw [HEX2.out, Bool.or_true]))
      have HB9 := hid (HB.out.trans (BC.out.mono HB.out.size))
      go_wp2_with fail
      go_roundw
      case rel => exact ⟨k + 1, by omega, by go_num, HNo, HB9⟩
      case measure => simp [intOf]; omega
     | false =>
      refine anyK_take2 (i := 14) (v := ?v14_18) rfl (by kernel_rfl) (by kernel_rfl) (by kernel_rfl) (by rfl) (fun _ _ _ h => h) (by rfl) hHeld ?hy14_18 (some 26) (by rfl) ?rest14_18
      case hy14_18 => (intro W hSw; obtain ⟨⟨x0, x1, x2, x3, x4⟩, x5, x6, x7, x8, x9⟩ := hSw; go_simp; (try with_reducible rfl))
      try simp only [Act.put, List.setIfInBounds_toArray, List.set_cons_succ, List.set_cons_zero]
      refine anyK_take2 (i := 15) (v := ?v15_19) rfl (by kernel_rfl) (by kernel_rfl) (by kernel_rfl) (by rfl) (fun _ _ _ h => h) (by rfl) hHeld ?hy15_19 (some 27) (by rfl) ?rest15_19
      case hy15_19 => (intro W hSw; obtain ⟨⟨x0, x1, x2, x3, x4⟩, x5, x6, x7, x8, x9⟩ := hSw; go_simp; (try with_reducible rfl))
      try simp only [Act.put, List.setIfInBounds_toArray, List.set_cons_succ, List.set_cons_zero]
      refine anyK_done (by kernel_rfl) ?_ _
      clear hHeld
      have HYes := hid (HOne.out (by unfold offE; rw [HEX1.out, HEX2.out]; rfl))
      have HB9 := hid (HBX.out.trans ((HB.out.trans (BC.out.mono HB.out.size)).mono HBX.out.size))
      go_wp2_with fail
      go_ret
      exact ⟨by rw [HYes.out]; rfl, HB9.out⟩
  · have hlt' : ¬ (k : Int) < (n : Int) := by omega
    have HNo := hid (show es.any (fun z => !offE ⟨KQ, NQ, FQ, ZQ, iq⟩ z) = false from List.any_eq_false.2 (fun z hz => by
     obtain ⟨j, hj, e⟩ := List.mem_iff_getElem.1 hz
     have := HA.out j (by have := HN.out; omega)
     rw [List.getD_eq_getElem?_getD, List.getElem?_eq_getElem hj, Option.getD_some, e] at this
     rw [this]; simp))
    go_wp2_with fail
    go_ret
    exact ⟨by rw [HNo.out]; rfl, HBX.out.trans (HB.out.mono HBX.out.size)⟩
end Go.Proofs.Ytphmlndkjgldkaa
