/- Texts of this proof in one: Ng11 Nh11. -/
import Derived.Test.YtlkoghdajpbffaaGreatMgp
import Derived.Test.YtlkoghdajpbffaaGreatMgm
import Derived.Maps.AppendAt
/- A node laid as the answer has it. Conditions: at most four entries, five kids, texts of at most 2^21 bytes. -/



namespace Go.Proofs.YtlkoghdajpbffaaGreat
open Go.RowKit
set_option maxRecDepth 100000
section
variable {P : Program} {w : World}
theorem step_append11 {ops : Array Oper} {o : Oper} {a : Act} {K : Act → World → Prop} {Q : Exit → Act → World → Prop} {E : Prop} (hgd : o.guard = none) (s x : Operand) (t : TypeId)
 (ho : o.op = .call { callee := .builtin .append, args := #[s, x], argTypes := #[t, t] })
 (base : Nat) (e : TypeId) (i : TypeInfo) (z : Value) (size bytes : Nat) (ht : P.underlying t = some (.slice e)) (hi : P.info? e = some i) (hz : i.zero = some z)
 (hsize : i.size = size) (hby : i.bytes = bytes) (hzs : z.cells.size = size) (hsz : 0 < size)
 (v : Value) (n : Nat) (xs : List Value) (hs : a.eval s = v) (hown : w.ownsRow base e size v n xs)
 (ad : Addr) (m c : Nat) (news : List Value) (hx : a.eval x = .slice (some ad) m c) (hl : news.length = m * size) (hnews : ∀ j u, news[j]? = some u → w.cell? (ad.add j) = some u) (h1 : ∀ u ∈ news, u.oneCell' = true)
 (h63 : n + m ≤ maxLen) (hbytes : (n + m) * bytes ≤ 140737488355328) (hbase : base ≤ w.heap.size)
 (h : ∀ a' cap w', w'.ownsRow base e size (.slice a' (n + m) cap) (n + m) (xs ++ news) → w.grownBy w' v.ownBlock → ((Value.slice a' (n + m) cap).ownBlock = v.ownBlock ∨ (Value.slice a' (n + m) cap).ownBlock = some w.heap.size) → K (a.put o.dst (.slice a' (n + m) cap)) w') :
 if Region.wanted o (yielded ops a.tmps) = true then Oper.wp P o a w K Q else E := by
 have hw : Region.wanted o (yielded ops a.tmps) = true := by simp [Region.wanted, hgd]
 rw [if_pos hw]
 obtain ⟨v', w', hr, h2, h3, _, h5⟩ := run_append_own_at (P := P) w base t o.type e i z size bytes ht hi hz hsize hby hzs hsz v n xs hown ad m c news hl hnews h1 h63 hbytes hbase
 obtain ⟨a', c', rfl⟩ := own_sl h2
 unfold Oper.wp execOp
 simp only [ho, resolve, invoke, builtin, Sem.run_bind, Sem.run_pure, Result.andThen_ok, List.map_toArray, List.map_cons, List.map_nil, hs, hx, hr]
 exact h a' c' w' h2 h3 h5
end
theorem size_nd11 : (Tryz.prog.info? 61).map (·.size) = some 3 := by kernel_rfl
structure NodeR (w : World) (g : Nat) (x : Int) (d : Nd) : Prop where
 ex : ∃ (a : Option Addr) (c : Nat) (ka : Option Addr) (kc : Nat) (gs : List Nat), w.heap[g]? = some (.cells #[.int .i64 x, .bool d.leaf, .slice a d.es.length c, .slice ka gs.length kc] 112) ∧ ReadsE w a d.es ∧ gs.length = d.ks.length ∧ (gs.length = 0 ∨ ∃ kb ko, ka = some ⟨kb, ko, none⟩ ∧ ∀ i, i < gs.length → w.cell? ⟨kb, ko + i, none⟩ = some (.pointer (some ⟨gs.getD i 0, 0, none⟩))) ∧ ∀ i, i < gs.length → w.cell? ⟨gs.getD i 0, 0, none⟩ = some (.int .i64 (d.ks.getD i 0))
theorem NodeR.below {w w' : World} {g : Nat} {x : Int} {d : Nd} (h : NodeR w g x d) (hb : Below w.heap.size w w') : NodeR w' g x d := by
 obtain ⟨a, c, ka, kc, gs, h1, h2, h3, h4, h5⟩ := h.ex
 have cc : ∀ {p : Addr} {v : Value}, w.cell? p = some v → w'.cell? p = some v := fun e => (hb.cell (World.block_lt_of_cell? w _ e)).trans e
 refine ⟨a, c, ka, kc, gs, (hb.block g (qL h1)).trans h1, h2.below hb qN, h3, ?_, fun i hi => cc (h5 i hi)⟩
 rcases h4 with h4 | ⟨kb, ko, e, h4⟩
 · exact .inl h4
 · exact .inr ⟨kb, ko, e, fun i hi => cc (h4 i hi)⟩
structure LdS (w : World) (r0 pB : Nat) (lf : Bool) (es : List En) (ks : List Int) (y kv : Value) (wx : World) : Prop where
 box : wx.heap[pB]? = some (.cells #[.bool lf, y, kv] 61 (0, 0))
 res : wx.heap[r0]? = some (.cells #[.bool false, .slice none 0 0, .slice none 0 0] 61)
 mem : ∃ l h m, w.heap.size ≤ l ∧ h ≤ m ∧ l ≤ m ∧ m ≤ wx.heap.size ∧ (pB < l ∨ h ≤ pB) ∧ (r0 < l ∨ h ≤ r0) ∧ pB < m ∧ r0 < m ∧ OwnE wx l h y es ∧ OwnK wx m wx.heap.size kv ks
 bel : Below w.heap.size w wx
 pos : w.heap.size ≤ r0 ∧ w.heap.size ≤ pB ∧ r0 ≠ pB
set_option maxHeartbeats 12800000 in
theorem impl_laid {g : Nat} {x : Int} {d : Nd} {w : World} (h : NodeR w g x d) (hes : d.es.length ≤ 4) (hks : d.ks.length ≤ 5) (hm : ∀ j, (d.es.getD j en0).Z.length ≤ 2097152) (hkb : ∀ i, -9223372036854775808 ≤ d.ks.getD i 0 ∧ d.ks.getD i 0 ≤ 9223372036854775807) :
 Calls Tryz.prog 61 #[.pointer (some ⟨g, 0, none⟩)] w fun e w' => ∃ y1 y2, e = .returned (.agg #[.bool d.leaf, y1, y2]) ∧ OwnD1 w' w.heap.size w'.heap.size (y1, y2) d ∧ Below w.heap.size w w' := by
 have HN := hid h
 obtain ⟨a, c, ka, kc, gs, h1, h2, h3, h4, h5⟩ := h.ex
 have HKN := hid h3
 obtain ⟨n, hn⟩ : ∃ n, d.es.length = n := ⟨_, rfl⟩
 obtain ⟨m, hmm⟩ : ∃ m, gs.length = m := ⟨_, rfl⟩
 rw [hn, hmm] at h1
 rw [hmm] at h4 h5
 have hm5 : m ≤ 5 := by omega
 have hn4 : n ≤ 4 := by omega
 have HA := hid (Below.alloc1 w (.cells #[.bool false, .slice none 0 0, .slice none 0 0] 61))
 have HR0 := hid (heap_alloc_new w (.cells #[.bool false, .slice none 0 0, .slice none 0 0] 61))
 have HZ0 := hid (alloc_size w (.cells #[.bool false, .slice none 0 0, .slice none 0 0] 61))
 have HG := hid (show g < w.heap.size ∧ w.heap[g]? = some (.cells #[.int .i64 x, .bool d.leaf, .slice a n c, .slice ka m kc] 112) from ⟨(qL h1), h1⟩)
 have HE := hid h2
 have HPt := hid h4
 have HNum := hid h5
 have HNn := hid hn
 have HNm := hid hmm
 have HM := hid hm
 have HKb := hid hkb
 clear h h1 h2 h3 h4 h5 hn hmm hm hkb
 go_enter Tryz.func61, Tryz.ntmps61
 go_upto_region 1 with fail
 generalize w.alloc (.cells #[.bool false, .slice none 0 0, .slice none 0 0] 61) = w1 at *
 obtain ⟨r0, hr0⟩ : ∃ r0, w.heap.size = r0 := ⟨_, rfl⟩
 have HP := hid hr0
 rw [hr0] at HR0
 try simp only [hr0]
 clear hr0
 go_cut [3] (fun s3 wx => ∃ (pB : Nat) (ay : Option Addr) (cy : Nat), s3 = .pointer (some ⟨pB, 0, none⟩) ∧ Hid (LdS w r0 pB d.leaf d.es [] (.slice ay n cy) (.slice none 0 0) wx))
 case first =>
  have HKp := hid (show ∀ W, Below w1.heap.size w1 W → W.cell? ⟨g, 1, none⟩ = some (.bool d.leaf) ∧ W.cell? ⟨g, 2, none⟩ = some (.slice a n c) from fun W b => by
   have r1 : W.heap[g]? = _ := ((HA.out.trans (b.mono HA.out.size)).block g HG.out.1).trans HG.out.2
   exact ⟨qC r1, qC r1⟩)
  have BC := hid ((Still.drew w1).below w1.heap.size)
  refine region_K 99 (fun W => W.cell? ⟨g, 1, none⟩ = some (.bool d.leaf) ∧ W.cell? ⟨g, 2, none⟩ = some (.slice a n c)) (by kernel_rfl) (HKp.out _ BC.out) (fun hh => ?_)
  have HBd := hid (show w1.heap.size ≤ w1.drew.heap.size from Nat.le_refl _)
  generalize w1.drew = vd at *
  refine qT 0 rfl hh 6 rfl ?_
  refine qT 1 rfl hh 7 rfl ?_
  refine qT 2 rfl hh 8 rfl ?_
  refine qT 3 rfl hh 9 rfl ?_
  refine qT 4 rfl hh 10 rfl ?_
  refine qT 5 rfl hh 11 rfl ?_
  refine qT 6 rfl hh 12 rfl ?_
  refine qT 7 rfl hh 13 rfl ?_
  refine anyK_two (i := 8) (j := 10) (by kernel_rfl) rfl rfl (fun KP hK => ?_) (fun KP hK => ?_)
  · go_simp
    have HBw1 := hid (HA.out.trans (BC.out.mono HA.out.size))
    refine (impl_copied c (HE.out.below HBw1.out qN) HNn.out (by omega) HM.out).mono ?_
    rintro e v1 ⟨y, rfl, oe, b1⟩
    obtain ⟨ay, cy, ey⟩ := oe.slice
    rw [HNn.out] at ey
    subst ey
    have HOE1 := hid oe
    replace BC := hid (BC.out.trans (b1.mono BC.out.size))
    have HSv := hid b1.size
    have HSd := hid (show w1.heap.size ≤ vd.heap.size from HBd.out)
    clear oe b1 hh HBw1
    go_wp2_with fail
    refine hK.out _ _ (HKp.out _ BC.out) (fun hh => ?_)
    clear hK KP
    try simp only [qP]
    refine qT 9 rfl hh 15 rfl ?_
    refine qS 10 rfl fun KP hK => ?_
    go_simp
    have HBA := hid (Below.alloc1 v1 (.cells #[.bool false, .slice none 0 0, .slice none 0 0] 61))
    have HBx := hid (heap_alloc_new v1 (.cells #[.bool false, .slice none 0 0, .slice none 0 0] 61))
    have HBz := hid (alloc_size v1 (.cells #[.bool false, .slice none 0 0, .slice none 0 0] 61))
    have BCw := hid (BC.out.trans (HBA.out.mono BC.out.size))
    clear hh
    refine hK.out _ _ (HKp.out _ BCw.out) (fun hh => ?_)
    clear hK KP
    try simp only [qP]
    generalize v1.alloc (.cells #[.bool false, .slice none 0 0, .slice none 0 0] 61) = v2 at *
    obtain ⟨pB, hpB⟩ : ∃ pB, v1.heap.size = pB := ⟨_, rfl⟩
    have HpB := hid hpB
    rw [hpB] at HBx
    try simp only [hpB]
    clear hpB
    have HRs := hid ((BCw.out.block r0 (by have := HZ0.out; have := HP.out; omega)).trans HR0.out)
    have HBw := hid (HA.out.trans (BCw.out.mono HA.out.size))
    have HPos := hid (show w.heap.size ≤ r0 ∧ w.heap.size ≤ pB ∧ r0 ≠ pB ∧ pB < v2.heap.size ∧ r0 < v2.heap.size by have := HZ0.out; have := HP.out; have := HpB.out; have := HBz.out; have := HSv.out; have := HSd.out; omega)
    have HOE := hid (show ∃ l h, w.heap.size ≤ l ∧ h ≤ v2.heap.size ∧ l ≤ v2.heap.size ∧ (pB < l ∨ h ≤ pB) ∧ (r0 < l ∨ h ≤ r0) ∧ OwnE v2 l h (.slice ay n cy) d.es from by
     have := HZ0.out; have := HP.out; have := HpB.out; have := HBz.out; have := HSv.out; have := HSd.out
     exact ⟨vd.heap.size, v1.heap.size, by omega, by omega, by omega, .inr (by omega), .inl (by omega), HOE1.out.below HBA.out qN⟩)
    refine qS 11 rfl fun KP hK => ?_
    refine wp_store_row 61 (.tmp 3) (.tmp 15) rfl pB #[.bool d.leaf, .slice ay n cy, .slice none 0 0] rfl rfl 61 _ HBx.out size_nd11 rfl (by simp [Value.oneCell']) ?_
    have HFin := hid (show LdS w r0 pB d.leaf d.es [] (.slice ay n cy) (.slice none 0 0) (v2.setRow pB #[.bool d.leaf, .slice ay n cy, .slice none 0 0]) from by
     have g2 := row_grown11 v2 pB #[.bool d.leaf, .slice ay n cy, .slice none 0 0]
     have hp := HPos.out
     have hb2 := HBw.out
     obtain ⟨l, h, l1, l2, l5, l3, l4, oe⟩ := HOE.out
     have hsz : (v2.setRow pB #[.bool d.leaf, .slice ay n cy, .slice none 0 0]).heap.size = v2.heap.size := by simp
     refine ⟨setRow_heap _ _ _ _ _ _ HBx.out, (g2.block r0 (by omega) (by simp; omega)).trans HRs.out, ⟨l, h, v2.heap.size, l1, l2, l5, by rw [hsz]; exact Nat.le_refl _, l3, l4, by omega, by omega, oe.agree (fun k k1 k2 => g2.block k (by omega) (by simp; omega)), OwnK.nil _ _ _⟩, below_setRow hb2 (by omega) _, by omega⟩)
    clear hh
    refine hK.out _ _ (by
     have q := HKp.out _ BCw.out
     have g2 := row_grown11 v2 pB #[.bool d.leaf, .slice ay n cy, .slice none 0 0]
     have hp := HPos.out
     have hz := HZ0.out
     have h1 := HG.out.1
     exact ⟨g2.cell q.1 (by simp; omega), g2.cell q.2 (by simp; omega)⟩) (fun hh => ?_)
    clear hK KP
    try simp only [Act.put]
    refine anyK_done (by kernel_rfl) ?_ _
    clear hh
    go_wp2_with fail
    go_meet
    exact ⟨pB, ay, cy, rfl, HFin⟩
  · go_simp
    have HBA := hid (Below.alloc1 vd (.cells #[.bool false, .slice none 0 0, .slice none 0 0] 61))
    have HBx0 := hid (heap_alloc_new vd (.cells #[.bool false, .slice none 0 0, .slice none 0 0] 61))
    have HBz := hid (alloc_size vd (.cells #[.bool false, .slice none 0 0, .slice none 0 0] 61))
    replace BC := hid (BC.out.trans (HBA.out.mono BC.out.size))
    clear hh
    refine hK.out _ _ (HKp.out _ BC.out) (fun hh => ?_)
    clear hK KP
    try simp only [qP]
    generalize vd.alloc (.cells #[.bool false, .slice none 0 0, .slice none 0 0] 61) = v1 at *
    obtain ⟨pB, hpB⟩ : ∃ pB, vd.heap.size = pB := ⟨_, rfl⟩
    have HpB := hid hpB
    have HSd := hid (show w1.heap.size ≤ pB from by rw [← hpB]; exact HBd.out)
    rw [hpB] at HBx0 HBz
    try simp only [hpB]
    clear hpB
    refine qS 8 rfl fun KP hK => ?_
    go_simp
    have HBw1 := hid (HA.out.trans (BC.out.mono HA.out.size))
    refine (impl_copied c (HE.out.below HBw1.out qN) HNn.out (by omega) HM.out).mono ?_
    rintro e v2 ⟨y, rfl, oe, b1⟩
    obtain ⟨ay, cy, ey⟩ := oe.slice
    rw [HNn.out] at ey
    subst ey
    have HOE1 := hid oe
    have BCw := hid (BC.out.trans (b1.mono BC.out.size))
    have HBx := hid ((b1.block pB (by have := HBz.out; omega)).trans HBx0.out)
    have HSv := hid b1.size
    clear oe b1 hh HBw1
    go_wp2_with fail
    refine hK.out _ _ (HKp.out _ BCw.out) (fun hh => ?_)
    clear hK KP
    try simp only [qP]
    refine qT 9 rfl hh 15 rfl ?_
    have HRs := hid ((BCw.out.block r0 (by have := HZ0.out; have := HP.out; omega)).trans HR0.out)
    have HBw := hid (HA.out.trans (BCw.out.mono HA.out.size))
    have HPos := hid (show w.heap.size ≤ r0 ∧ w.heap.size ≤ pB ∧ r0 ≠ pB ∧ pB < v2.heap.size ∧ r0 < v2.heap.size by have := HZ0.out; have := HP.out; have := HBz.out; have := HSv.out; have := HSd.out; omega)
    have HOE := hid (show ∃ l h, w.heap.size ≤ l ∧ h ≤ v2.heap.size ∧ l ≤ v2.heap.size ∧ (pB < l ∨ h ≤ pB) ∧ (r0 < l ∨ h ≤ r0) ∧ OwnE v2 l h (.slice ay n cy) d.es from by
     have := HZ0.out; have := HP.out; have := HBz.out; have := HSv.out; have := HSd.out
     exact ⟨v1.heap.size, v2.heap.size, by omega, by omega, by omega, .inl (by omega), .inl (by omega), HOE1.out⟩)
    refine qS 11 rfl fun KP hK => ?_
    refine wp_store_row 61 (.tmp 3) (.tmp 15) rfl pB #[.bool d.leaf, .slice ay n cy, .slice none 0 0] rfl rfl 61 _ HBx.out size_nd11 rfl (by simp [Value.oneCell']) ?_
    have HFin := hid (show LdS w r0 pB d.leaf d.es [] (.slice ay n cy) (.slice none 0 0) (v2.setRow pB #[.bool d.leaf, .slice ay n cy, .slice none 0 0]) from by
     have g2 := row_grown11 v2 pB #[.bool d.leaf, .slice ay n cy, .slice none 0 0]
     have hp := HPos.out
     have hb2 := HBw.out
     obtain ⟨l, h, l1, l2, l5, l3, l4, oe⟩ := HOE.out
     have hsz : (v2.setRow pB #[.bool d.leaf, .slice ay n cy, .slice none 0 0]).heap.size = v2.heap.size := by simp
     refine ⟨setRow_heap _ _ _ _ _ _ HBx.out, (g2.block r0 (by omega) (by simp; omega)).trans HRs.out, ⟨l, h, v2.heap.size, l1, l2, l5, by rw [hsz]; exact Nat.le_refl _, l3, l4, by omega, by omega, oe.agree (fun k k1 k2 => g2.block k (by omega) (by simp; omega)), OwnK.nil _ _ _⟩, below_setRow hb2 (by omega) _, by omega⟩)
    clear hh
    refine hK.out _ _ (by
     have q := HKp.out _ BCw.out
     have g2 := row_grown11 v2 pB #[.bool d.leaf, .slice ay n cy, .slice none 0 0]
     have hp := HPos.out
     have hz := HZ0.out
     have h1 := HG.out.1
     exact ⟨g2.cell q.1 (by simp; omega), g2.cell q.2 (by simp; omega)⟩) (fun hh => ?_)
    clear hK KP
    try simp only [Act.put]
    refine anyK_done (by kernel_rfl) ?_ _
    clear hh
    go_wp2_with fail
    go_meet
    exact ⟨pB, ay, cy, rfl, HFin⟩
 case rest =>
  obtain ⟨pB, ay, cy, rfl, HS⟩ := hcut
  have HGc := hid (show wc.heap[g]? = some (.cells #[.int .i64 x, .bool d.leaf, .slice a n c, .slice ka m kc] 112) from (HS.out.bel.block g HG.out.1).trans HG.out.2)
  have c3 : wc.cell? ⟨g, 3, none⟩ = some (.slice ka m kc) := qC HGc.out
  clear HGc
  go_wp2_with fail
  go_loopw [21] (fun s wr => ∃ (k : Nat) (kv : Value), k ≤ m ∧ s = .int .i64 k ∧ Hid (LdS w r0 pB d.leaf d.es (d.ks.take k) (.slice ay n cy) kv wr)) (fun s _ => m - (intOf s).toNat)
  case atStart => exact ⟨0, _, Nat.zero_le _, rfl, HS⟩
  case round =>
   clear HS c3
   obtain ⟨k, kv, hk, rfl, HS⟩ := hrel
   by_cases hlt : k < m
   · have hlt' : (k : Int) < (m : Int) := by omega
     have hk0 : (0 : Int) ≤ (k : Int) := by omega
     have hkl : k < d.ks.length := by have := HKN.out; have := HNm.out; omega
     obtain ⟨kb, ko, hkbb, hcc⟩ : ∃ kb ko, ka = some ⟨kb, ko, none⟩ ∧ ∀ i, i < m → w.cell? ⟨kb, ko + i, none⟩ = some (.pointer (some ⟨gs.getD i 0, 0, none⟩)) := by
      rcases HPt.out with h0 | h0
      · omega
      · exact h0
     subst hkbb
     have cw : ∀ {p : Addr} {v : Value}, w.cell? p = some v → wr.cell? p = some v := fun e => (HS.out.bel.cell (World.block_lt_of_cell? w _ e)).trans e
     have c4 := cw (hcc k hlt)
     have c5 := cw (HNum.out k hlt)
     have hgl := World.block_lt_of_cell? w _ (HNum.out k hlt)
     have hzb := HKb.out k
     have HT := hid (take_snoc d.ks k 0 hkl)
     generalize d.ks.getD k 0 = z at *
     generalize gs.getD k 0 = gk at *
     obtain ⟨l, h, m0, l1, l2, l3, l4, l5, l6, l7, l8, oe, ok⟩ := HS.out.mem
     obtain ⟨av, cv, hkv⟩ := ok.slice
     have hkl2 : (d.ks.take k).length = k := by rw [List.length_take]; omega
     rw [hkl2] at hkv
     subst hkv
     have c6 : wr.cell? ⟨pB, 2, none⟩ = some (.slice av k cv) := qC HS.out.box
     have HC := hid (show (fun W => W.cell? ⟨pB, 2, none⟩ = some (.slice av k cv) ∧ W.cell? ⟨gk, 0, none⟩ = some (.int .i64 z)) wr from ⟨c6, c5⟩)
     have HGl := hid hgl
     have HOk := hid ok
     have HOe := hid oe
     have HL := hid (show w.heap.size ≤ l ∧ h ≤ m0 ∧ l ≤ m0 ∧ m0 ≤ wr.heap.size ∧ (pB < l ∨ h ≤ pB) ∧ (r0 < l ∨ h ≤ r0) ∧ pB < m0 ∧ r0 < m0 from ⟨l1, l2, l3, l4, l5, l6, l7, l8⟩)
     have HL2 := hid hkl2
     clear c5 c6 cw hcc hgl oe ok l1 l2 l3 l4 l5 l6 l7 l8 hkl2 hkl
     go_wp2_with fail
     clear c4
     refine region_K 9 (fun W => W.cell? ⟨pB, 2, none⟩ = some (.slice av k cv) ∧ W.cell? ⟨gk, 0, none⟩ = some (.int .i64 z)) (by kernel_rfl) HC.out (fun hh => ?_)
     have HBd := hid (show wr.drew.heap = wr.heap from rfl)
     have HBw := hid (show Below wr.heap.size wr wr.drew from (Still.drew wr).below _)
     generalize wr.drew = vd at *
     refine qA 0 rfl hh 25 rfl ?_
     refine qA 1 rfl hh 26 rfl ?_
     refine qA 2 rfl hh 27 rfl ?_
     refine qA 3 rfl hh 28 rfl ?_
     refine qA 4 rfl hh 29 rfl ?_
     refine qA 5 rfl hh 30 rfl ?_
     refine qS 6 rfl fun KP hK => ?_
     go_simp
     have HBA := hid (Below.alloc1 vd (.cells #[.int .i64 z] 3))
     have HN1 := hid (heap_alloc_new vd (.cells #[.int .i64 z] 3))
     have HBz := hid (alloc_size vd (.cells #[.int .i64 z] 3))
     have HB2 := hid (HBw.out.trans (HBA.out.mono HBw.out.size))
     have HC2 := hid (show (fun W => W.cell? ⟨pB, 2, none⟩ = some (.slice av k cv) ∧ W.cell? ⟨gk, 0, none⟩ = some (.int .i64 z)) (vd.alloc (.cells #[.int .i64 z] 3)) from ⟨(HB2.out.cell (World.block_lt_of_cell? wr _ HC.out.1)).trans HC.out.1, (HB2.out.cell (World.block_lt_of_cell? wr _ HC.out.2)).trans HC.out.2⟩)
     clear hh
     refine hK.out _ _ HC2.out (fun hh => ?_)
     clear hK KP
     try simp only [qP]
     generalize vd.alloc (.cells #[.int .i64 z] 3) = v1 at *
     obtain ⟨i0, hi0, hz0, hz1, hz2⟩ := info_parts Tryz.infoI
     have HO1 := hid (HOk.out.agree (Agree.below HB2.out qN))
     have oR := HO1.out.own
     rw [HL2.out] at oR
     have HRow := hid oR
     clear oR
     have hls := HL.out.2.2.2.1
     have hls2 := HB2.out.size
     refine qS 7 rfl fun KP hK => ?_
     refine step_append11 rfl _ _ 59 rfl m0 3 i0 (.int .i64 0) 1 8 Tryz.underlying59 hi0 hz0 hz1 hz2 rfl (by decide) _ k _ rfl HRow.out ⟨vd.heap.size, 0, none⟩ 1 1 [.int .i64 z] rfl rfl (World.news_of_block HN1.out) ?g2f (by unfold maxLen; omega) (by omega) (by omega) ?_
     case g2f => intro u hu; simp only [List.mem_cons, List.not_mem_nil, or_false] at hu; subst hu; rfl
     intro a8 c8 w8 o8 g8 _
     have HL3 := hid (show m0 ≤ v1.heap.size ∧ v1.heap.size ≤ w8.heap.size ∧ wr.heap.size ≤ v1.heap.size from ⟨by omega, g8.size, hls2⟩)
     have hne : ∀ q, q < m0 → (Value.slice av k cv).ownBlock ≠ some q := fun q hq e => by have := (HRow.out.lt q e).1; omega
     have HBx8 := hid (show w8.heap[pB]? = some (.cells #[.bool d.leaf, .slice ay n cy, .slice av k cv] 61 (0, 0)) from (g8.block pB (by have := HL.out; omega) (fun e => hne pB (by have := HL.out; omega) e.symm)).trans ((HB2.out.block pB (by have := HL.out; omega)).trans HS.out.box))
     have HRs8 := hid ((g8.block r0 (by have := HL.out; omega) (fun e => hne r0 (by have := HL.out; omega) e.symm)).trans ((HB2.out.block r0 (by have := HL.out; omega)).trans HS.out.res))
     have HOe8 := hid (HOe.out.agree (w' := w8) (fun q q1 q2 => (g8.block q (by have := HL.out; omega) (fun e => hne q (by have := HL.out; omega) e.symm)).trans (HB2.out.block q (by have := HL.out; omega))))
     have HBb8 := hid ((HS.out.bel.trans (HB2.out.mono HS.out.bel.size)).grown g8 (HS.out.bel.trans (HB2.out.mono HS.out.bel.size)).size (fun q hq => by have := (HRow.out.lt q hq).1; have := HL.out; omega))
     have HOk8 := hid (show OwnK w8 m0 w8.heap.size (.slice a8 (k + 1) c8) (d.ks.take (k + 1)) from by
      rw [HT.out]
      refine ⟨?_, fun q hq => (o8.lt q hq).2, fun i => ?_⟩
      · rw [List.length_append, HL2.out, List.length_singleton]
        simpa [ins] using o8
      · rw [getD_app]
        split
        · exact HOk.out.bd i
        · rcases getD_mem_or [z] (i - (d.ks.take k).length) 0 with e | e
          · rw [e]; omega
          · rw [List.mem_singleton.1 e]; exact hzb)
     have HC8 := hid (show (fun W => W.cell? ⟨pB, 2, none⟩ = some (.slice av k cv) ∧ W.cell? ⟨gk, 0, none⟩ = some (.int .i64 z)) w8 from ⟨qC HBx8.out, (World.cell?_of_block (w := v1) (a := ⟨gk, 0, none⟩) (g8.block gk (by have := HGl.out; have := HS.out.bel.size; have := HL3.out; omega) (fun e => by have := (HRow.out.lt gk e.symm).1; have := HGl.out; have := HL.out; omega))).trans HC2.out.2⟩)
     have HFin := hid (show LdS w r0 pB d.leaf d.es (d.ks.take (k + 1)) (.slice ay n cy) (.slice a8 (k + 1) c8) (w8.setCell ⟨pB, 2, none⟩ (.slice a8 (k + 1) c8)) from by
      have hL := HL.out
      have hL3 := HL3.out
      have hp := HS.out.pos
      refine ⟨by rw [heap_setCell_same _ _ _ _ _ _ HBx8.out]; rfl, (heap_set_ne _ pB 2 r0 _ (by omega)).trans HRs8.out, ⟨l, h, m0, by omega, by omega, by omega, by rw [set_size]; omega, by omega, by omega, by omega, by omega, HOe8.out.agree (fun q q1 q2 => heap_set_ne _ pB 2 q _ (by omega)), ?_⟩, HBb8.out.setCell (show w.heap.size ≤ (⟨pB, 2, none⟩ : Addr).block by simp only; omega) _, hp⟩
      rw [set_size]
      exact HOk8.out.agree (fun q q1 q2 => heap_set_ne _ pB 2 q _ (by omega)))
     have hfr : w8.frozen? ⟨pB, 2, none⟩ = false := frozen_of_row _ _ _ _ _ HBx8.out
     have HFr := hid hfr
     clear o8 g8 hne hh HRow hls hls2 hfr HBx8 HRs8 HOe8 HBb8 HOk8 HO1 HN1
     refine hK.out _ _ HC8.out (fun hh => ?_)
     clear hK KP
     try simp only [qP]
     refine qS 8 rfl fun KP hK => ?_
     go_simp
     clear hh
     refine hK.out _ _ HC8.out (fun hh => ?_)
     clear hK KP
     try simp only [qP]
     have kc2 := HC8.out.1
     have kf2 := HFr.out
     refine anyK_last (by kernel_rfl) rfl (fun KP hK => ?_)
     go_simp
     refine hK.out _ _ ?_
     clear hK KP hh kc2 kf2
     try simp only [Act.put]
     refine anyK_done (by kernel_rfl) ?_ _
     clear HC8 HFr HC2 HC
     generalize w8.setCell ⟨pB, 2, none⟩ (.slice a8 (k + 1) c8) = w9 at *
     go_wp2_with fail
     go_roundw
     case rel => exact ⟨k + 1, _, by omega, by go_num, HFin⟩
     case measure => simp [intOf]; omega
   · have hlt' : ¬ (k : Int) < (m : Int) := by omega
     obtain ⟨l, h, m0, l1, l2, l3, l4, l5, l6, l7, l8, oe, ok⟩ := HS.out.mem
     rw [List.take_of_length_le (by have := HKN.out; have := HNm.out; omega)] at ok
     obtain ⟨av, cv, hkv⟩ := ok.slice
     obtain ⟨q, hq⟩ : ∃ q, d.ks.length = q := ⟨_, rfl⟩
     rw [hq] at hkv
     subst hkv
     have hp := HS.out.pos
     have g2 := row_grown11 wr r0 #[.bool d.leaf, .slice ay n cy, .slice av q cv]
     have HFin := hid (show OwnD1 (wr.setRow r0 #[.bool d.leaf, .slice ay n cy, .slice av q cv]) w.heap.size (wr.setRow r0 #[.bool d.leaf, .slice ay n cy, .slice av q cv]).heap.size (.slice ay n cy, .slice av q cv) d from by
      have hsz : (wr.setRow r0 #[.bool d.leaf, .slice ay n cy, .slice av q cv]).heap.size = wr.heap.size := by simp
      rw [hsz]
      exact ⟨m0, by omega, by omega, (oe.agree (fun q q1 q2 => g2.block q (by omega) (by simp; omega))).mono l1 l2, ok.agree (fun q q1 q2 => g2.block q (by omega) (by simp; omega))⟩)
     have HBf := hid (below_setRow HS.out.bel hp.1 #[.bool d.leaf, .slice ay n cy, .slice av q cv])
     have HRf := hid (show (wr.setRow r0 #[.bool d.leaf, .slice ay n cy, .slice av q cv]).heap[r0]? = some (.cells #[.bool d.leaf, .slice ay n cy, .slice av q cv] 61 (0, 0)) from setRow_heap _ _ _ _ _ _ HS.out.res)
     have HBx := hid HS.out.box
     have HRs := hid HS.out.res
     clear oe ok g2 l1 l2 l3 l4 l5 l6 l7 l8 hp hq
     go_wp2_with (first
      | (refine wpList_load_row rfl 61 (.tmp 3) rfl pB rfl 61 _ (0, 0) _ HBx.out Tryz.underlying61 rfl size_nd11 ?_)
      | (refine wpList_store_row rfl 61 (.tmp 2) _ rfl r0 #[.bool d.leaf, .slice ay n cy, .slice av q cv] rfl rfl 61 _ HRs.out size_nd11 rfl (by simp [Value.oneCell']) ?_))
     exact bodyPost_ret (results_cell_row Tryz.results61 _ _ r0 61 _ (0, 0) _ rfl HRf.out Tryz.underlying61 rfl size_nd11) rfl ⟨_, _, rfl, HFin.out, HBf.out⟩
end Go.Proofs.YtlkoghdajpbffaaGreat
/- The tree laid as the answer has it. Conditions: at most 300 nodes, each of at most four entries and five kids, texts of at most 2^21 bytes. -/

namespace Go.Proofs.YtlkoghdajpbffaaGreat
open Go.RowKit
set_option maxRecDepth 100000
theorem size_tr11 : (Tryz.prog.info? 33).map (·.size) = some 2 := by kernel_rfl
theorem Tryz.infoNd11 : (Tryz.prog.info? 61).map (fun i => (i.zero, i.size, i.bytes)) = some (some (.agg #[.bool false, .slice none 0 0, .slice none 0 0]), 3, 56) := by kernel_rfl
theorem OwnD.push {w : World} {lo mid : Nat} {v : Value} {ds : List Nd} (h : OwnD w lo mid v ds) (hlo : lo ≤ mid) : ∃ ys, w.ownsRow lo 61 3 v ds.length (cellsD ds ys) ∧ ∀ {w' : World} {v' : Value} {l u : Nat} {y : Value × Value} {d : Nd}, mid ≤ l → l ≤ u → u ≤ w.heap.size → OwnD1 w l u y d → w'.ownsRow lo 61 3 v' (ds.length + 1) (cellsD ds ys ++ cellsD1 d y) → w.grownBy w' v.ownBlock → (v'.ownBlock = v.ownBlock ∨ v'.ownBlock = some w.heap.size) → OwnD w' lo w'.heap.size v' (ds ++ [d]) := by
 obtain ⟨ys, bs, o, hB, hq⟩ := h.own
 refine ⟨ys, o, @fun w' v' l u y d hl hlu hu o1 o' hg hat => ?_⟩
 have hs := hg.size
 have B1 := (hB.aside o (by decide) (by decide) (by decide) hg).snoc (l := l) (u := u) hlo hl (Nat.le_trans hu hs) (by omega) (o1.aside o (by decide) (by decide) (by decide) hg)
 refine ⟨⟨ys ++ [y], bs ++ [(l, u)], ?_, B1, fun i hi g e => ?_⟩, fun g e => (o'.lt g e).2⟩
 · rw [cellsD_app ds [d] ys [y] hB.len, List.length_append, List.length_singleton]
   rw [cellsD_cons, cellsD_nil, List.append_nil]
   exact o'
 · rw [List.length_append, List.length_singleton] at hi
   by_cases hc : i < ds.length
   · rw [getD_app, if_pos (by rw [hB.blen]; exact hc)]
     rcases hat with q | q
     · exact hq i hc g (q ▸ e)
     · rw [q] at e
       have := Option.some.inj e
       have := (hB.inr i hc).2
       exact .inr (by omega)
   · rw [getD_app, if_neg (by rw [hB.blen]; omega), hB.blen, show i - ds.length = 0 by omega]
     show g < l ∨ u ≤ g
     rcases hat with q | q
     · exact .inl (by have := h.top g (q ▸ e); omega)
     · rw [q] at e
       have := Option.some.inj e
       exact .inr (by omega)
structure TabR (w : World) (r N : Nat) (ns : List Nd) : Prop where
 ex : ∃ gs : List Nat, (∀ i, i < N → w.cell? ⟨r, i, none⟩ = some (.pointer (some ⟨gs.getD i 0, 0, none⟩))) ∧ ∀ i, i < N → NodeR w (gs.getD i 0) i (ns.getD i nd0)
structure TrS (w : World) (r0 pB lo : Nat) (root : Int) (ds : List Nd) (v : Value) (wx : World) : Prop where
 box : wx.heap[pB]? = some (.cells #[v, .int .i64 root] 33 (0, 0))
 res : wx.heap[r0]? = some (.cells #[.slice none 0 0, .int .i64 0] 33)
 own : OwnD wx lo wx.heap.size v ds
 bel : Below w.heap.size w wx
 pos : w.heap.size ≤ r0 ∧ w.heap.size ≤ pB ∧ r0 ≠ pB ∧ r0 < lo ∧ pB < lo ∧ lo ≤ wx.heap.size
set_option maxHeartbeats 12800000 in
theorem impl_tree {q r N cN gr : Nat} {root : Int} {ns : List Nd} {w : World} (hq : w.heap[q]? = some (.cells #[.slice (some ⟨r, 0, none⟩) N cN, .pointer (some ⟨gr, 0, none⟩)] 77)) (hroot : w.cell? ⟨gr, 0, none⟩ = some (.int .i64 root)) (hT : TabR w r N ns) (hN : N ≤ 300) (hl : ns.length = N) (hes : ∀ i, (ns.getD i nd0).es.length ≤ 4) (hks : ∀ i, (ns.getD i nd0).ks.length ≤ 5) (hm : ∀ i j, ((ns.getD i nd0).es.getD j en0).Z.length ≤ 2097152) (hkb : ∀ i j, -9223372036854775808 ≤ (ns.getD i nd0).ks.getD j 0 ∧ (ns.getD i nd0).ks.getD j 0 ≤ 9223372036854775807) :
 Calls Tryz.prog 32 #[.pointer (some ⟨q, 0, none⟩)] w fun e w' => ∃ v, e = .returned (.agg #[v, .int .i64 root]) ∧ OwnD w' w.heap.size w'.heap.size v ns ∧ Below w.heap.size w w' := by
 obtain ⟨gs, hp, hn⟩ := hT.ex
 have HP := hid hp
 have HNd := hid hn
 have HQ := hid (show q < w.heap.size ∧ w.heap[q]? = some (.cells #[.slice (some ⟨r, 0, none⟩) N cN, .pointer (some ⟨gr, 0, none⟩)] 77) from ⟨(qL hq), hq⟩)
 have HRo := hid hroot
 have HL := hid hl
 have HEs := hid hes
 have HKs := hid hks
 have HM := hid hm
 have HKb := hid hkb
 have HA := hid (Below.alloc1 w (.cells #[.slice none 0 0, .int .i64 0] 33))
 have HR0 := hid (heap_alloc_new w (.cells #[.slice none 0 0, .int .i64 0] 33))
 have HZ0 := hid (alloc_size w (.cells #[.slice none 0 0, .int .i64 0] 33))
 clear hp hn hq hroot hl hes hks hm hkb hT
 go_enter Tryz.func32, Tryz.ntmps32
 go_upto_region 1 with fail
 generalize w.alloc (.cells #[.slice none 0 0, .int .i64 0] 33) = w1 at *
 obtain ⟨r0, hr0⟩ : ∃ r0, w.heap.size = r0 := ⟨_, rfl⟩
 have HPr := hid hr0
 rw [hr0] at HR0
 try simp only [hr0]
 clear hr0
 have cq : ∀ {p : Addr} {v : Value}, w.cell? p = some v → w1.cell? p = some v := fun e => (HA.out.cell (World.block_lt_of_cell? w _ e)).trans e
 have c1 := cq (show w.cell? ⟨q, 1, none⟩ = some (.pointer (some ⟨gr, 0, none⟩)) by rw [cell_of_row _ _ _ _ _ _ HQ.out.2]; rfl)
 have c2 := cq HRo.out
 have HBB := hid (Below.alloc1 w1 (.cells #[.slice none 0 0, .int .i64 root] 33))
 have HRB := hid (heap_alloc_new w1 (.cells #[.slice none 0 0, .int .i64 root] 33))
 have HZB := hid (alloc_size w1 (.cells #[.slice none 0 0, .int .i64 root] 33))
 have c0 := (HBB.out.cell (World.block_lt_of_cell? w1 _ (cq (show w.cell? ⟨q, 0, none⟩ = some (.slice (some ⟨r, 0, none⟩) N cN) by rw [cell_of_row _ _ _ _ _ _ HQ.out.2]; rfl)))).trans (cq (show w.cell? ⟨q, 0, none⟩ = some (.slice (some ⟨r, 0, none⟩) N cN) by rw [cell_of_row _ _ _ _ _ _ HQ.out.2]; rfl))
 clear cq
 go_wp2_with fail
 clear c0 c1 c2
 generalize w1.alloc (.cells #[.slice none 0 0, .int .i64 root] 33) = w2 at *
 obtain ⟨pB, hpB⟩ : ∃ pB, w1.heap.size = pB := ⟨_, rfl⟩
 have HPb := hid hpB
 rw [hpB] at HRB
 try simp only [hpB]
 clear hpB
 obtain ⟨lo, hlo⟩ : ∃ lo, w2.heap.size = lo := ⟨_, rfl⟩
 have HS := hid (show TrS w r0 pB lo root (ns.take 0) (.slice none 0 0) w2 from ⟨HRB.out, (HBB.out.block r0 (by have := HZ0.out; have := HPr.out; omega)).trans HR0.out, by rw [List.take_zero]; exact OwnD.nil _ _ _, HA.out.trans (HBB.out.mono HA.out.size), by have := HZ0.out; have := HPr.out; have := HPb.out; have := HZB.out; omega⟩)
 clear hlo
 go_loopw [19] (fun s wr => ∃ (k : Nat) (v : Value), k ≤ N ∧ s = .int .i64 k ∧ Hid (TrS w r0 pB lo root (ns.take k) v wr)) (fun s _ => N - (intOf s).toNat)
 case atStart => exact ⟨0, _, Nat.zero_le _, rfl, HS⟩
 case round =>
  clear HS
  obtain ⟨k, v, hk, rfl, HS⟩ := hrel
  by_cases hlt : k < N
  · have hlt' : (k : Int) < (N : Int) := by omega
    have hk0 : (0 : Int) ≤ (k : Int) := by omega
    have hkl : k < ns.length := by have := HL.out; omega
    have c4 := (HS.out.bel.cell (World.block_lt_of_cell? w _ (HP.out k hlt))).trans (HP.out k hlt)
    have HNk := hid (HNd.out k hlt)
    have hes := HEs.out k
    have hks := HKs.out k
    have HMk := hid (HM.out k)
    have HKk := hid (HKb.out k)
    have HT := hid (take_snoc ns k nd0 hkl)
    generalize ns.getD k nd0 = d at *
    generalize gs.getD k 0 = gk at *
    obtain ⟨av, cv, hv⟩ := HS.out.own.slice
    have hkl2 : (ns.take k).length = k := by rw [List.length_take]; omega
    rw [hkl2] at hv
    subst hv
    have HL2 := hid hkl2
    have HC := hid (show (fun W => W.cell? ⟨pB, 0, none⟩ = some (.slice av k cv)) wr from by dsimp only; rw [cell_of_row _ _ _ _ _ _ HS.out.box]; rfl)
    clear hkl2 hkl
    go_wp2_with fail
    clear c4
    refine region_K 7 (fun W => W.cell? ⟨pB, 0, none⟩ = some (.slice av k cv)) (by kernel_rfl) HC.out (fun hh => ?_)
    have HBw := hid (show Below wr.heap.size wr wr.drew from (Still.drew wr).below _)
    have HBe := hid (show wr.drew.heap.size = wr.heap.size from rfl)
    generalize wr.drew = vd at *
    refine anyK_take (i := 0) (v := ?vg0) rfl (by kernel_rfl) (by kernel_rfl) (by kernel_rfl) (by kernel_rfl) (fun _ _ _ h => h) (by rfl) hh ?hyg0 (some 23) (by rfl) ?restg0
    case hyg0 => (intro W hSw; (try dsimp only at hSw); go_simp; (try with_reducible rfl))
    try simp only [qP]
    refine anyK_take (i := 1) (v := ?vg1) rfl (by kernel_rfl) (by kernel_rfl) (by kernel_rfl) (by kernel_rfl) (fun _ _ _ h => h) (by rfl) hh ?hyg1 (some 24) (by rfl) ?restg1
    case hyg1 => (intro W hSw; (try dsimp only at hSw); go_simp; (try with_reducible rfl))
    try simp only [qP]
    refine anyK_take (i := 2) (v := ?vg2) rfl (by kernel_rfl) (by kernel_rfl) (by kernel_rfl) (by kernel_rfl) (fun _ _ _ h => h) (by rfl) hh ?hyg2 (some 25) (by rfl) ?restg2
    case hyg2 => (intro W hSw; (try dsimp only at hSw); go_simp; (try with_reducible rfl))
    try simp only [qP]
    refine qS 3 rfl fun KP hK => ?_
    go_simp
    have HBv := hid (HS.out.bel.trans (HBw.out.mono HS.out.bel.size))
    refine (impl_laid (HNk.out.below HBv.out) hes hks HMk.out HKk.out).mono ?_
    rintro e v1 ⟨y1, y2, rfl, od, b1⟩
    obtain ⟨mm, hm1, hm2, oE, oK⟩ := od.ex
    obtain ⟨ay, cy, hy1⟩ := oE.slice
    obtain ⟨az, cz, hy2⟩ := oK.slice
    dsimp only at hy1 hy2
    have HOd := hid od
    have HBv1 := hid (HBw.out.trans (b1.mono HBw.out.size))
    have HSz1 := hid b1.size
    have HY := hid (show y1.oneCell' = true ∧ y2.oneCell' = true from ⟨by rw [hy1]; rfl, by rw [hy2]; rfl⟩)
    clear od b1 oE oK hy1 hy2 hm1 hm2
    have HC1 := hid (show (fun W => W.cell? ⟨pB, 0, none⟩ = some (.slice av k cv)) v1 from (HBv1.out.cell (World.block_lt_of_cell? wr _ HC.out)).trans HC.out)
    clear hh
    go_wp2_with fail
    refine hK.out _ _ HC1.out (fun hh => ?_)
    clear hK KP
    try simp only [qP]
    refine qS 4 rfl fun KP hK => ?_
    go_simp
    have HBA := hid (Below.alloc1 v1 (.cells #[.bool d.leaf, y1, y2] 61))
    have HN1 := hid (heap_alloc_new v1 (.cells #[.bool d.leaf, y1, y2] 61))
    have HB2 := hid (HBv1.out.trans (HBA.out.mono HBv1.out.size))
    have HC2 := hid (show (fun W => W.cell? ⟨pB, 0, none⟩ = some (.slice av k cv)) (v1.alloc (.cells #[.bool d.leaf, y1, y2] 61)) from (HB2.out.cell (World.block_lt_of_cell? wr _ HC.out)).trans HC.out)
    clear hh
    refine hK.out _ _ HC2.out (fun hh => ?_)
    clear hK KP
    try simp only [qP]
    generalize v1.alloc (.cells #[.bool d.leaf, y1, y2] 61) = v2 at *
    obtain ⟨ys, oR, hPush⟩ := (HS.out.own.below HB2.out qN).push HS.out.pos.2.2.2.2.2
    rw [HL2.out] at oR
    rw [HL2.out] at hPush
    have HRow := hid oR
    clear oR
    obtain ⟨i0, hi0, hz0, hz1, hz2⟩ := info_parts Tryz.infoNd11
    have hls := HS.out.pos.2.2.2.2.2
    have hls2 := HB2.out.size
    refine qS 5 rfl fun KP hK => ?_
    refine step_append11 rfl _ _ 31 rfl lo 61 i0 (.agg #[.bool false, .slice none 0 0, .slice none 0 0]) 3 56 Tryz.underlying31 hi0 hz0 hz1 hz2 rfl (by decide) _ k _ rfl HRow.out ⟨v1.heap.size, 0, none⟩ 1 1 [.bool d.leaf, y1, y2] rfl rfl (World.news_of_block HN1.out) ?g2g (by unfold maxLen; omega) (by omega) (by omega) ?_
    case g2g =>
     intro u hu
     simp only [List.mem_cons, List.not_mem_nil, or_false] at hu
     rcases hu with rfl | rfl | rfl
     · rfl
     · exact HY.out.1
     · exact HY.out.2
    intro a8 c8 w8 o8 g8 hat
    have HOw8 := hid (hPush (l := vd.heap.size) (u := v1.heap.size) (y := (y1, y2)) (d := d) (by rw [HBe.out]; exact Nat.le_refl _) HSz1.out HBA.out.size (HOd.out.agree (Agree.below HBA.out qN)) o8 g8 hat)
    rw [← HT.out] at HOw8
    have hne : ∀ p, p < lo → (Value.slice av k cv).ownBlock ≠ some p := fun p hp e => by have := (HRow.out.lt p e).1; omega
    have hpo := HS.out.pos
    have HBx8 := hid (show w8.heap[pB]? = some (.cells #[.slice av k cv, .int .i64 root] 33 (0, 0)) from (g8.block pB (by omega) (fun e => hne pB (by omega) e.symm)).trans ((HB2.out.block pB (by omega)).trans HS.out.box))
    have HRs8 := hid ((g8.block r0 (by omega) (fun e => hne r0 (by omega) e.symm)).trans ((HB2.out.block r0 (by omega)).trans HS.out.res))
    have HBb8 := hid ((HS.out.bel.trans (HB2.out.mono HS.out.bel.size)).grown g8 (HS.out.bel.trans (HB2.out.mono HS.out.bel.size)).size (fun p hp => by have := (HRow.out.lt p hp).1; omega))
    have HC8 := hid (show (fun W => W.cell? ⟨pB, 0, none⟩ = some (.slice av k cv)) w8 from by dsimp only; rw [cell_of_row _ _ _ _ _ _ HBx8.out]; rfl)
    have hs8 := g8.size
    have HFin := hid (show TrS w r0 pB lo root (ns.take (k + 1)) (.slice a8 (k + 1) c8) (w8.setCell ⟨pB, 0, none⟩ (.slice a8 (k + 1) c8)) from by
     refine ⟨by rw [heap_setCell_same _ _ _ _ _ _ HBx8.out]; rfl, (heap_set_ne _ pB 0 r0 _ (by omega)).trans HRs8.out, ?_, HBb8.out.setCell (show w.heap.size ≤ (⟨pB, 0, none⟩ : Addr).block by simp only; omega) _, by rw [set_size]; omega⟩
     rw [set_size]
     exact HOw8.out.agree (fun p p1 p2 => heap_set_ne _ pB 0 p _ (by omega)))
    have HFr := hid (frozen_of_row _ _ 0 _ _ HBx8.out)
    clear o8 g8 hat hne hh HRow hls hls2 HBx8 HRs8 HBb8 HOw8 HN1 hPush hpo hs8
    refine hK.out _ _ HC8.out (fun hh => ?_)
    clear hK KP
    try simp only [qP]
    refine qS 6 rfl fun KP hK => ?_
    go_simp
    clear hh
    refine hK.out _ _ HC8.out (fun hh => ?_)
    clear hK KP
    try simp only [qP]
    have kc2 := HC8.out
    have kf2 := HFr.out
    dsimp only at kc2
    refine anyK_last (by kernel_rfl) rfl (fun KP hK => ?_)
    go_simp
    refine hK.out _ _ ?_
    clear hK KP hh kc2 kf2
    try simp only [Act.put]
    refine anyK_done (by kernel_rfl) ?_ _
    clear HC8 HFr HC2 HC HC1
    generalize w8.setCell ⟨pB, 0, none⟩ (.slice a8 (k + 1) c8) = w9 at *
    go_wp2_with fail
    go_roundw
    case rel => exact ⟨k + 1, _, by omega, by go_num, HFin⟩
    case measure => simp [intOf]; omega
  · have hlt' : ¬ (k : Int) < (N : Int) := by omega
    have ho := HS.out.own
    rw [List.take_of_length_le (by have := HL.out; omega)] at ho
    obtain ⟨av, cv, hv⟩ := ho.slice
    rw [HL.out] at hv
    subst hv
    have hpo := HS.out.pos
    have g2 := row_grown11 wr r0 #[.slice av N cv, .int .i64 root]
    have HFin := hid (show OwnD (wr.setRow r0 #[.slice av N cv, .int .i64 root]) w.heap.size (wr.setRow r0 #[.slice av N cv, .int .i64 root]).heap.size (.slice av N cv) ns from by
     have hsz : (wr.setRow r0 #[.slice av N cv, .int .i64 root]).heap.size = wr.heap.size := by simp
     rw [hsz]
     exact (ho.agree (fun p p1 p2 => g2.block p p2 (by simp; omega))).mono (by omega) qN)
    have HBf := hid (below_setRow HS.out.bel hpo.1 #[.slice av N cv, .int .i64 root])
    have HRf := hid (show (wr.setRow r0 #[.slice av N cv, .int .i64 root]).heap[r0]? = some (.cells #[.slice av N cv, .int .i64 root] 33 (0, 0)) from setRow_heap _ _ _ _ _ _ HS.out.res)
    have HBx := hid HS.out.box
    have HRs := hid HS.out.res
    clear ho g2 hpo
    go_wp2_with (first
     | (refine wpList_load_row rfl 33 (.tmp 3) rfl pB rfl 33 _ (0, 0) _ HBx.out Tryz.underlying33 rfl size_tr11 ?_)
     | (refine wpList_store_row rfl 33 (.tmp 2) _ rfl r0 #[.slice av N cv, .int .i64 root] rfl rfl 33 _ HRs.out size_tr11 rfl (by simp [Value.oneCell']) ?_))
    exact bodyPost_ret (results_cell_row Tryz.results32 _ _ r0 33 _ (0, 0) _ rfl HRf.out Tryz.underlying33 rfl size_tr11) rfl ⟨_, rfl, HFin.out, HBf.out⟩
end Go.Proofs.YtlkoghdajpbffaaGreat
