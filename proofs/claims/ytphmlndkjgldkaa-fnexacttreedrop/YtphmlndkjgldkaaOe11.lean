/- The specification's TreeDrop. Conditions: texts of at most 2^21 bytes. -/
import Derived.Test.YtphmlndkjgldkaaMgk
namespace Go.Proofs.Ytphmlndkjgldkaa
open Go.RowKit
set_option maxRecDepth 100000
def mixD (ns : List Nd) (q : En) (k : Nat) : List Nd := (ns.take k).map (outD q) ++ ns.drop k
theorem mix_len (ns : List Nd) (q : En) (k : Nat) : (mixD ns q k).length = ns.length := by unfold mixD; simp; omega
theorem mix_zero (ns : List Nd) (q : En) : mixD ns q 0 = ns := by simp [mixD]
theorem mix_all (ns : List Nd) (q : En) {k : Nat} (h : ns.length ≤ k) : mixD ns q k = dropN ns q := by unfold mixD dropN; rw [List.take_of_length_le h, List.drop_of_length_le h, List.append_nil]
theorem mix_at (ns : List Nd) (q : En) (k : Nat) (h : k < ns.length) : (mixD ns q k).getD k nd0 = ns.getD k nd0 := by
 unfold mixD
 rw [getD_app, if_neg (by simp; omega)]
 simp [List.getD, List.getElem?_drop, Nat.min_eq_left (Nat.le_of_lt h)]
theorem mix_step (ns : List Nd) (q : En) (k : Nat) (h : k < ns.length) : (mixD ns q k).set k (outD q (ns.getD k nd0)) = mixD ns q (k + 1) := by
 unfold mixD
 rw [take_snoc ns k nd0 h, List.map_append, List.set_append_right _ _ (by simp; omega)]
 have e0 : k - ((ns.take k).map (outD q)).length = 0 := by simp; omega
 rw [e0, List.drop_eq_getElem_cons h, List.set_cons_zero]
 simp
theorem mix_same (ns : List Nd) (q : En) (k : Nat) (h : k < ns.length) (hl : (ns.getD k nd0).leaf = false) : mixD ns q (k + 1) = mixD ns q k := by
 rw [← mix_step ns q k h]
 have e : outD q (ns.getD k nd0) = (mixD ns q k).getD k nd0 := by rw [mix_at ns q k h]; unfold outD; rw [hl]; simp
 rw [e]
 apply List.ext_getElem
 · simp
 · intro i h1 h2
   rw [List.getElem_set]
   split
   · rename_i e2
     subst e2
     simp [List.getD, h2]
   · rfl
theorem NsR.other {w : World} {b : Nat} {v : Value} {ds : List Nd} {ys : List (Value × Value)} (h : NsR w b v ds ys) {p j : Nat} {cs : Array Value} {fz : Nat × Nat} (hp : w.heap[p]? = some (.cells cs 67 fz)) (hne : v.ownBlock ≠ some p) (u : Value) : NsR (w.setCell ⟨p, j, none⟩ u) b v ds ys := by
 refine ⟨h.len, ⟨h.own.1, ?_⟩, fun i hi => (h.nd i hi).kn (KN.set (p := ⟨p, j, none⟩) hp (.inl rfl) u)⟩
 rcases h.own.2 with hn | ⟨g, cap, cur, rfl, hb, hg, rest⟩
 · exact .inl hn
 · exact .inr ⟨g, cap, cur, rfl, hb, (heap_set_ne w p j g u (fun e => hne (by rw [← e]; rfl))).trans hg, rest⟩
theorem NsR.put {w : World} {b G N c : Nat} {ds : List Nd} {ys : List (Value × Value)} (h : NsR w b (.slice (some ⟨G, 0, none⟩) N c) ds ys) (hl : ds.length = N) {k : Nat} (hk : k < ds.length) {y : Value × Value} {d : Nd} (hn : NdR w y d) : NsR (((w.setCell ⟨G, k * 3, none⟩ (.bool d.leaf)).setCell ⟨G, k * 3 + 1, none⟩ y.1).setCell ⟨G, k * 3 + 2, none⟩ y.2) b (.slice (some ⟨G, 0, none⟩) N c) (ds.set k d) (ys.set k y) := by
 have ho := h.own
 rw [hl] at ho
 have S0 := ho.stored (k * 3) (.bool d.leaf)
 have S1 := S0.1.stored (k * 3 + 1) y.1
 have S2 := S1.1.stored (k * 3 + 2) y.2
 have ty : ∀ {W : World} {xs : List Value}, W.ownsRow b 67 3 (.slice (some ⟨G, 0, none⟩) N c) N xs → ∃ cs fz, W.heap[G]? = some (.cells cs 67 fz) := fun o => by
  rcases o.2 with ⟨e, _⟩ | ⟨g, cp, cu, e, _, hg, _⟩
  · cases e
  · cases e; exact ⟨_, _, hg⟩
 obtain ⟨c0, f0, t0⟩ := ty ho
 obtain ⟨c1, f1, t1⟩ := ty S0.1
 obtain ⟨c2, f2, t2⟩ := ty S1.1
 have kn := ((KN.set (p := ⟨G, k * 3, none⟩) t0 (.inl rfl) (.bool d.leaf)).trans (KN.set (p := ⟨G, k * 3 + 1, none⟩) t1 (.inl rfl) y.1)).trans (KN.set (p := ⟨G, k * 3 + 2, none⟩) t2 (.inl rfl) y.2)
 refine ⟨by simp [h.len], ?_, fun i hi => ?_⟩
 · have := S2.1
   rw [cellsD_set3 ds ys k d y h.len hk] at this
   rw [List.length_set, hl]
   exact this
 · rw [List.length_set] at hi
   rw [getD_set' ds k i d nd0 hk, getD_set' ys k i y nilP (by rw [h.len]; exact hk)]
   split
   · exact hn.kn kn
   · exact (h.nd i hi).kn kn
theorem good_pos (ns : List Nd) : ∀ (f : Nat) (x y : Int), good ns f x → y ∈ posL ns f x → formOk (ns.getD y.toNat nd0) = true
 | 0, _, _, _, hy => by simp [posL] at hy
 | f + 1, x, y, h, hy => by
  rcases pos_kid hy with e | ⟨i, hi', hy'⟩
  · rw [e]; exact h.1
  · exact good_pos ns f _ _ (h.2.2.2 _ (getD_mem11 hi')) hy'
theorem small_nodes {ns : List Nd} {root : Int} (h : treeIs ns root = true) (i : Nat) : (ns.getD i nd0).es.length ≤ 4 ∧ (ns.getD i nd0).ks.length ≤ 5 := by
 by_cases hi : i < ns.length
 · obtain ⟨hg, _, hp⟩ := treeIs_parts h
   have := good_pos ns _ _ _ hg (hp i hi)
   rw [Int.toNat_natCast] at this
   exact form_small this
 · rw [show ns.getD i nd0 = nd0 by simp [List.getD, List.getElem?_eq_none (Nat.le_of_not_lt hi)]]
   exact ⟨by simp [nd0], by simp [nd0]⟩
theorem EnR.push {w w' : World} {b : Nat} {v v' : Value} {es : List En} {xs : List Value} (h : EnR w b v es xs) {e : En} {x : Value} (hx : TxR w x e.Z) (hF : e.F < 18446744073709551616) (o : w'.ownsRow b 35 5 v' (es.length + 1) (cellsE es xs ++ cellsE1 e x)) (hg : w.grownBy w' v.ownBlock) : EnR w' b v' (es ++ [e]) (xs ++ [x]) := by
 have keep : ∀ {y : Value} {Z : List Int}, TxR w y Z → TxR w' y Z := fun t => by
  obtain ⟨b', o'⟩ := t.own
  exact ⟨⟨b', o'.kept hg (owns_ne o' h.own (by decide))⟩, t.bd⟩
 refine ⟨by simp [h.len], ?_, fun i hi => ?_⟩
 · rw [cellsE_app es [e] xs [x] h.len, List.length_append, List.length_singleton, cellsE_cons, cellsE_nil, List.append_nil]
   exact o
 · rw [List.length_append, List.length_singleton] at hi
   by_cases hc : i < es.length
   · rw [getD_app, getD_app, if_pos (by rw [h.len]; exact hc), if_pos hc]
     exact ⟨keep (h.tx i hc).1, (h.tx i hc).2⟩
   · rw [getD_app, getD_app, if_neg (by rw [h.len]; omega), if_neg hc, h.len, show i - es.length = 0 by omega]
     exact ⟨keep hx, hF⟩
theorem EnR.nil (w : World) (b : Nat) : EnR w b (.slice none 0 0) [] [] := ⟨rfl, World.ownsRow_nil _ _ _ _, fun i hi => by cases hi⟩
theorem filter_step (p : En → Bool) (es : List En) {k : Nat} (hk : k < es.length) : (es.take (k + 1)).filter p = (es.take k).filter p ++ (if p (es.getD k en0) = true then [es.getD k en0] else []) := by
 rw [take_snoc es k en0 hk, List.filter_append]
 congr 1
 by_cases h : p (es.getD k en0) = true
 · rw [if_pos h]; simp only [List.filter_cons, List.filter_nil, h, if_true]
 · rw [if_neg h]; simp only [List.filter_cons, List.filter_nil, if_neg h]
def BxD (w U2 : World) (p3 p6 p8 : Nat) (a b c : Obj) : Prop := ∀ W, Below U2.heap.size U2 W → W.heap[p3]? = some a ∧ W.heap[p6]? = some b ∧ W.heap[p8]? = some c ∧ Below w.heap.size w W
set_option maxHeartbeats 12800000 in
theorem spec_TreeDrop {ad : Option Addr} {N : Nat} (cap : Nat) (root : Int) {ns : List Nd} (KQ NQ : Int) (FQ : Nat) {aq : Option Addr} {zq : Nat} (cq : Nat) (iq : Int) {ZQ : List Int} {w : World} (hR : ReadsD w ad ns) (hns : ns.length = N) (hm : ∀ i j, ((ns.getD i nd0).es.getD j en0).Z.length ≤ 2097152) (hkap : KapD w ad N) (hqn : aq = none → cq = 0) (hq : Reads w aq zq ZQ) (hqq : ZQ.length = zq ∧ FQ < 18446744073709551616 ∧ zq ≤ 2097152) :
 Calls Try.prog 47 #[.agg #[.slice ad N cap, .int .i64 root], .agg #[.int .i64 KQ, .int .i64 NQ, .float .f64 FQ, .slice aq zq cq], .int .i64 iq] w fun e w' => ∃ a c, e = .returned (.tuple #[.agg #[.slice a (dropT ns root ⟨KQ, NQ, FQ, ZQ, iq⟩).1.length c, .int .i64 (dropT ns root ⟨KQ, NQ, FQ, ZQ, iq⟩).2.1], .bool (dropT ns root ⟨KQ, NQ, FQ, ZQ, iq⟩).2.2]) ∧ (∃ b ys, NsR w' b (.slice a (dropT ns root ⟨KQ, NQ, FQ, ZQ, iq⟩).1.length c) (dropT ns root ⟨KQ, NQ, FQ, ZQ, iq⟩).1 ys) ∧ Below w.heap.size w w' := by
 have hst := fun w a m => run_store Try.prog w a (.float .f64 FQ) m rfl
 have HRR := hid (three11 w (.cells #[.slice ad N cap, .int .i64 root] 26) (.cells #[.int .i64 KQ, .int .i64 NQ, .float .f64 FQ, .slice aq zq cq] 32) (.cells #[.slice none 0 0, .int .i64 0] 26))
 have HR := hid hR
 have HNs := hid hns
 have HM := hid hm
 have HKap := hid hkap
 have HQn := hid hqn
 have HQ := hid hq
 have HQQ := hid hqq
 clear hR hns hm hkap hqn hq hqq
 go_enter Try.func47, Try.ntmps47
 go_upto_region 1 with fail
 generalize (((w.alloc (.cells #[.slice ad N cap, .int .i64 root] 26)).alloc (.cells #[.int .i64 KQ, .int .i64 NQ, .float .f64 FQ, .slice aq zq cq] 32)).alloc (.cells #[.slice none 0 0, .int .i64 0] 26)) = U at *
 obtain ⟨p6, hp6⟩ : ∃ p6, w.heap.size + 1 + 1 = p6 := ⟨_, rfl⟩
 obtain ⟨p4, hp4⟩ : ∃ p4, w.heap.size + 1 = p4 := ⟨_, rfl⟩
 obtain ⟨p3, hp3⟩ : ∃ p3, w.heap.size = p3 := ⟨_, rfl⟩
 have hRR := HRR.out
 rw [hp6, hp4, hp3] at hRR
 obtain ⟨r3, r4, r6, hzU, -⟩ := hRR
 have HP := hid (show w.heap.size ≤ p3 ∧ p3 < p4 ∧ p4 < p6 ∧ p6 < U.heap.size by omega)
 have HBU := hid HRR.out.2.2.2.2
 have HR3 := hid r3
 have HR4 := hid r4
 have HR6 := hid r6
 try simp only [hp6]
 try simp only [hp4]
 try simp only [hp3]
 clear hp3 hp4 hp6 r3 r4 r6 hzU HRR
 have e0 : U.cell? ⟨p4, 0, none⟩ = some (.int .i64 KQ) := by rw [cell_of_row _ _ _ _ _ _ HR4.out]; rfl
 have e1 : U.cell? ⟨p4, 1, none⟩ = some (.int .i64 NQ) := by rw [cell_of_row _ _ _ _ _ _ HR4.out]; rfl
 have e2 : U.cell? ⟨p4, 2, none⟩ = some (.float .f64 FQ) := by rw [cell_of_row _ _ _ _ _ _ HR4.out]; rfl
 have e3 : U.cell? ⟨p4, 3, none⟩ = some (.slice aq zq cq) := by rw [cell_of_row _ _ _ _ _ _ HR4.out]; rfl
 go_wp2_with fail
 clear e0 e1 e2 e3
 refine (spec_l3copy KQ NQ FQ cq HQn.out (HQ.out.below HBU.out (Nat.le_refl _)) HQQ.out.2.2).mono ?_
 rintro e u1 ⟨vq, rfl, oq, b1⟩
 obtain ⟨a2, c2, ev, rq, -⟩ := Reads.own oq HQ.out.bd
 subst ev
 have HRq := hid rq
 have HBu := hid b1
 clear oq b1 rq
 go_upto_region 2 with fail
 have HBD := hid (Below.alloc1 u1 (.cells #[.int .i64 KQ, .int .i64 NQ, .float .f64 FQ, .slice a2 zq c2, .int .i64 iq] 35))
 have HR8 := hid (heap_alloc_new u1 (.cells #[.int .i64 KQ, .int .i64 NQ, .float .f64 FQ, .slice a2 zq c2, .int .i64 iq] 35))
 have HZ8 := hid (alloc_size u1 (.cells #[.int .i64 KQ, .int .i64 NQ, .float .f64 FQ, .slice a2 zq c2, .int .i64 iq] 35))
 generalize u1.alloc (.cells #[.int .i64 KQ, .int .i64 NQ, .float .f64 FQ, .slice a2 zq c2, .int .i64 iq] 35) = U2 at *
 obtain ⟨p8, hp8⟩ : ∃ p8, u1.heap.size = p8 := ⟨_, rfl⟩
 rw [hp8] at HR8 HZ8
 have HP8 := hid hp8
 try simp only [hp8]
 clear hp8
 have HBu2 := hid (show Below U.heap.size U U2 from HBu.out.trans (HBD.out.mono HBu.out.size))
 have HB1 := hid (HBU.out.trans (HBu2.out.mono HBU.out.size))
 have HBx := hid (show BxD w U2 p3 p6 p8 (.cells #[.slice ad N cap, .int .i64 root] 26) (.cells #[.slice none 0 0, .int .i64 0] 26) (.cells #[.int .i64 KQ, .int .i64 NQ, .float .f64 FQ, .slice a2 zq c2, .int .i64 iq] 35) from fun W b => by
  have h1 := HP.out; have h2 := HZ8.out; have h3 := HP8.out; have h4 := HBu.out.size
  exact ⟨(b.block p3 (by omega)).trans ((HBu2.out.block p3 (by omega)).trans HR3.out), (b.block p6 (by omega)).trans ((HBu2.out.block p6 (by omega)).trans HR6.out), (b.block p8 (by omega)).trans HR8.out, HB1.out.trans (b.mono HB1.out.size)⟩)
 have HQ2 := hid (HRq.out.below HBD.out (Nat.le_refl _))
 have HEn := hid (show entOk ⟨KQ, NQ, FQ, ZQ, iq⟩ = entB KQ NQ FQ zq iq by unfold entOk; simp only [HQQ.out.1])
 have HSame := hid (tree_same ns root)
 have HKq := hid (show ∀ W, Below U2.heap.size U2 W → (W.cell? ⟨p3, 0, none⟩ = some (.slice ad N cap) ∧ W.cell? ⟨p3, 1, none⟩ = some (.int .i64 root)) ∧ W.cell? ⟨p8, 0, none⟩ = some (.int .i64 KQ) ∧ W.cell? ⟨p8, 1, none⟩ = some (.int .i64 NQ) ∧ W.cell? ⟨p8, 2, none⟩ = some (.float .f64 FQ) ∧ W.cell? ⟨p8, 3, none⟩ = some (.slice a2 zq c2) ∧ W.cell? ⟨p8, 4, none⟩ = some (.int .i64 iq) from fun W bb => by
  obtain ⟨r3, _, r8, _⟩ := HBx.out W bb
  exact ⟨⟨by rw [cell_of_row _ _ _ _ _ _ r3]; rfl, by rw [cell_of_row _ _ _ _ _ _ r3]; rfl⟩, by rw [cell_of_row _ _ _ _ _ _ r8]; rfl, by rw [cell_of_row _ _ _ _ _ _ r8]; rfl, by rw [cell_of_row _ _ _ _ _ _ r8]; rfl, by rw [cell_of_row _ _ _ _ _ _ r8]; rfl, by rw [cell_of_row _ _ _ _ _ _ r8]; rfl⟩)
 have BC := hid ((Still.drew U2).below U2.heap.size)
 refine region_K 99 (fun W => (W.cell? ⟨p3, 0, none⟩ = some (.slice ad N cap) ∧ W.cell? ⟨p3, 1, none⟩ = some (.int .i64 root)) ∧ W.cell? ⟨p8, 0, none⟩ = some (.int .i64 KQ) ∧ W.cell? ⟨p8, 1, none⟩ = some (.int .i64 NQ) ∧ W.cell? ⟨p8, 2, none⟩ = some (.float .f64 FQ) ∧ W.cell? ⟨p8, 3, none⟩ = some (.slice a2 zq c2) ∧ W.cell? ⟨p8, 4, none⟩ = some (.int .i64 iq)) (by kernel_rfl) (HKq.out _ BC.out) (fun hHeld => ?_)
 generalize U2.drew = vd at *
 refine anyK_take2 (i := 0) (v := ?v0_1) rfl (by kernel_rfl) (by kernel_rfl) (by kernel_rfl) (by rfl) (fun _ _ _ h => h) (by rfl) hHeld ?hy0_1 (some 18) (by rfl) ?rest0_1
 case hy0_1 => (intro W hSw; obtain ⟨⟨x0, x1⟩, x2, x3, x4, x5, x6⟩ := hSw; go_simp; (try with_reducible rfl))
 try simp only [Act.put, List.setIfInBounds_toArray, List.set_cons_succ, List.set_cons_zero]
 refine anyK_step (i := 1) (by kernel_rfl) rfl (fun KP hK => ?_)
 go_simp
 refine (spec_TreeOk cap root (HR.out.below (HB1.out.trans (BC.out.mono HB1.out.size)) (Nat.le_refl _)) HNs.out HM.out).mono ?_
 rintro e v1 ⟨rfl, b1⟩
 replace BC := hid (BC.out.trans (b1.mono BC.out.size))
 clear b1
 generalize treeOk ns root = X1 at *
 clear hHeld
 go_wp2_with fail
 refine hK.out _ _ (HKq.out _ BC.out) (fun hHeld => ?_)
 clear hK KP
 try simp only [Act.put, List.setIfInBounds_toArray, List.set_cons_succ, List.set_cons_zero]
 cases X1 with
 | false =>
  refine anyK_take2 (i := 2) (v := ?v2_2) rfl (by kernel_rfl) (by kernel_rfl) (by kernel_rfl) (by rfl) (fun _ _ _ h => h) (by rfl) hHeld ?hy2_2 (some 20) (by rfl) ?rest2_2
  case hy2_2 => (intro W hSw; obtain ⟨⟨x0, x1⟩, x2, x3, x4, x5, x6⟩ := hSw; go_simp; (try with_reducible rfl))
  try simp only [Act.put, List.setIfInBounds_toArray, List.set_cons_succ, List.set_cons_zero]
  refine anyK_take2 (i := 3) (v := ?v3_3) rfl (by kernel_rfl) (by kernel_rfl) (by kernel_rfl) (by rfl) (fun _ _ _ h => h) (by rfl) hHeld ?hy3_3 (some 21) (by rfl) ?rest3_3
  case hy3_3 => (intro W hSw; obtain ⟨⟨x0, x1⟩, x2, x3, x4, x5, x6⟩ := hSw; go_simp; (try with_reducible rfl))
  try simp only [Act.put, List.setIfInBounds_toArray, List.set_cons_succ, List.set_cons_zero]
  refine anyK_skip (i := 4) rfl (by kernel_rfl) (by kernel_rfl) (by kernel_rfl) (by kernel_rfl) (fun _ _ _ h => h) (by rfl) hHeld (some 22) (by rfl) ?_
  try simp only [Act.put, List.setIfInBounds_toArray, List.set_cons_succ, List.set_cons_zero]
  refine anyK_skip (i := 5) rfl (by kernel_rfl) (by kernel_rfl) (by kernel_rfl) (by kernel_rfl) (fun _ _ _ h => h) (by rfl) hHeld (some 23) (by rfl) ?_
  try simp only [Act.put, List.setIfInBounds_toArray, List.set_cons_succ, List.set_cons_zero]
  refine anyK_skip (i := 6) rfl (by kernel_rfl) (by kernel_rfl) (by kernel_rfl) (by kernel_rfl) (fun _ _ _ h => h) (by rfl) hHeld (some 24) (by rfl) ?_
  try simp only [Act.put, List.setIfInBounds_toArray, List.set_cons_succ, List.set_cons_zero]
  refine anyK_take2 (i := 7) (v := ?v7_4) rfl (by kernel_rfl) (by kernel_rfl) (by kernel_rfl) (by rfl) (fun _ _ _ h => h) (by rfl) hHeld ?hy7_4 (some 25) (by rfl) ?rest7_4
  case hy7_4 => (intro W hSw; obtain ⟨⟨x0, x1⟩, x2, x3, x4, x5, x6⟩ := hSw; go_simp; (try with_reducible rfl))
  try simp only [Act.put, List.setIfInBounds_toArray, List.set_cons_succ, List.set_cons_zero]
  refine anyK_take2 (i := 8) (v := ?v8_5) rfl (by kernel_rfl) (by kernel_rfl) (by kernel_rfl) (by rfl) (fun _ _ _ h => h) (by rfl) hHeld ?hy8_5 (some 26) (by rfl) ?rest8_5
  case hy8_5 => (intro W hSw; obtain ⟨⟨x0, x1⟩, x2, x3, x4, x5, x6⟩ := hSw; go_simp; (try with_reducible rfl))
  try simp only [Act.put, List.setIfInBounds_toArray, List.set_cons_succ, List.set_cons_zero]
  refine anyK_skip (i := 9) rfl (by kernel_rfl) (by kernel_rfl) (by kernel_rfl) (by kernel_rfl) (fun _ _ _ h => h) (by rfl) hHeld (some 27) (by rfl) ?_
  try simp only [Act.put, List.setIfInBounds_toArray, List.set_cons_succ, List.set_cons_zero]
  refine anyK_skip (i := 10) rfl (by kernel_rfl) (by kernel_rfl) (by kernel_rfl) (by kernel_rfl) (fun _ _ _ h => h) (by rfl) hHeld (some 28) (by rfl) ?_
  try simp only [Act.put, List.setIfInBounds_toArray, List.set_cons_succ, List.set_cons_zero]
  refine anyK_skip (i := 11) rfl (by kernel_rfl) (by kernel_rfl) (by kernel_rfl) (by kernel_rfl) (fun _ _ _ h => h) (by rfl) hHeld (some 29) (by rfl) ?_
  try simp only [Act.put, List.setIfInBounds_toArray, List.set_cons_succ, List.set_cons_zero]
  refine anyK_skip (i := 12) rfl (by kernel_rfl) (by kernel_rfl) (by kernel_rfl) (by kernel_rfl) (fun _ _ _ h => h) (by rfl) hHeld (some 30) (by rfl) ?_
  try simp only [Act.put, List.setIfInBounds_toArray, List.set_cons_succ, List.set_cons_zero]
  refine anyK_skip (i := 13) rfl (by kernel_rfl) (by kernel_rfl) (by kernel_rfl) (by kernel_rfl) (fun _ _ _ h => h) (by rfl) hHeld (some 31) (by rfl) ?_
  try simp only [Act.put, List.setIfInBounds_toArray, List.set_cons_succ, List.set_cons_zero]
  refine anyK_take2 (i := 14) (v := ?v14_6) rfl (by kernel_rfl) (by kernel_rfl) (by kernel_rfl) (by rfl) (fun _ _ _ h => h) (by rfl) hHeld ?hy14_6 (some 32) (by rfl) ?rest14_6
  case hy14_6 => (intro W hSw; obtain ⟨⟨x0, x1⟩, x2, x3, x4, x5, x6⟩ := hSw; go_simp; (try with_reducible rfl))
  try simp only [Act.put, List.setIfInBounds_toArray, List.set_cons_succ, List.set_cons_zero]
  refine anyK_done (by kernel_rfl) ?_ _
  clear hHeld
  have HNo := hid (dropT_no (ns := ns) (root := root) (q := ⟨KQ, NQ, FQ, ZQ, iq⟩) (by rw [← HSame.out]; rfl))
  have HC6 := hid (HBx.out v1 BC.out).2.1
  have HBw := hid (HBx.out v1 BC.out).2.2.2
  go_wp2_with (refine wpList_store_row rfl 26 (.tmp 6) _ rfl p6 #[.slice none 0 0, .int .i64 0] rfl rfl 26 _ HC6.out size_tr11 rfl (by simp [Value.oneCell']) ?_)
  exact bodyPost_ret (results_cell_tmp11 Try.results47 _ _ p6 26 #[.slice none 0 0, .int .i64 0] (0, 0) _ rfl (setRow_heap _ _ _ _ _ _ HC6.out) Try.underlying26 rfl size_tr11) rfl ⟨none, 0, by rw [HNo.out]; rfl, by rw [HNo.out]; exact ⟨0, [], NsR.nil _ _⟩, below_setRow HBw.out (by have := HP.out; omega) _⟩
 | true =>
  refine anyK_take2 (i := 2) (v := ?v2_7) rfl (by kernel_rfl) (by kernel_rfl) (by kernel_rfl) (by rfl) (fun _ _ _ h => h) (by rfl) hHeld ?hy2_7 (some 20) (by rfl) ?rest2_7
  case hy2_7 => (intro W hSw; obtain ⟨⟨x0, x1⟩, x2, x3, x4, x5, x6⟩ := hSw; go_simp; (try with_reducible rfl))
  try simp only [Act.put, List.setIfInBounds_toArray, List.set_cons_succ, List.set_cons_zero]
  refine anyK_take2 (i := 3) (v := ?v3_8) rfl (by kernel_rfl) (by kernel_rfl) (by kernel_rfl) (by rfl) (fun _ _ _ h => h) (by rfl) hHeld ?hy3_8 (some 21) (by rfl) ?rest3_8
  case hy3_8 => (intro W hSw; obtain ⟨⟨x0, x1⟩, x2, x3, x4, x5, x6⟩ := hSw; go_simp; (try with_reducible rfl))
  try simp only [Act.put, List.setIfInBounds_toArray, List.set_cons_succ, List.set_cons_zero]
  refine anyK_take2 (i := 4) (v := ?v4_9) rfl (by kernel_rfl) (by kernel_rfl) (by kernel_rfl) (by rfl) (fun _ _ _ h => h) (by rfl) hHeld ?hy4_9 (some 22) (by rfl) ?rest4_9
  case hy4_9 => (intro W hSw; obtain ⟨⟨x0, x1⟩, x2, x3, x4, x5, x6⟩ := hSw; go_simp; (try with_reducible rfl))
  try simp only [Act.put, List.setIfInBounds_toArray, List.set_cons_succ, List.set_cons_zero]
  refine anyK_step (i := 5) (by kernel_rfl) rfl (fun KP hK => ?_)
  go_simp
  refine (spec_entry KQ NQ FQ a2 zq c2 iq HQQ.out.2.1 HQQ.out.2.2 v1).mono ?_
  rintro e v2 ⟨rfl, b1⟩
  replace BC := hid (BC.out.trans (b1.mono BC.out.size))
  clear b1
  generalize entB KQ NQ FQ zq iq = X2 at *
  clear hHeld
  go_wp2_with fail
  refine hK.out _ _ (HKq.out _ BC.out) (fun hHeld => ?_)
  clear hK KP
  try simp only [Act.put, List.setIfInBounds_toArray, List.set_cons_succ, List.set_cons_zero]
  cases X2 with
  | false =>
   refine anyK_take2 (i := 6) (v := ?v6_10) rfl (by kernel_rfl) (by kernel_rfl) (by kernel_rfl) (by rfl) (fun _ _ _ h => h) (by rfl) hHeld ?hy6_10 (some 24) (by rfl) ?rest6_10
   case hy6_10 => (intro W hSw; obtain ⟨⟨x0, x1⟩, x2, x3, x4, x5, x6⟩ := hSw; go_simp; (try with_reducible rfl))
   try simp only [Act.put, List.setIfInBounds_toArray, List.set_cons_succ, List.set_cons_zero]
   refine anyK_take2 (i := 7) (v := ?v7_11) rfl (by kernel_rfl) (by kernel_rfl) (by kernel_rfl) (by rfl) (fun _ _ _ h => h) (by rfl) hHeld ?hy7_11 (some 25) (by rfl) ?rest7_11
   case hy7_11 => (intro W hSw; obtain ⟨⟨x0, x1⟩, x2, x3, x4, x5, x6⟩ := hSw; go_simp; (try with_reducible rfl))
   try simp only [Act.put, List.setIfInBounds_toArray, List.set_cons_succ, List.set_cons_zero]
   refine anyK_take2 (i := 8) (v := ?v8_12) rfl (by kernel_rfl) (by kernel_rfl) (by kernel_rfl) (by rfl) (fun _ _ _ h => h) (by rfl) hHeld ?hy8_12 (some 26) (by rfl) ?rest8_12
   case hy8_12 => (intro W hSw; obtain ⟨⟨x0, x1⟩, x2, x3, x4, x5, x6⟩ := hSw; go_simp; (try with_reducible rfl))
   try simp only [Act.put, List.setIfInBounds_toArray, List.set_cons_succ, List.set_cons_zero]
   refine anyK_skip (i := 9) rfl (by kernel_rfl) (by kernel_rfl) (by kernel_rfl) (by kernel_rfl) (fun _ _ _ h => h) (by rfl) hHeld (some 27) (by rfl) ?_
   try simp only [Act.put, List.setIfInBounds_toArray, List.set_cons_succ, List.set_cons_zero]
   refine anyK_skip (i := 10) rfl (by kernel_rfl) (by kernel_rfl) (by kernel_rfl) (by kernel_rfl) (fun _ _ _ h => h) (by rfl) hHeld (some 28) (by rfl) ?_
   try simp only [Act.put, List.setIfInBounds_toArray, List.set_cons_succ, List.set_cons_zero]
   refine anyK_skip (i := 11) rfl (by kernel_rfl) (by kernel_rfl) (by kernel_rfl) (by kernel_rfl) (fun _ _ _ h => h) (by rfl) hHeld (some 29) (by rfl) ?_
   try simp only [Act.put, List.setIfInBounds_toArray, List.set_cons_succ, List.set_cons_zero]
   refine anyK_skip (i := 12) rfl (by kernel_rfl) (by kernel_rfl) (by kernel_rfl) (by kernel_rfl) (fun _ _ _ h => h) (by rfl) hHeld (some 30) (by rfl) ?_
   try simp only [Act.put, List.setIfInBounds_toArray, List.set_cons_succ, List.set_cons_zero]
   refine anyK_skip (i := 13) rfl (by kernel_rfl) (by kernel_rfl) (by kernel_rfl) (by kernel_rfl) (fun _ _ _ h => h) (by rfl) hHeld (some 31) (by rfl) ?_
   try simp only [Act.put, List.setIfInBounds_toArray, List.set_cons_succ, List.set_cons_zero]
   refine anyK_take2 (i := 14) (v := ?v14_13) rfl (by kernel_rfl) (by kernel_rfl) (by kernel_rfl) (by rfl) (fun _ _ _ h => h) (by rfl) hHeld ?hy14_13 (some 32) (by rfl) ?rest14_13
   case hy14_13 => (intro W hSw; obtain ⟨⟨x0, x1⟩, x2, x3, x4, x5, x6⟩ := hSw; go_simp; (try with_reducible rfl))
   try simp only [Act.put, List.setIfInBounds_toArray, List.set_cons_succ, List.set_cons_zero]
   refine anyK_done (by kernel_rfl) ?_ _
   clear hHeld
   have HNo := hid (dropT_no (ns := ns) (root := root) (q := ⟨KQ, NQ, FQ, ZQ, iq⟩) (by rw [HEn.out, Bool.false_and, Bool.and_false]))
   have HC6 := hid (HBx.out v2 BC.out).2.1
   have HBw := hid (HBx.out v2 BC.out).2.2.2
   go_wp2_with (refine wpList_store_row rfl 26 (.tmp 6) _ rfl p6 #[.slice none 0 0, .int .i64 0] rfl rfl 26 _ HC6.out size_tr11 rfl (by simp [Value.oneCell']) ?_)
   exact bodyPost_ret (results_cell_tmp11 Try.results47 _ _ p6 26 #[.slice none 0 0, .int .i64 0] (0, 0) _ rfl (setRow_heap _ _ _ _ _ _ HC6.out) Try.underlying26 rfl size_tr11) rfl ⟨none, 0, by rw [HNo.out]; rfl, by rw [HNo.out]; exact ⟨0, [], NsR.nil _ _⟩, below_setRow HBw.out (by have := HP.out; omega) _⟩
  | true =>
   refine anyK_take2 (i := 6) (v := ?v6_14) rfl (by kernel_rfl) (by kernel_rfl) (by kernel_rfl) (by rfl) (fun _ _ _ h => h) (by rfl) hHeld ?hy6_14 (some 24) (by rfl) ?rest6_14
   case hy6_14 => (intro W hSw; obtain ⟨⟨x0, x1⟩, x2, x3, x4, x5, x6⟩ := hSw; go_simp; (try with_reducible rfl))
   try simp only [Act.put, List.setIfInBounds_toArray, List.set_cons_succ, List.set_cons_zero]
   refine anyK_take2 (i := 7) (v := ?v7_15) rfl (by kernel_rfl) (by kernel_rfl) (by kernel_rfl) (by rfl) (fun _ _ _ h => h) (by rfl) hHeld ?hy7_15 (some 25) (by rfl) ?rest7_15
   case hy7_15 => (intro W hSw; obtain ⟨⟨x0, x1⟩, x2, x3, x4, x5, x6⟩ := hSw; go_simp; (try with_reducible rfl))
   try simp only [Act.put, List.setIfInBounds_toArray, List.set_cons_succ, List.set_cons_zero]
   refine anyK_take2 (i := 8) (v := ?v8_16) rfl (by kernel_rfl) (by kernel_rfl) (by kernel_rfl) (by rfl) (fun _ _ _ h => h) (by rfl) hHeld ?hy8_16 (some 26) (by rfl) ?rest8_16
   case hy8_16 => (intro W hSw; obtain ⟨⟨x0, x1⟩, x2, x3, x4, x5, x6⟩ := hSw; go_simp; (try with_reducible rfl))
   try simp only [Act.put, List.setIfInBounds_toArray, List.set_cons_succ, List.set_cons_zero]
   refine anyK_take2 (i := 9) (v := ?v9_17) rfl (by kernel_rfl) (by kernel_rfl) (by kernel_rfl) (by rfl) (fun _ _ _ h => h) (by rfl) hHeld ?hy9_17 (some 27) (by rfl) ?rest9_17
   case hy9_17 => (intro W hSw; obtain ⟨⟨x0, x1⟩, x2, x3, x4, x5, x6⟩ := hSw; go_simp; (try with_reducible rfl))
   try simp only [Act.put, List.setIfInBounds_toArray, List.set_cons_succ, List.set_cons_zero]
   refine anyK_take2 (i := 11) (v := ?v11_18) rfl (by kernel_rfl) (by kernel_rfl) (by kernel_rfl) (by rfl) (fun _ _ _ h => h) (by rfl) hHeld ?hy11_18 (some 29) (by rfl) ?rest11_18
   case hy11_18 => (intro W hSw; obtain ⟨⟨x0, x1⟩, x2, x3, x4, x5, x6⟩ := hSw; go_simp; (try with_reducible rfl))
   try simp only [Act.put, List.setIfInBounds_toArray, List.set_cons_succ, List.set_cons_zero]
   have HT := hid (show treeIs ns root = true from HSame.out.symm)
   refine anyK_step (i := 10) (by kernel_rfl) rfl (fun KP hK => ?_)
   go_simp
   refine (spec_TreeAll cap root (HR.out.below (HB1.out.trans (BC.out.mono HB1.out.size)) (Nat.le_refl _)) HNs.out HM.out).mono ?_
   rintro e v3 ⟨va, rfl, oa, b1⟩
   obtain ⟨aa, ca, ea⟩ := oa.slice
   subst ea
   replace BC := hid (BC.out.trans (b1.mono BC.out.size))
   have HAll := hid oa.rd
   obtain ⟨na, hna⟩ : ∃ na, (allS ns root).length = na := ⟨_, rfl⟩
   rw [hna]
   have HNa := hid hna
   clear b1 oa hna
   clear hHeld
   go_wp2_with fail
   refine hK.out _ _ (HKq.out _ BC.out) (fun hHeld => ?_)
   clear hK KP
   try simp only [Act.put, List.setIfInBounds_toArray, List.set_cons_succ, List.set_cons_zero]
   refine anyK_step (i := 12) (by kernel_rfl) rfl (fun KP hK => ?_)
   go_simp
   refine (spec_l11there ca KQ NQ FQ c2 iq HAll.out HNa.out (by have := allS_small ns root; have := HNa.out; omega) (fun j => by
    rcases getD_mem_or (allS ns root) j en0 with e | e
    · rw [e]; simp [en0]
    · have := entOk_small (allS_ok ns root _ e); omega) (HQ2.out.below BC.out (Nat.le_refl _)) HQQ.out).mono ?_
   rintro e v4 ⟨rfl, b1⟩
   replace BC := hid (BC.out.trans (b1.mono BC.out.size))
   have HTh := hid (there_iff HT.out (e := ⟨KQ, NQ, FQ, ZQ, iq⟩) HEn.out)
   generalize (allS ns root).any (fun z => !offE ⟨KQ, NQ, FQ, ZQ, iq⟩ z) = X3 at *
   clear b1 HAll
   clear hHeld
   go_wp2_with fail
   refine hK.out _ _ (HKq.out _ BC.out) (fun hHeld => ?_)
   clear hK KP
   try simp only [Act.put, List.setIfInBounds_toArray, List.set_cons_succ, List.set_cons_zero]
   cases X3 with
   | false =>
    refine anyK_take2 (i := 13) (v := ?v13_19) rfl (by kernel_rfl) (by kernel_rfl) (by kernel_rfl) (by rfl) (fun _ _ _ h => h) (by rfl) hHeld ?hy13_19 (some 31) (by rfl) ?rest13_19
    case hy13_19 => (intro W hSw; obtain ⟨⟨x0, x1⟩, x2, x3, x4, x5, x6⟩ := hSw; go_simp; (try with_reducible rfl))
    try simp only [Act.put, List.setIfInBounds_toArray, List.set_cons_succ, List.set_cons_zero]
    refine anyK_take2 (i := 14) (v := ?v14_20) rfl (by kernel_rfl) (by kernel_rfl) (by kernel_rfl) (by rfl) (fun _ _ _ h => h) (by rfl) hHeld ?hy14_20 (some 32) (by rfl) ?rest14_20
    case hy14_20 => (intro W hSw; obtain ⟨⟨x0, x1⟩, x2, x3, x4, x5, x6⟩ := hSw; go_simp; (try with_reducible rfl))
    try simp only [Act.put, List.setIfInBounds_toArray, List.set_cons_succ, List.set_cons_zero]
    refine anyK_done (by kernel_rfl) ?_ _
    clear hHeld
    have HNo := hid (dropT_no (ns := ns) (root := root) (q := ⟨KQ, NQ, FQ, ZQ, iq⟩) (by rw [← HTh.out, Bool.and_false, Bool.and_false]))
    have HC6 := hid (HBx.out v4 BC.out).2.1
    have HBw := hid (HBx.out v4 BC.out).2.2.2
    go_wp2_with (refine wpList_store_row rfl 26 (.tmp 6) _ rfl p6 #[.slice none 0 0, .int .i64 0] rfl rfl 26 _ HC6.out size_tr11 rfl (by simp [Value.oneCell']) ?_)
    exact bodyPost_ret (results_cell_tmp11 Try.results47 _ _ p6 26 #[.slice none 0 0, .int .i64 0] (0, 0) _ rfl (setRow_heap _ _ _ _ _ _ HC6.out) Try.underlying26 rfl size_tr11) rfl ⟨none, 0, by rw [HNo.out]; rfl, by rw [HNo.out]; exact ⟨0, [], NsR.nil _ _⟩, below_setRow HBw.out (by have := HP.out; omega) _⟩
   | true =>
    refine anyK_take2 (i := 13) (v := ?v13_21) rfl (by kernel_rfl) (by kernel_rfl) (by kernel_rfl) (by rfl) (fun _ _ _ h => h) (by rfl) hHeld ?hy13_21 (some 31) (by rfl) ?rest13_21
    case hy13_21 => (intro W hSw; obtain ⟨⟨x0, x1⟩, x2, x3, x4, x5, x6⟩ := hSw; go_simp; (try with_reducible rfl))
    try simp only [Act.put, List.setIfInBounds_toArray, List.set_cons_succ, List.set_cons_zero]
    refine anyK_take2 (i := 14) (v := ?v14_22) rfl (by kernel_rfl) (by kernel_rfl) (by kernel_rfl) (by rfl) (fun _ _ _ h => h) (by rfl) hHeld ?hy14_22 (some 32) (by rfl) ?rest14_22
    case hy14_22 => (intro W hSw; obtain ⟨⟨x0, x1⟩, x2, x3, x4, x5, x6⟩ := hSw; go_simp; (try with_reducible rfl))
    try simp only [Act.put, List.setIfInBounds_toArray, List.set_cons_succ, List.set_cons_zero]
    refine anyK_done (by kernel_rfl) ?_ _
    clear hHeld
    have HYs := hid (show dropT ns root ⟨KQ, NQ, FQ, ZQ, iq⟩ = (dropN ns ⟨KQ, NQ, FQ, ZQ, iq⟩, root, true) by unfold dropT; rw [if_pos (by rw [HT.out, HEn.out, ← HTh.out]; rfl)])
    have hsn := small_nodes HT.out
    have HNl := hid (treeIs_len HT.out)
    have hN3 : N ≤ 300 := by have := HNl.out; have := HNs.out; omega
    have HBv := hid (HB1.out.trans (BC.out.mono HB1.out.size))
    have c3a : v4.cell? ⟨p3, 0, none⟩ = some (.slice ad N cap) := (HKq.out _ BC.out).1.1
    have c3b : v4.cell? ⟨p3, 1, none⟩ = some (.int .i64 root) := (HKq.out _ BC.out).1.2
    have hkap4 : KapD v4 ad N := fun k hk b off n c a e h => by
     obtain ⟨b', off', a', c', a5, c5, e', h0, h1, h2, _⟩ := HR.out.at (k := k) (by have := HNs.out; omega)
     rw [e] at e'
     cases e'
     have hb := World.block_lt_of_cell? w _ h2
     exact HKap.out k hk e ((HBv.out.cell (p := ⟨b, off + k * 3 + 2, none⟩) hb).symm.trans h)
    have HKap4 := hid hkap4
    have HSn := hid hsn
    clear hkap4 hsn
    go_wp2_with fail
    clear c3a c3b
    refine (spec_l11copy cap root (HR.out.below HBv.out (Nat.le_refl _)) HNs.out hN3 (fun i => (HSn.out i).1) (fun i => (HSn.out i).2) HM.out HKap4.out).mono ?_
    rintro e v5 ⟨aG, cG, ys0, rfl, hns0, b5⟩
    have HB5 := hid (BC.out.trans (b5.mono BC.out.size))
    have HSz5 := hid (show U2.heap.size ≤ v4.heap.size from BC.out.size)
    have hN1 : 0 < N := by
     have h := HT.out
     unfold treeIs at h
     rw [Bool.and_eq_true] at h
     have := (of_decide_eq_true h.1).1
     have := HNs.out
     omega
    obtain ⟨G, rfl⟩ : ∃ G, aG = some ⟨G, 0, none⟩ := by
     rcases hns0.own.2 with ⟨e, hz⟩ | ⟨g', cp, cu, e, _⟩
     · have := HNs.out; omega
     · cases e; exact ⟨g', rfl⟩
    have HG := hid (hns0.own.lt G rfl)
    have HBA := hid (Below.alloc1 v5 (.cells #[.slice (some ⟨G, 0, none⟩) N cG, .int .i64 root] 26))
    have HR9 := hid (heap_alloc_new v5 (.cells #[.slice (some ⟨G, 0, none⟩) N cG, .int .i64 root] 26))
    have HZ9 := hid (alloc_size v5 (.cells #[.slice (some ⟨G, 0, none⟩) N cG, .int .i64 root] 26))
    have HS0 := hid (show NsR _ v4.heap.size (.slice (some ⟨G, 0, none⟩) N cG) (mixD ns ⟨KQ, NQ, FQ, ZQ, iq⟩ 0) ys0 by rw [mix_zero]; exact hns0.below HBA.out)
    have HB6 := hid (HB5.out.trans (HBA.out.mono HB5.out.size))
    clear hns0 b5
    go_wp2_with fail
    generalize v5.alloc (.cells #[.slice (some ⟨G, 0, none⟩) N cG, .int .i64 root] 26) = v6 at *
    obtain ⟨p9, hp9⟩ : ∃ p9, v5.heap.size = p9 := ⟨_, rfl⟩
    rw [hp9] at HR9 HZ9 HG
    try simp only [hp9]
    have HP9 := hid hp9
    clear hp9
    go_loopw [10] (fun s wr => ∃ (k : Nat) (ys : List (Value × Value)), k ≤ N ∧ s = .int .i64 k ∧ Hid (NsR wr v4.heap.size (.slice (some ⟨G, 0, none⟩) N cG) (mixD ns ⟨KQ, NQ, FQ, ZQ, iq⟩ k) ys) ∧ Hid (wr.heap[p9]? = some (.cells #[.slice (some ⟨G, 0, none⟩) N cG, .int .i64 root] 26 (0, 0))) ∧ Hid (Below U2.heap.size U2 wr) ∧ Hid (p9 < wr.heap.size)) (fun s _ => N - (intOf s).toNat)
    case atStart => exact ⟨0, _, Nat.zero_le _, rfl, HS0, HR9, HB6, hid (by have := HZ9.out; omega)⟩
    case round =>
     clear HS0 HR9 HB6 HZ9
     obtain ⟨k, ys, hk, rfl, HS, H9, HB, HZ9⟩ := hrel
     have c9 : wr.cell? ⟨p9, 0, none⟩ = some (.slice (some ⟨G, 0, none⟩) N cG) := by rw [cell_of_row _ _ _ _ _ _ H9.out]; rfl
     by_cases hlt : k < N
     · have hlt' : (k : Int) < (N : Int) := by omega
       have hk0 : (0 : Int) ≤ (k : Int) := by omega
       have hkl : k < ns.length := by have := HNs.out; omega
       have hkm : k < (mixD ns ⟨KQ, NQ, FQ, ZQ, iq⟩ k).length := by rw [mix_len]; exact hkl
       have hnd := HS.out.nd k hkm
       have hml : (mixD ns ⟨KQ, NQ, FQ, ZQ, iq⟩ k).length = N := by rw [mix_len]; exact HNs.out
       have hown := HS.out.own
       rw [hml] at hown
       have HMl := hid hml
       have hcell := fun j (hj : j < 3) => (hown.cellAt (k * 3 + j) (by omega)).trans (cellsD_at _ ys k j HS.out.len hkm hj)
       rw [mix_at ns ⟨KQ, NQ, FQ, ZQ, iq⟩ k hkl] at hnd hcell
       have hle := (HSn.out k).1
       have HStp := hid (mix_step ns ⟨KQ, NQ, FQ, ZQ, iq⟩ k hkl)
       have HSme := hid (mix_same ns ⟨KQ, NQ, FQ, ZQ, iq⟩ k hkl)
       have HKm := hid hkm
       have HMk := hid (HM.out k)
       generalize ns.getD k nd0 = d at *
       obtain ⟨be, xs, hen⟩ := hnd.es
       have hin := hnd.ks
       obtain ⟨bk, hok⟩ := hin.own
       obtain ⟨ae, ce, he1⟩ := own_sl hen.own
       obtain ⟨ak, ck, he2⟩ := own_sl hok
       generalize ys.getD k nilP = yk at *
       obtain ⟨y1, y2⟩ := yk
       dsimp only at he1 he2 hen hin
       subst he1
       subst he2
       obtain ⟨n, hn⟩ : ∃ n, d.es.length = n := ⟨_, rfl⟩
       obtain ⟨m, hmm⟩ : ∃ m, d.ks.length = m := ⟨_, rfl⟩
       have d0 := hcell 0 (by omega)
       have d1 := hcell 1 (by omega)
       have d2 := hcell 2 (by omega)
       rw [Nat.add_zero] at d0
       rw [show (cellsD1 d (.slice ae d.es.length ce, .slice ak d.ks.length ck))[0]? = some (.bool d.leaf) from rfl] at d0
       rw [show (cellsD1 d (.slice ae d.es.length ce, .slice ak d.ks.length ck))[1]? = some (.slice ae d.es.length ce) from rfl, hn] at d1
       rw [show (cellsD1 d (.slice ae d.es.length ce, .slice ak d.ks.length ck))[2]? = some (.slice ak d.ks.length ck) from rfl, hmm] at d2
       rw [hn] at hen hle
       rw [hmm] at hin
       have HEn1 := hid hen
       have HIn1 := hid hin
       have HNn := hid hn
       have HNm := hid hmm
       have HGw := hid (HS.out.own.lt G rfl)
       clear hen hin hok hnd hcell hn hmm hkl hkm hown hml
       cases hl : d.leaf with
       | false =>
        rw [hl] at d0
        have HSme2 := hid (HSme.out hl)
        have HBA1 := hid (Below.alloc1 wr (.cells #[.bool false, .slice ae n ce, .slice ak m ck] 67))
        clear hl
        go_wp2_with fail
        clear c9 d0 d1 d2
        go_roundw
        case rel => exact ⟨k + 1, ys, by omega, by go_num, hid (by rw [HSme2.out]; exact HS.out.below HBA1.out), hid ((HBA1.out.block p9 HZ9.out).trans H9.out), hid (HB.out.trans (HBA1.out.mono HB.out.size)), hid (Nat.lt_of_lt_of_le HZ9.out HBA1.out.size)⟩
        case measure => simp [intOf]; omega
       | true =>
        rw [hl] at d0
        have HLf := hid hl
        have HBA1 := hid (Below.alloc1 wr (.cells #[.bool true, .slice ae n ce, .slice ak m ck] 67))
        have HR11 := hid (heap_alloc_new wr (.cells #[.bool true, .slice ae n ce, .slice ak m ck] 67))
        have HZ11 := hid (alloc_size wr (.cells #[.bool true, .slice ae n ce, .slice ak m ck] 67))
        clear hl HSme
        go_wp2_with fail
        clear c9 d0 d1 d2
        generalize wr.alloc (.cells #[.bool true, .slice ae n ce, .slice ak m ck] 67) = w7 at *
        obtain ⟨p11, hp11⟩ : ∃ p11, wr.heap.size = p11 := ⟨_, rfl⟩
        rw [hp11] at HR11 HZ11
        try simp only [hp11]
        have HP11 := hid hp11
        clear hp11
        obtain ⟨wo, hwo⟩ : ∃ wo, wo = wr := ⟨_, rfl⟩
        subst hwo
        go_loopw [12, 13] (fun s12 s13 wr => ∃ (j : Nat) (v : Value) (xl : List Value), j ≤ n ∧ s13 = .int .i64 j ∧ s12 = v ∧ Hid (EnR wr w7.heap.size v ((d.es.take j).filter (offE ⟨KQ, NQ, FQ, ZQ, iq⟩)) xl) ∧ Hid (Below w7.heap.size w7 wr)) (fun _ s _ => n - (intOf s).toNat)
        case atStart => exact ⟨0, _, [], Nat.zero_le _, rfl, rfl, hid (by rw [List.take_zero]; exact EnR.nil _ _), hid (Below.refl _ _)⟩
        case round =>
         obtain ⟨j, v, xl, hj, rfl, rfl, HL, HB7⟩ := hrel
         have h11 := (HB7.out.block p11 (by have := HZ11.out; omega)).trans HR11.out
         have q1 : wr.cell? ⟨p11, 1, none⟩ = some (.slice ae n ce) := by rw [cell_of_row _ _ _ _ _ _ h11]; rfl
         by_cases hlj : j < n
         · have hlj' : (j : Int) < (n : Int) := by omega
           have hj0 : (0 : Int) ≤ (j : Int) := by omega
           have HKr := hid (show Below wo.heap.size wo wr from HBA1.out.trans (HB7.out.mono HBA1.out.size))
           have hen := HEn1.out.kn (KN.below HKr.out)
           have hjl : j < d.es.length := by have := HNn.out; omega
           obtain ⟨ba, rfl⟩ : ∃ ba, ae = some ⟨ba, 0, none⟩ := by
            rcases hen.own.2 with ⟨e, hz⟩ | ⟨g', cp, cu, e, _⟩
            · omega
            · cases e; exact ⟨g', rfl⟩
           have hown := hen.own
           rw [HNn.out] at hown
           have hcl := fun q (hq : q < 5) => (hown.cellAt (j * 5 + q) (by omega)).trans (cellsE_at d.es xs j q hen.len hjl hq)
           obtain ⟨htx, hF⟩ := hen.tx j hjl
           have hz1 := HMk.out j
           have HFs := hid (filter_step (offE ⟨KQ, NQ, FQ, ZQ, iq⟩) d.es hjl)
           generalize d.es.getD j en0 = ej at *
           obtain ⟨K, N0, F, Z, id⟩ := ej
           dsimp only at htx hF hz1
           obtain ⟨a1, c1, hxe, hr1, -⟩ := htx.row
           have HTx := hid htx
           generalize xs.getD j nilS = xj at *
           subst hxe
           obtain ⟨z, hz⟩ : ∃ z, Z.length = z := ⟨_, rfl⟩
           rw [hz] at hr1 hz1
           have k0 := hcl 0 (by omega)
           have k1 := hcl 1 (by omega)
           have k2 := hcl 2 (by omega)
           have k3 := hcl 3 (by omega)
           have k4 := hcl 4 (by omega)
           rw [Nat.add_zero] at k0
           rw [show (cellsE1 ⟨K, N0, F, Z, id⟩ (.slice a1 Z.length c1))[0]? = some (.int .i64 K) from rfl] at k0
           rw [show (cellsE1 ⟨K, N0, F, Z, id⟩ (.slice a1 Z.length c1))[1]? = some (.int .i64 N0) from rfl] at k1
           rw [show (cellsE1 ⟨K, N0, F, Z, id⟩ (.slice a1 Z.length c1))[2]? = some (.float .f64 F) from rfl] at k2
           rw [show (cellsE1 ⟨K, N0, F, Z, id⟩ (.slice a1 Z.length c1))[3]? = some (.slice a1 Z.length c1) from rfl, hz] at k3
           rw [show (cellsE1 ⟨K, N0, F, Z, id⟩ (.slice a1 Z.length c1))[4]? = some (.int .i64 id) from rfl] at k4
           have HZz := hid hz
           have HRj := hid hr1
           have hstF := fun w a m => run_store Try.prog w a (.float .f64 F) m rfl
           have HBr := hid (HB.out.trans (HKr.out.mono HB.out.size))
           have HKi := hid (show ∀ W, Below wr.heap.size wr W → W.cell? ⟨p11, 1, none⟩ = some (.slice (some ⟨ba, 0, none⟩) n ce) ∧ (W.cell? ⟨p8, 0, none⟩ = some (.int .i64 KQ) ∧ W.cell? ⟨p8, 1, none⟩ = some (.int .i64 NQ) ∧ W.cell? ⟨p8, 2, none⟩ = some (.float .f64 FQ) ∧ W.cell? ⟨p8, 3, none⟩ = some (.slice a2 zq c2) ∧ W.cell? ⟨p8, 4, none⟩ = some (.int .i64 iq)) ∧ W.cell? ⟨ba, j * 5, none⟩ = some (.int .i64 K) ∧ W.cell? ⟨ba, j * 5 + 1, none⟩ = some (.int .i64 N0) ∧ W.cell? ⟨ba, j * 5 + 2, none⟩ = some (.float .f64 F) ∧ W.cell? ⟨ba, j * 5 + 3, none⟩ = some (.slice a1 z c1) ∧ W.cell? ⟨ba, j * 5 + 4, none⟩ = some (.int .i64 id) from fun W bb => by
            have cw : ∀ {p : Addr} {v : Value}, wr.cell? p = some v → W.cell? p = some v := fun e => (bb.cell (World.block_lt_of_cell? wr _ e)).trans e
            exact ⟨cw q1, (HKq.out W (HBr.out.trans (bb.mono HBr.out.size))).2, cw k0, cw k1, cw k2, cw k3, cw k4⟩)
           have BI := hid ((Still.drew wr).below wr.heap.size)
           clear k0 k1 k2 k3 k4 hcl hown hen htx hr1 hz h11
           go_wp2_with fail
           clear q1
           refine region_K 99 (fun W => W.cell? ⟨p11, 1, none⟩ = some (.slice (some ⟨ba, 0, none⟩) n ce) ∧ (W.cell? ⟨p8, 0, none⟩ = some (.int .i64 KQ) ∧ W.cell? ⟨p8, 1, none⟩ = some (.int .i64 NQ) ∧ W.cell? ⟨p8, 2, none⟩ = some (.float .f64 FQ) ∧ W.cell? ⟨p8, 3, none⟩ = some (.slice a2 zq c2) ∧ W.cell? ⟨p8, 4, none⟩ = some (.int .i64 iq)) ∧ W.cell? ⟨ba, j * 5, none⟩ = some (.int .i64 K) ∧ W.cell? ⟨ba, j * 5 + 1, none⟩ = some (.int .i64 N0) ∧ W.cell? ⟨ba, j * 5 + 2, none⟩ = some (.float .f64 F) ∧ W.cell? ⟨ba, j * 5 + 3, none⟩ = some (.slice a1 z c1) ∧ W.cell? ⟨ba, j * 5 + 4, none⟩ = some (.int .i64 id)) (by kernel_rfl) (HKi.out _ BI.out) (fun hHeld => ?_)
           generalize wr.drew = vi at *
           refine anyK_take2 (i := 0) (v := ?v0_23) rfl (by kernel_rfl) (by kernel_rfl) (by kernel_rfl) (by rfl) (fun _ _ _ h => h) (by rfl) hHeld ?hy0_23 (some 57) (by rfl) ?rest0_23
           case hy0_23 => (intro W hSw; obtain ⟨x0, ⟨x1, x2, x3, x4, x5⟩, x6, x7, x8, x9, x10⟩ := hSw; go_simp; (try with_reducible rfl))
           try simp only [Act.put, List.setIfInBounds_toArray, List.set_cons_succ, List.set_cons_zero]
           refine anyK_take2 (i := 1) (v := ?v1_24) rfl (by kernel_rfl) (by kernel_rfl) (by kernel_rfl) (by rfl) (fun _ _ _ h => h) (by rfl) hHeld ?hy1_24 (some 58) (by rfl) ?rest1_24
           case hy1_24 => (intro W hSw; obtain ⟨x0, ⟨x1, x2, x3, x4, x5⟩, x6, x7, x8, x9, x10⟩ := hSw; go_simp; (try with_reducible rfl))
           try simp only [Act.put, List.setIfInBounds_toArray, List.set_cons_succ, List.set_cons_zero]
           refine anyK_take2 (i := 2) (v := ?v2_25) rfl (by kernel_rfl) (by kernel_rfl) (by kernel_rfl) (by rfl) (fun _ _ _ h => h) (by rfl) hHeld ?hy2_25 (some 59) (by rfl) ?rest2_25
           case hy2_25 => (intro W hSw; obtain ⟨x0, ⟨x1, x2, x3, x4, x5⟩, x6, x7, x8, x9, x10⟩ := hSw; go_simp; (try with_reducible rfl))
           try simp only [Act.put, List.setIfInBounds_toArray, List.set_cons_succ, List.set_cons_zero]
           refine anyK_take2 (i := 3) (v := ?v3_26) rfl (by kernel_rfl) (by kernel_rfl) (by kernel_rfl) (by rfl) (fun _ _ _ h => h) (by rfl) hHeld ?hy3_26 (some 60) (by rfl) ?rest3_26
           case hy3_26 => (intro W hSw; obtain ⟨x0, ⟨x1, x2, x3, x4, x5⟩, x6, x7, x8, x9, x10⟩ := hSw; go_simp; (try with_reducible rfl))
           try simp only [Act.put, List.setIfInBounds_toArray, List.set_cons_succ, List.set_cons_zero]
           refine anyK_take2 (i := 4) (v := ?v4_27) rfl (by kernel_rfl) (by kernel_rfl) (by kernel_rfl) (by rfl) (fun _ _ _ h => h) (by rfl) hHeld ?hy4_27 (some 61) (by rfl) ?rest4_27
           case hy4_27 => (intro W hSw; obtain ⟨x0, ⟨x1, x2, x3, x4, x5⟩, x6, x7, x8, x9, x10⟩ := hSw; go_simp; (try with_reducible rfl))
           try simp only [Act.put, List.setIfInBounds_toArray, List.set_cons_succ, List.set_cons_zero]
           refine anyK_take2 (i := 5) (v := ?v5_28) rfl (by kernel_rfl) (by kernel_rfl) (by kernel_rfl) (by rfl) (fun _ _ _ h => h) (by rfl) hHeld ?hy5_28 (some 62) (by rfl) ?rest5_28
           case hy5_28 => (intro W hSw; obtain ⟨x0, ⟨x1, x2, x3, x4, x5⟩, x6, x7, x8, x9, x10⟩ := hSw; go_simp; (try with_reducible rfl))
           try simp only [Act.put, List.setIfInBounds_toArray, List.set_cons_succ, List.set_cons_zero]
           refine anyK_step (i := 6) (by kernel_rfl) rfl (fun KP hK => ?_)
           go_simp
           have HBi := hid (HBr.out.trans (BI.out.mono HBr.out.size))
           refine (spec_less K N0 F c1 id KQ NQ FQ c2 iq hF HQQ.out.2.1 (HRj.out.below BI.out (Nat.le_refl _)) (HQ2.out.below HBi.out (Nat.le_refl _)) hz1 HQQ.out.2.2).mono ?_
           rintro e v7 ⟨rfl, b1⟩
           replace BI := hid (BI.out.trans (b1.mono BI.out.size))
           have HEY1 := hid (show ltE ⟨K, N0, F, Z, id⟩ ⟨KQ, NQ, FQ, ZQ, iq⟩ = ltB (cmpI K N0 F z Z KQ NQ FQ zq ZQ) id iq by unfold ltE cmpE; simp only [HZz.out, HQQ.out.1])
           generalize ltB (cmpI K N0 F z Z KQ NQ FQ zq ZQ) id iq = Y1 at *
           clear b1 HBi
           clear hHeld
           go_wp2_with fail
           refine hK.out _ _ (HKi.out _ BI.out) (fun hHeld => ?_)
           clear hK KP
           try simp only [Act.put, List.setIfInBounds_toArray, List.set_cons_succ, List.set_cons_zero]
           cases Y1 with
           | true =>
            refine anyK_take2 (i := 7) (v := ?v7_29) rfl (by kernel_rfl) (by kernel_rfl) (by kernel_rfl) (by rfl) (fun _ _ _ h => h) (by rfl) hHeld ?hy7_29 (some 64) (by rfl) ?rest7_29
            case hy7_29 => (intro W hSw; obtain ⟨x0, ⟨x1, x2, x3, x4, x5⟩, x6, x7, x8, x9, x10⟩ := hSw; go_simp; (try with_reducible rfl))
            try simp only [Act.put, List.setIfInBounds_toArray, List.set_cons_succ, List.set_cons_zero]
            refine anyK_skip (i := 8) rfl (by kernel_rfl) (by kernel_rfl) (by kernel_rfl) (by kernel_rfl) (fun _ _ _ h => h) (by rfl) hHeld (some 65) (by rfl) ?_
            try simp only [Act.put, List.setIfInBounds_toArray, List.set_cons_succ, List.set_cons_zero]
            refine anyK_skip (i := 9) rfl (by kernel_rfl) (by kernel_rfl) (by kernel_rfl) (by kernel_rfl) (fun _ _ _ h => h) (by rfl) hHeld (some 66) (by rfl) ?_
            try simp only [Act.put, List.setIfInBounds_toArray, List.set_cons_succ, List.set_cons_zero]
            refine anyK_skip (i := 10) rfl (by kernel_rfl) (by kernel_rfl) (by kernel_rfl) (by kernel_rfl) (fun _ _ _ h => h) (by rfl) hHeld (some 67) (by rfl) ?_
            try simp only [Act.put, List.setIfInBounds_toArray, List.set_cons_succ, List.set_cons_zero]
            refine anyK_skip (i := 11) rfl (by kernel_rfl) (by kernel_rfl) (by kernel_rfl) (by kernel_rfl) (fun _ _ _ h => h) (by rfl) hHeld (some 68) (by rfl) ?_
            try simp only [Act.put, List.setIfInBounds_toArray, List.set_cons_succ, List.set_cons_zero]
            refine anyK_skip (i := 12) rfl (by kernel_rfl) (by kernel_rfl) (by kernel_rfl) (by kernel_rfl) (fun _ _ _ h => h) (by rfl) hHeld (some 69) (by rfl) ?_
            try simp only [Act.put, List.setIfInBounds_toArray, List.set_cons_succ, List.set_cons_zero]
            refine anyK_skip (i := 13) rfl (by kernel_rfl) (by kernel_rfl) (by kernel_rfl) (by kernel_rfl) (fun _ _ _ h => h) (by rfl) hHeld (some 70) (by rfl) ?_
            try simp only [Act.put, List.setIfInBounds_toArray, List.set_cons_succ, List.set_cons_zero]
            refine anyK_skip (i := 14) rfl (by kernel_rfl) (by kernel_rfl) (by kernel_rfl) (by kernel_rfl) (fun _ _ _ h => h) (by rfl) hHeld (some 71) (by rfl) ?_
            try simp only [Act.put, List.setIfInBounds_toArray, List.set_cons_succ, List.set_cons_zero]
            refine anyK_take2 (i := 15) (v := ?v15_30) rfl (by kernel_rfl) (by kernel_rfl) (by kernel_rfl) (by rfl) (fun _ _ _ h => h) (by rfl) hHeld ?hy15_30 (some 72) (by rfl) ?rest15_30
            case hy15_30 => (intro W hSw; obtain ⟨x0, ⟨x1, x2, x3, x4, x5⟩, x6, x7, x8, x9, x10⟩ := hSw; go_simp; (try with_reducible rfl))
            try simp only [Act.put, List.setIfInBounds_toArray, List.set_cons_succ, List.set_cons_zero]
            refine anyK_done (by kernel_rfl) ?_ _
            clear hHeld
            have HOff := hid (show offE ⟨KQ, NQ, FQ, ZQ, iq⟩ ⟨K, N0, F, Z, id⟩ = true by unfold offE; rw [HEY1.out, Bool.true_or])
            rw [HOff.out, if_pos rfl] at HFs
            obtain ⟨t0, ⟨t1, t2, t3, t4, t5⟩, t6, t7, t8, t9, t10⟩ := HKi.out _ BI.out
            obtain ⟨L, hL⟩ : ∃ L, ((d.es.take j).filter (offE ⟨KQ, NQ, FQ, ZQ, iq⟩)).length = L := ⟨_, rfl⟩
            have hLj : L ≤ 4 := by rw [← hL]; exact Nat.le_trans (List.length_filter_le _ _) (by rw [List.length_take]; have := HNn.out; omega)
            obtain ⟨av, cv, hv⟩ := own_sl HL.out.own
            rw [hL] at hv
            subst hv
            have HBR := hid (Below.alloc1 v7 (.cells #[.int .i64 K, .int .i64 N0, .float .f64 F, .slice a1 z c1, .int .i64 id] 35))
            have HNR := hid (heap_alloc_new v7 (.cells #[.int .i64 K, .int .i64 N0, .float .f64 F, .slice a1 z c1, .int .i64 id] 35))
            have HL2 := hid ((HL.out.kn (KN.below BI.out)).kn (KN.below HBR.out))
            have HT2 := hid ((HTx.out.kn (KN.below BI.out)).kn (KN.below HBR.out))
            have oR := HL2.out.own
            rw [hL] at oR
            have HRow := hid oR
            have HLl := hid hL
            have hsz : w7.heap.size ≤ v7.heap.size := Nat.le_trans HB7.out.size BI.out.size
            have hsz2 : w7.heap.size ≤ (v7.alloc (.cells #[.int .i64 K, .int .i64 N0, .float .f64 F, .slice a1 z c1, .int .i64 id] 35)).heap.size := Nat.le_trans hsz HBR.out.size
            obtain ⟨i0, hi0, hz0, hz1', hz2⟩ := info_parts Try.infoEn
            clear oR hL
            go_wp2_with (at_builtin; refine wpList_append_lies _ rfl _ _ 28 rfl w7.heap.size 35 i0 (.agg #[.int .i64 0, .int .i64 0, .float .f64 0, .slice none 0 0, .int .i64 0]) 5 56 Try.underlying28 hi0 hz0 hz1' hz2 rfl (by omega) (.slice av L cv) L _ rfl HRow.out ⟨v7.heap.size, 0, none⟩ 1 1 [.int .i64 K, .int .i64 N0, .float .f64 F, .slice a1 z c1, .int .i64 id] rfl rfl (World.news_of_block HNR.out) (by simp [Value.oneCell']) (by omega) (by unfold maxLen; omega) (by omega) hsz2 _ rfl ?_)
            intro gg cc w9 o9 g9 _ _
            have HPu := hid (HL2.out.push (e := ⟨K, N0, F, Z, id⟩) (x := .slice a1 z c1) (by have := HT2.out; rw [HZz.out] at this; exact this) hF (by rw [HLl.out]; exact o9) g9)
            rw [← HFs.out] at HPu
            have HB9 := hid (((HB7.out.trans (BI.out.mono HB7.out.size)).trans (HBR.out.mono hsz)).grown g9 hsz2 (fun q hq => (HRow.out.lt q hq).1))
            clear o9 g9 HRow HNR hsz hsz2 t0 t1 t2 t3 t4 t5 t6 t7 t8 t9 t10 HL2 HT2
            go_wp2_with fail
            go_roundw
            case rel => exact ⟨j + 1, _, _, by omega, by go_num, rfl, HPu, HB9⟩
            case measure => simp [intOf]; omega
           | false =>
            refine anyK_take2 (i := 7) (v := ?v7_31) rfl (by kernel_rfl) (by kernel_rfl) (by kernel_rfl) (by rfl) (fun _ _ _ h => h) (by rfl) hHeld ?hy7_31 (some 64) (by rfl) ?rest7_31
            case hy7_31 => (intro W hSw; obtain ⟨x0, ⟨x1, x2, x3, x4, x5⟩, x6, x7, x8, x9, x10⟩ := hSw; go_simp; (try with_reducible rfl))
            try simp only [Act.put, List.setIfInBounds_toArray, List.set_cons_succ, List.set_cons_zero]
            refine anyK_take2 (i := 8) (v := ?v8_32) rfl (by kernel_rfl) (by kernel_rfl) (by kernel_rfl) (by rfl) (fun _ _ _ h => h) (by rfl) hHeld ?hy8_32 (some 65) (by rfl) ?rest8_32
            case hy8_32 => (intro W hSw; obtain ⟨x0, ⟨x1, x2, x3, x4, x5⟩, x6, x7, x8, x9, x10⟩ := hSw; go_simp; (try with_reducible rfl))
            try simp only [Act.put, List.setIfInBounds_toArray, List.set_cons_succ, List.set_cons_zero]
            refine anyK_take2 (i := 9) (v := ?v9_33) rfl (by kernel_rfl) (by kernel_rfl) (by kernel_rfl) (by rfl) (fun _ _ _ h => h) (by rfl) hHeld ?hy9_33 (some 66) (by rfl) ?rest9_33
            case hy9_33 => (intro W hSw; obtain ⟨x0, ⟨x1, x2, x3, x4, x5⟩, x6, x7, x8, x9, x10⟩ := hSw; go_simp; (try with_reducible rfl))
            try simp only [Act.put, List.setIfInBounds_toArray, List.set_cons_succ, List.set_cons_zero]
            refine anyK_take2 (i := 10) (v := ?v10_34) rfl (by kernel_rfl) (by kernel_rfl) (by kernel_rfl) (by rfl) (fun _ _ _ h => h) (by rfl) hHeld ?hy10_34 (some 67) (by rfl) ?rest10_34
            case hy10_34 => (intro W hSw; obtain ⟨x0, ⟨x1, x2, x3, x4, x5⟩, x6, x7, x8, x9, x10⟩ := hSw; go_simp; (try with_reducible rfl))
            try simp only [Act.put, List.setIfInBounds_toArray, List.set_cons_succ, List.set_cons_zero]
            refine anyK_take2 (i := 11) (v := ?v11_35) rfl (by kernel_rfl) (by kernel_rfl) (by kernel_rfl) (by rfl) (fun _ _ _ h => h) (by rfl) hHeld ?hy11_35 (some 68) (by rfl) ?rest11_35
            case hy11_35 => (intro W hSw; obtain ⟨x0, ⟨x1, x2, x3, x4, x5⟩, x6, x7, x8, x9, x10⟩ := hSw; go_simp; (try with_reducible rfl))
            try simp only [Act.put, List.setIfInBounds_toArray, List.set_cons_succ, List.set_cons_zero]
            refine anyK_take2 (i := 12) (v := ?v12_36) rfl (by kernel_rfl) (by kernel_rfl) (by kernel_rfl) (by rfl) (fun _ _ _ h => h) (by rfl) hHeld ?hy12_36 (some 69) (by rfl) ?rest12_36
            case hy12_36 => (intro W hSw; obtain ⟨x0, ⟨x1, x2, x3, x4, x5⟩, x6, x7, x8, x9, x10⟩ := hSw; go_simp; (try with_reducible rfl))
            try simp only [Act.put, List.setIfInBounds_toArray, List.set_cons_succ, List.set_cons_zero]
            refine anyK_take2 (i := 13) (v := ?v13_37) rfl (by kernel_rfl) (by kernel_rfl) (by kernel_rfl) (by rfl) (fun _ _ _ h => h) (by rfl) hHeld ?hy13_37 (some 70) (by rfl) ?rest13_37
            case hy13_37 => (intro W hSw; obtain ⟨x0, ⟨x1, x2, x3, x4, x5⟩, x6, x7, x8, x9, x10⟩ := hSw; go_simp; (try with_reducible rfl))
            try simp only [Act.put, List.setIfInBounds_toArray, List.set_cons_succ, List.set_cons_zero]
            refine anyK_step (i := 14) (by kernel_rfl) rfl (fun KP hK => ?_)
            go_simp
            have HBi := hid (HBr.out.trans (BI.out.mono HBr.out.size))
            refine (spec_less KQ NQ FQ c2 iq K N0 F c1 id HQQ.out.2.1 hF (HQ2.out.below HBi.out (Nat.le_refl _)) (HRj.out.below BI.out (Nat.le_refl _)) HQQ.out.2.2 hz1).mono ?_
            rintro e v8 ⟨rfl, b1⟩
            replace BI := hid (BI.out.trans (b1.mono BI.out.size))
            have HEY2 := hid (show ltE ⟨KQ, NQ, FQ, ZQ, iq⟩ ⟨K, N0, F, Z, id⟩ = ltB (cmpI KQ NQ FQ zq ZQ K N0 F z Z) iq id by unfold ltE cmpE; simp only [HZz.out, HQQ.out.1])
            generalize ltB (cmpI KQ NQ FQ zq ZQ K N0 F z Z) iq id = Y2 at *
            clear b1 HBi
            clear hHeld
            go_wp2_with fail
            refine hK.out _ _ (HKi.out _ BI.out) (fun hHeld => ?_)
            clear hK KP
            try simp only [Act.put, List.setIfInBounds_toArray, List.set_cons_succ, List.set_cons_zero]
            cases Y2 with
            | true =>
             refine anyK_take2 (i := 15) (v := ?v15_38) rfl (by kernel_rfl) (by kernel_rfl) (by kernel_rfl) (by rfl) (fun _ _ _ h => h) (by rfl) hHeld ?hy15_38 (some 72) (by rfl) ?rest15_38
             case hy15_38 => (intro W hSw; obtain ⟨x0, ⟨x1, x2, x3, x4, x5⟩, x6, x7, x8, x9, x10⟩ := hSw; go_simp; (try with_reducible rfl))
             try simp only [Act.put, List.setIfInBounds_toArray, List.set_cons_succ, List.set_cons_zero]
             refine anyK_done (by kernel_rfl) ?_ _
             clear hHeld
             have HOff := hid (show offE ⟨KQ, NQ, FQ, ZQ, iq⟩ ⟨K, N0, F, Z, id⟩ = true by unfold offE; rw [HEY2.out, Bool.or_true])
             rw [HOff.out, if_pos rfl] at HFs
             obtain ⟨t0, ⟨t1, t2, t3, t4, t5⟩, t6, t7, t8, t9, t10⟩ := HKi.out _ BI.out
             obtain ⟨L, hL⟩ : ∃ L, ((d.es.take j).filter (offE ⟨KQ, NQ, FQ, ZQ, iq⟩)).length = L := ⟨_, rfl⟩
             have hLj : L ≤ 4 := by rw [← hL]; exact Nat.le_trans (List.length_filter_le _ _) (by rw [List.length_take]; have := HNn.out; omega)
             obtain ⟨av, cv, hv⟩ := own_sl HL.out.own
             rw [hL] at hv
             subst hv
             have HBR := hid (Below.alloc1 v8 (.cells #[.int .i64 K, .int .i64 N0, .float .f64 F, .slice a1 z c1, .int .i64 id] 35))
             have HNR := hid (heap_alloc_new v8 (.cells #[.int .i64 K, .int .i64 N0, .float .f64 F, .slice a1 z c1, .int .i64 id] 35))
             have HL2 := hid ((HL.out.kn (KN.below BI.out)).kn (KN.below HBR.out))
             have HT2 := hid ((HTx.out.kn (KN.below BI.out)).kn (KN.below HBR.out))
             have oR := HL2.out.own
             rw [hL] at oR
             have HRow := hid oR
             have HLl := hid hL
             have hsz : w7.heap.size ≤ v8.heap.size := Nat.le_trans HB7.out.size BI.out.size
             have hsz2 : w7.heap.size ≤ (v8.alloc (.cells #[.int .i64 K, .int .i64 N0, .float .f64 F, .slice a1 z c1, .int .i64 id] 35)).heap.size := Nat.le_trans hsz HBR.out.size
             obtain ⟨i0, hi0, hz0, hz1', hz2⟩ := info_parts Try.infoEn
             clear oR hL
             go_wp2_with (at_builtin; refine wpList_append_lies _ rfl _ _ 28 rfl w7.heap.size 35 i0 (.agg #[.int .i64 0, .int .i64 0, .float .f64 0, .slice none 0 0, .int .i64 0]) 5 56 Try.underlying28 hi0 hz0 hz1' hz2 rfl (by omega) (.slice av L cv) L _ rfl HRow.out ⟨v8.heap.size, 0, none⟩ 1 1 [.int .i64 K, .int .i64 N0, .float .f64 F, .slice a1 z c1, .int .i64 id] rfl rfl (World.news_of_block HNR.out) (by simp [Value.oneCell']) (by omega) (by unfold maxLen; omega) (by omega) hsz2 _ rfl ?_)
             intro gg cc w9 o9 g9 _ _
             have HPu := hid (HL2.out.push (e := ⟨K, N0, F, Z, id⟩) (x := .slice a1 z c1) (by have := HT2.out; rw [HZz.out] at this; exact this) hF (by rw [HLl.out]; exact o9) g9)
             rw [← HFs.out] at HPu
             have HB9 := hid (((HB7.out.trans (BI.out.mono HB7.out.size)).trans (HBR.out.mono hsz)).grown g9 hsz2 (fun q hq => (HRow.out.lt q hq).1))
             clear o9 g9 HRow HNR hsz hsz2 t0 t1 t2 t3 t4 t5 t6 t7 t8 t9 t10 HL2 HT2
             go_wp2_with fail
             go_roundw
             case rel => exact ⟨j + 1, _, _, by omega, by go_num, rfl, HPu, HB9⟩
             case measure => simp [intOf]; omega
            | false =>
             refine anyK_take2 (i := 15) (v := ?v15_39) rfl (by kernel_rfl) (by kernel_rfl) (by kernel_rfl) (by rfl) (fun _ _ _ h => h) (by rfl) hHeld ?hy15_39 (some 72) (by rfl) ?rest15_39
             case hy15_39 => (intro W hSw; obtain ⟨x0, ⟨x1, x2, x3, x4, x5⟩, x6, x7, x8, x9, x10⟩ := hSw; go_simp; (try with_reducible rfl))
             try simp only [Act.put, List.setIfInBounds_toArray, List.set_cons_succ, List.set_cons_zero]
             refine anyK_done (by kernel_rfl) ?_ _
             clear hHeld
             have HOff := hid (show offE ⟨KQ, NQ, FQ, ZQ, iq⟩ ⟨K, N0, F, Z, id⟩ = false by unfold offE; rw [HEY1.out, HEY2.out]; rfl)
             rw [HOff.out, if_neg (by simp), List.append_nil] at HFs
             have HL9 := hid (show EnR v8 w7.heap.size _ ((d.es.take (j + 1)).filter (offE ⟨KQ, NQ, FQ, ZQ, iq⟩)) xl by rw [HFs.out]; exact HL.out.kn (KN.below BI.out))
             have HB9 := hid (HB7.out.trans (BI.out.mono HB7.out.size))
             go_wp2_with fail
             go_roundw
             case rel => exact ⟨j + 1, _, _, by omega, by go_num, rfl, HL9, HB9⟩
             case measure => simp [intOf]; omega
         · have hlj' : ¬ (j : Int) < (n : Int) := by omega
           have hl0 := HL.out
           rw [List.take_of_length_le (by have := HNn.out; omega)] at hl0
           obtain ⟨av, cv, hv⟩ := own_sl hl0.own
           obtain ⟨L, hL⟩ : ∃ L, (d.es.filter (offE ⟨KQ, NQ, FQ, ZQ, iq⟩)).length = L := ⟨_, rfl⟩
           rw [hL] at hv
           subst hv
           have HL0 := hid hl0
           have HKr := hid (show Below wo.heap.size wo wr from HBA1.out.trans (HB7.out.mono HBA1.out.size))
           have hfr := frozen_of_row _ _ 1 _ _ h11
           have hGp : G ≠ p11 := by have := HGw.out.2; have := HP11.out; omega
           have hGp9 : G ≠ p9 := by have := HG.out.2; omega
           have hpp : p9 ≠ p11 := by have := HZ9.out; have := HP11.out; omega
           have H11 := hid (show (wr.setCell ⟨p11, 1, none⟩ (.slice av L cv)).heap[p11]? = some (.cells #[.bool true, .slice av L cv, .slice ak m ck] 67 (0, 0)) by rw [heap_setCell_same _ _ _ _ _ _ h11]; rfl)
           have H9r := hid (show (wr.setCell ⟨p11, 1, none⟩ (.slice av L cv)).heap[p9]? = some (.cells #[.slice (some ⟨G, 0, none⟩) N cG, .int .i64 root] 26 (0, 0)) from (heap_set_ne wr p11 1 p9 _ hpp).trans ((HKr.out.block p9 HZ9.out).trans H9.out))
           have kn := KN.set (p := ⟨p11, 1, none⟩) h11 (.inl rfl) (.slice av L cv)
           have HNs3 := hid ((HS.out.below HKr.out).other (j := 1) h11 (fun e => hGp (Option.some.inj e)) (.slice av L cv))
           have HNd3 := hid (show NdR (wr.setCell ⟨p11, 1, none⟩ (.slice av L cv)) (.slice av L cv, .slice ak m ck) ⟨true, d.es.filter (offE ⟨KQ, NQ, FQ, ZQ, iq⟩), d.ks⟩ from ⟨⟨_, _, HL0.out.kn kn⟩, (HIn1.out.kn (KN.below HKr.out)).kn kn⟩)
           have HBs := hid (show Below U2.heap.size U2 (wr.setCell ⟨p11, 1, none⟩ (.slice av L cv)) from (HB.out.trans (HKr.out.mono HB.out.size)).setCell (show U2.heap.size ≤ (⟨p11, 1, none⟩ : Addr).block by have := HP11.out; have := HB.out.size; simp only; omega) _)
           have HZs := hid (show p9 < (wr.setCell ⟨p11, 1, none⟩ (.slice av L cv)).heap.size by rw [set_size]; exact Nat.lt_of_lt_of_le HZ9.out HKr.out.size)
           clear hl0 h11 kn hL
           go_upto_region 17 with fail
           clear q1 hfr
           generalize wr.setCell ⟨p11, 1, none⟩ (.slice av L cv) = w3 at *
           have HPut := hid (show NsR (((w3.setCell ⟨G, k * 3, none⟩ (.bool true)).setCell ⟨G, k * 3 + 1, none⟩ (.slice av L cv)).setCell ⟨G, k * 3 + 2, none⟩ (.slice ak m ck)) v4.heap.size (.slice (some ⟨G, 0, none⟩) N cG) (mixD ns ⟨KQ, NQ, FQ, ZQ, iq⟩ (k + 1)) (ys.set k (.slice av L cv, .slice ak m ck)) from by
            have h := HNs3.out.put HMl.out HKm.out HNd3.out
            have e : (mixD ns ⟨KQ, NQ, FQ, ZQ, iq⟩ k).set k (⟨true, d.es.filter (offE ⟨KQ, NQ, FQ, ZQ, iq⟩), d.ks⟩ : Nd) = mixD ns ⟨KQ, NQ, FQ, ZQ, iq⟩ (k + 1) := by
             rw [← HStp.out]; unfold outD; rw [HLf.out]; rfl
            rw [e] at h
            exact h)
           have hown := HNs3.out.own
           rw [HMl.out] at hown
           have hcy : ∀ q, q < 3 → ∃ v, w3.cell? ⟨G, k * 3 + q, none⟩ = some v := fun q hq => by
            rw [hown.cellAt (k * 3 + q) (by omega)]
            exact ⟨_, List.getElem?_eq_getElem (by have := hown.1; omega)⟩
           obtain ⟨u0, d0⟩ := hcy 0 (by omega)
           obtain ⟨u1', d1⟩ := hcy 1 (by omega)
           obtain ⟨u2, d2⟩ := hcy 2 (by omega)
           rw [Nat.add_zero] at d0
           have f0 := hown.frozenAt (k * 3)
           have f1 := hown.frozenAt (k * 3 + 1)
           have f2 := hown.frozenAt (k * 3 + 2)
           have q9 : w3.cell? ⟨p9, 0, none⟩ = some (.slice (some ⟨G, 0, none⟩) N cG) := by rw [cell_of_row _ _ _ _ _ _ H9r.out]; rfl
           have q11 : w3.cell? ⟨p11, 0, none⟩ = some (.bool true) := by rw [cell_of_row _ _ _ _ _ _ H11.out]; rfl
           have q12 : w3.cell? ⟨p11, 1, none⟩ = some (.slice av L cv) := by rw [cell_of_row _ _ _ _ _ _ H11.out]; rfl
           have q13 : w3.cell? ⟨p11, 2, none⟩ = some (.slice ak m ck) := by rw [cell_of_row _ _ _ _ _ _ H11.out]; rfl
           have hGU : U2.heap.size ≤ G := Nat.le_trans HSz5.out HG.out.1
           have HBf := hid (((HBs.out.setCell (show U2.heap.size ≤ (⟨G, k * 3, none⟩ : Addr).block from hGU) (.bool true)).setCell (show U2.heap.size ≤ (⟨G, k * 3 + 1, none⟩ : Addr).block from hGU) (.slice av L cv)).setCell (show U2.heap.size ≤ (⟨G, k * 3 + 2, none⟩ : Addr).block from hGU) (.slice ak m ck))
           have H9f := hid (((heap_set_ne ((w3.setCell ⟨G, k * 3, none⟩ (.bool true)).setCell ⟨G, k * 3 + 1, none⟩ (.slice av L cv)) G (k * 3 + 2) p9 (.slice ak m ck) (fun e => hGp9 e.symm)).trans ((heap_set_ne (w3.setCell ⟨G, k * 3, none⟩ (.bool true)) G (k * 3 + 1) p9 (.slice av L cv) (fun e => hGp9 e.symm)).trans (heap_set_ne w3 G (k * 3) p9 (.bool true) (fun e => hGp9 e.symm)))).trans H9r.out)
           have HZf := hid (show p9 < (((w3.setCell ⟨G, k * 3, none⟩ (.bool true)).setCell ⟨G, k * 3 + 1, none⟩ (.slice av L cv)).setCell ⟨G, k * 3 + 2, none⟩ (.slice ak m ck)).heap.size by rw [set_size, set_size, set_size]; exact HZs.out)
           clear hcy hown H9r H11 hGU
           go_wp2_with fail
           go_roundw
           case rel => exact ⟨k + 1, _, by omega, by go_num, HPut, H9f, HBf, HZf⟩
           case measure => simp [intOf]; omega
     · have hlt' : ¬ (k : Int) < (N : Int) := by omega
       have HFn := hid (show NsR wr v4.heap.size (.slice (some ⟨G, 0, none⟩) N cG) (dropN ns ⟨KQ, NQ, FQ, ZQ, iq⟩) ys by have := HS.out; rwa [mix_all ns ⟨KQ, NQ, FQ, ZQ, iq⟩ (by have := HNs.out; omega)] at this)
       have hrs := (HBx.out wr HB.out).2.1
       have HBw := hid (HBx.out wr HB.out).2.2.2
       have HRd := hid (show NsR (wr.setRow p6 #[.slice (some ⟨G, 0, none⟩) N cG, .int .i64 root]) v4.heap.size (.slice (some ⟨G, 0, none⟩) N cG) (dropN ns ⟨KQ, NQ, FQ, ZQ, iq⟩) ys from by
        have g2 := row_grown11 wr p6 #[.slice (some ⟨G, 0, none⟩) N cG, .int .i64 root]
        have kn : KN wr (wr.setRow p6 #[.slice (some ⟨G, 0, none⟩) N cG, .int .i64 root]) := KN.grown g2 (fun q hq => by obtain rfl := Option.some.inj hq; exact ⟨_, _, _, hrs, .inr rfl⟩)
        have hgp : G ≠ p6 := by have := HG.out.1; have := HSz5.out; have := HP.out; have := HBu2.out.size; omega
        have hn := HFn.out
        exact ⟨hn.len, hn.own.kept g2 (.inr (fun e => hgp (by first | exact Option.some.inj e | exact (Option.some.inj e).symm))), fun i hi => (hn.nd i hi).kn kn⟩)
       have HRs := hid hrs
       have H9b := hid H9.out
       have HLn := hid (show (dropN ns ⟨KQ, NQ, FQ, ZQ, iq⟩).length = N by unfold dropN; rw [List.length_map]; exact HNs.out)
       clear hrs
       go_wp2_with (first
        | (refine wpList_load_row rfl 26 (.tmp 9) rfl p9 rfl 26 _ (0, 0) _ H9b.out Try.underlying26 rfl size_tr11 ?_)
        | (refine wpList_store_row rfl 26 (.tmp 6) _ rfl p6 #[.slice (some ⟨G, 0, none⟩) N cG, .int .i64 root] rfl rfl 26 _ HRs.out size_tr11 rfl (by simp [Value.oneCell']) ?_))
       exact bodyPost_ret (results_cell_tmp11 Try.results47 _ _ p6 26 #[.slice (some ⟨G, 0, none⟩) N cG, .int .i64 root] (0, 0) _ rfl (setRow_heap _ _ _ _ _ _ HRs.out) Try.underlying26 rfl size_tr11) rfl ⟨some ⟨G, 0, none⟩, cG, by rw [HYs.out]; dsimp only; rw [HLn.out]; rfl, ⟨v4.heap.size, ys, by rw [HYs.out]; dsimp only; rw [HLn.out]; exact HRd.out⟩, below_setRow HBw.out (show w.heap.size ≤ p6 by have := HP.out; omega) _⟩
end Go.Proofs.Ytphmlndkjgldkaa
