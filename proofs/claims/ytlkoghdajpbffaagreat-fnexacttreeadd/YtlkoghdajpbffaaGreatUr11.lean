/- The contract of the program's add. Conditions: a way of at most 400 steps through at most 300 nodes. -/
import Derived.Test.YtlkoghdajpbffaaGreatMgy
import Derived.Deep.DeepCutAuto
namespace Go.Proofs.YtlkoghdajpbffaaGreat
open Go.RowKit Go.Shelf
attribute [local go_sem] Oper.semAt_some
set_option maxRecDepth 100000
structure Added (W0 WB W : World) (q : Nat) (g0 : Nat) (gs : List Nat) (ns : List Nd) (e : En) (R : List (Int × Nat)) (root : Int) : Prop where
 no : ∀ ns1, upS R ns e 0 = (ns1, none) → ∃ A gs1, Tab A W0 W q (.pointer (some ⟨g0, 0, none⟩)) gs1 ns1 ∧ gs1.getD root.toNat 0 = g0 ∧ (∀ i, i < ns1.length → formOk (ns1.getD i nd0) = true) ∧ ns.length ≤ ns1.length
 yes : ∀ ns1 up k, upS R ns e 0 = (ns1, some (up, k)) → ∃ A gs1 gn, Tab A W0 W q (.pointer (some ⟨gn, 0, none⟩)) gs1 (ns1 ++ [⟨false, [up], [root, k]⟩]) ∧ gs1.getD ns1.length 0 = gn ∧ (∀ i, i < ns1.length → formOk (ns1.getD i nd0) = true) ∧ ns.length ≤ ns1.length
 kt : KT WB W
def onlyN (Q : Exit → Act → World → Prop) : Exit → Act → World → Prop
 | .normal, a, w => Q .normal a w
 | _, _, _ => False
theorem wp_normal11 {P : Program} {c : Code} {Q : Exit → Act → World → Prop} {a : Act} {w : World} (h : c.wp P (onlyN Q) a w) : c.wp P Q a w := Code.wp_mono (fun e a w q => by cases e <;> first | exact q | exact q.elim) h
theorem Kept.keeps {X : Nat → Prop} {W W' : World} (k : Kept X W W') (hX : ∀ b, X b → ∃ cs t fz, W.heap[b]? = some (.cells cs t fz)) (B : Nat) : KeepsFrom B W W' := ⟨k.size, fun b o _ hb ho => (k.block b (qL hb) (fun x => by
 obtain ⟨cs, t, fz, e⟩ := hX b x
 rw [e] at hb
 cases hb
 cases ho)).trans hb⟩
theorem take_ks (d : Nd) (i : Nat) (e : En) (k : Int) : (takeN d i e k).ks.length = if d.leaf then d.ks.length else d.ks.length + 1 := by
 unfold takeN
 dsimp only
 split
 · rfl
 · exact putL_len _ _ _
theorem RowAt.typed {A : Nat → Prop} {W0 W : World} {q : Nat} {gp : Value} {gs : List Nat} {ns : List Nd} (h : Tab A W0 W q gp gs ns) {b : Nat} (hb : RowAt W q gp b) : ∃ cs fz, W.heap[b]? = some (.cells cs 70 fz) := by
 obtain ⟨nv, lo, e1, e2, _⟩ := h.ex
 obtain ⟨nv', f1, f2⟩ := hb
 obtain rfl := linked_inj e1 f1
 rcases e2.2 with ⟨hh, _⟩ | ⟨g, cap, cur, r1, r2, r3, _⟩
 · rw [hh] at f2; cases f2
 · rw [r1] at f2; cases f2; exact ⟨_, _, r3⟩
set_option maxHeartbeats 12800000 in
theorem impl_add {W0 WB : World} {q g0 gg m c : Nat} {gs : List Nat} {ns : List Nd} {root : Int} {e : En} {ax : Option Addr} {nx cx : Nat} {R : List (Int × Nat)} (hT : Tab (fun _ => False) W0 WB q (.pointer (some ⟨g0, 0, none⟩)) gs ns) (h0 : gs.getD root.toNat 0 = g0) (hroot : 0 ≤ root ∧ root < ns.length) (hform : ∀ i, i < ns.length → formOk (ns.getD i nd0) = true)
 (hr : Row W0 (.slice ax nx cx) e.Z) (hF : e.F < 18446744073709551616) (hZ : e.Z.length ≤ 2097152) (hl : R.length = m) (hm : m ≤ 400) (hmp : 0 < m) (hns : ns.length ≤ 300)
 (hR : ∀ j, j < m → (0 ≤ (R.getD j (0, 0)).1 ∧ (R.getD j (0, 0)).1 < ns.length) ∧ (R.getD j (0, 0)).2 ≤ (ns.getD (R.getD j (0, 0)).1.toNat nd0).es.length ∧ ((ns.getD (R.getD j (0, 0)).1.toNat nd0).leaf = false → 0 < j) ∧ ∀ t, t < j → (R.getD t (0, 0)).1.toNat ≠ (R.getD j (0, 0)).1.toNat)
 (hgg : ∃ cs fz, WB.heap[gg]? = some (.cells cs 72 fz)) (hw : ∀ i, i < m → WB.cell? ⟨gg, i * 2, none⟩ = some (.pointer (some ⟨gs.getD (R.getD (m - 1 - i) (0, 0)).1.toNat 0, 0, none⟩)) ∧ WB.cell? ⟨gg, i * 2 + 1, none⟩ = some (.int .i64 ((R.getD (m - 1 - i) (0, 0)).2 : Int))) :
 Calls Tryz.prog 31 #[.pointer (some ⟨q, 0, none⟩), .slice (some ⟨gg, 0, none⟩) m c, .agg #[.int .i64 e.K, .int .i64 e.N, .float .f64 e.F, .slice ax nx cx, .int .i64 e.id]] WB fun r W => r = .returned (.tuple #[]) ∧ Added W0 WB W q g0 gs ns e R root := by
 have hst := fun w a mm => run_store Tryz.prog w a (.float .f64 e.F) mm rfl
 refine (callsIn_wide (n := 7)).1 ?_
 refine callsIn_of_wp_marks Tryz.func31 rfl trivial ?_ rfl
 simp only [Tryz.ntmps31, List.size_toArray, List.length_cons, List.length_nil, Nat.reduceAdd, Nat.reduceSub, Array.replicate_succ, Array.replicate_zero, List.push_toArray, List.append_toArray, List.nil_append, List.cons_append]
 gi_wp2_with (refine ⟨trivial, ?_⟩; gi_at_call 57; refine ((callsIn_wide (n := _)).2 (back_make _ m c _)).mono ?_; rintro e' w' ⟨rfl, rfl⟩)
 obtain ⟨cg, fg, hg⟩ := hgg
 have hW0 := hT.bel.size
 obtain ⟨nv0, lo0, hq0, ho0, hlo0, _⟩ := hT.ex
 have a1 := alloc_size WB (.cells #[.pointer (some ⟨q, 0, none⟩)] 64)
 have r1 := heap_alloc_new WB (.cells #[.pointer (some ⟨q, 0, none⟩)] 64)
 have k1 := Below.alloc1 WB (.cells #[.pointer (some ⟨q, 0, none⟩)] 64)
 generalize WB.alloc (.cells #[.pointer (some ⟨q, 0, none⟩)] 64) = W1 at *
 have a2 := alloc_size W1 (.cells #[.int .i64 e.K, .int .i64 e.N, .float .f64 e.F, .slice ax nx cx, .int .i64 e.id] 48)
 have r2 := heap_alloc_new W1 (.cells #[.int .i64 e.K, .int .i64 e.N, .float .f64 e.F, .slice ax nx cx, .int .i64 e.id] 48)
 have k2 := Below.alloc1 W1 (.cells #[.int .i64 e.K, .int .i64 e.N, .float .f64 e.F, .slice ax nx cx, .int .i64 e.id] 48)
 generalize W1.alloc (.cells #[.int .i64 e.K, .int .i64 e.N, .float .f64 e.F, .slice ax nx cx, .int .i64 e.id] 48) = W2 at *
 have a3 := alloc_size W2 (.cells #[.pointer none] 70)
 have r3 := heap_alloc_new W2 (.cells #[.pointer none] 70)
 have k3 := Below.alloc1 W2 (.cells #[.pointer none] 70)
 generalize W2.alloc (.cells #[.pointer none] 70) = W3 at *
 have a4 := alloc_size W3 (.cells #[.slice (some ⟨gg, 0, none⟩) m c] 68)
 have r4 := heap_alloc_new W3 (.cells #[.slice (some ⟨gg, 0, none⟩) m c] 68)
 have k4 := Below.alloc1 W3 (.cells #[.slice (some ⟨gg, 0, none⟩) m c] 68)
 generalize W3.alloc (.cells #[.slice (some ⟨gg, 0, none⟩) m c] 68) = W4 at *
 have s1 : W1.heap.size = WB.heap.size + 1 := a1
 have s2 : W2.heap.size = WB.heap.size + 2 := by omega
 have s3 : W3.heap.size = WB.heap.size + 3 := by omega
 have s4 : W4.heap.size = WB.heap.size + 4 := by omega
 have K4 : Below WB.heap.size WB W4 := ((k1.trans (k2.mono (by omega))).trans (k3.mono (by omega))).trans (k4.mono (by omega))
 have h3 : W4.heap[WB.heap.size]? = some (.cells #[.pointer (some ⟨q, 0, none⟩)] 64) := (k4.block _ (by omega)).trans ((k3.block _ (by omega)).trans ((k2.block _ (by omega)).trans r1))
 have h5 : W4.heap[WB.heap.size + 1]? = some (.cells #[.int .i64 e.K, .int .i64 e.N, .float .f64 e.F, .slice ax nx cx, .int .i64 e.id] 48) := (k4.block _ (by omega)).trans ((k3.block _ (by omega)).trans (by rw [s1] at r2; exact r2))
 have h6 : W4.heap[WB.heap.size + 2]? = some (.cells #[.pointer none] 70) := (k4.block _ (by omega)).trans (by rw [s2] at r3; exact r3)
 have h7 : W4.heap[WB.heap.size + 3]? = some (.cells #[.slice (some ⟨gg, 0, none⟩) m c] 68) := by rw [s3] at r4; exact r4
 have kq : Kept (fun _ => False) WB W4 := Kept.of_below K4
 have HT4 : Tab (AvB WB) W0 W4 q (.pointer (some ⟨g0, 0, none⟩)) gs ns := (hT.avoid (A := AvB WB) (fun b hb => hb.1)).kept kq (fun _ _ _ _ _ _ h => h) (fun _ _ _ _ h => h) (fun _ _ h => h)
 have HKT : KT WB W4 := kq.mono (fun _ _ h => h.elim)
 have HI0 : AdI W0 WB q (.pointer (some ⟨g0, 0, none⟩)) gs ns e R gg m c 0 W4 := ⟨⟨gs, ns, e, 0, ax, nx, cx, .pointer none, rfl, HT4, fun _ _ => rfl, h5, h6, fun h => absurd h (Nat.lt_irrefl _), ⟨hr, hF, hZ⟩, UpI.start hform⟩, h3, h7, fun b hb eb => by
  obtain ⟨nv, f1, f2⟩ := hb
  obtain rfl := linked_inj f1 ((K4.block q (qL hq0)).trans hq0)
  have := (ho0.lt b f2).2
  omega, HKT, by omega⟩
 have HWay : ∀ {W : World}, KT WB W → ∀ i, i < m → W.cell? ⟨gg, i * 2, none⟩ = some ((fun i => .pointer (some ⟨gs.getD (R.getD (m - 1 - i) (0, 0)).1.toNat 0, 0, none⟩)) i) ∧ W.cell? ⟨gg, i * 2 + 1, none⟩ = some (.int .i64 ((fun i => ((R.getD (m - 1 - i) (0, 0)).2 : Int)) i)) := fun hk i hi => by
  have eg := (hk.cells hg ⟨by decide, by decide, by decide⟩).trans hg.symm
  exact ⟨(World.cell?_of_block (w := WB) (a := ⟨gg, i * 2, none⟩) eg).trans (hw i hi).1, (World.cell?_of_block (w := WB) (a := ⟨gg, i * 2 + 1, none⟩) eg).trans (hw i hi).2⟩
 obtain ⟨p3, e3⟩ : ∃ p, WB.heap.size = p := ⟨_, rfl⟩
 obtain ⟨p5, e5⟩ : ∃ p, WB.heap.size + 1 = p := ⟨_, rfl⟩
 obtain ⟨p6, e6⟩ : ∃ p, WB.heap.size + 2 = p := ⟨_, rfl⟩
 obtain ⟨p7, e7⟩ : ∃ p, WB.heap.size + 3 = p := ⟨_, rfl⟩
 rw [s1] at *
 rw [s2] at *
 rw [s3] at *
 clear a1 r1 k1 a2 r2 k2 a3 r3 k3 a4 r4 k4 h3 h5 h6 h7 kq HT4 HKT K4
 rw [e7, e6, e5, e3]
 have ePV : ∀ i, (fun i => .pointer (some ⟨gs.getD (R.getD (m - 1 - i) (0, 0)).1.toNat 0, 0, none⟩)) i = Value.pointer (some ⟨gs.getD (R.getD (m - 1 - i) (0, 0)).1.toNat 0, 0, none⟩) := fun _ => rfl
 refine range_stop (F := Fence.wide) rfl (by omega) (gf := 87) (lb := #[.pointer (some ⟨p7, 0, none⟩)]) rfl trivial (enters_of Tryz.func87 (by kernel_rfl) rfl)
  (backV m (fun i => .pointer (some ⟨gs.getD (R.getD (m - 1 - i) (0, 0)).1.toNat 0, 0, none⟩)) (fun i => ((R.getD (m - 1 - i) (0, 0)).2 : Int))) (fun j => rfl) m
  (AdI W0 WB q (.pointer (some ⟨g0, 0, none⟩)) gs ns e R gg m c) (AdX W0 WB q (.pointer (some ⟨g0, 0, none⟩)) gs ns e R) (fun j W W' h k => h.calm k hW0 (by omega) (by have := h.lo; omega)) ?hIx HI0 ?hseq
  (fun j a' W => ∃ bx, a' = { tmps := #[.pointer (some ⟨q, 0, none⟩), .slice (some ⟨gg, 0, none⟩) m c, .agg #[.int .i64 e.K, .int .i64 e.N, .float .f64 e.F, .slice ax nx cx, .int .i64 e.id], .pointer (some ⟨p3, 0, none⟩), undef, .pointer (some ⟨p5, 0, none⟩), .pointer (some ⟨p6, 0, none⟩), undef, .pointer (some ⟨bx, 0, none⟩), .slice (some ⟨gg, 0, none⟩) m c, .func (.func 87) #[] #[.pointer (some ⟨p7, 0, none⟩)], .int .i64 ((m - 1 - j : Nat) : Int), .agg #[(fun i => .pointer (some ⟨gs.getD (R.getD (m - 1 - i) (0, 0)).1.toNat 0, 0, none⟩)) (m - 1 - j), .int .i64 ((fun i => ((R.getD (m - 1 - i) (0, 0)).2 : Int)) (m - 1 - j))], undef, undef, undef, undef, undef, undef, undef, undef, undef, undef, undef, undef, undef, undef, undef, undef, undef, undef, undef, undef, undef, undef, undef, undef, undef, undef, undef, undef, undef, undef, undef, undef], defers := [] } ∧ W.heap[bx]? = some (.cells #[(fun i => .pointer (some ⟨gs.getD (R.getD (m - 1 - i) (0, 0)).1.toNat 0, 0, none⟩)) (m - 1 - j), .int .i64 ((fun i => ((R.getD (m - 1 - i) (0, 0)).2 : Int)) (m - 1 - j))] 72)) ?hA ?assign ?body ?done ?stop
 case hIx => exact fun W W' h k => h.calm k hW0 (by omega) (by have := h.lo; omega)
 case hseq => exact fun l J Jx W hJ hY h0 => back_iter 6 (by omega) l p7 (by omega) (fun i => .pointer (some ⟨gs.getD (R.getD (m - 1 - i) (0, 0)).1.toNat 0, 0, none⟩)) (fun i => ((R.getD (m - 1 - i) (0, 0)).2 : Int)) J Jx (fun j W h => ⟨by have := (hJ j W h).b7; rw [e7] at this; rw [cell_of_row _ _ _ _ _ _ this]; rfl, HWay (hJ j W h).kt⟩) hY h0
 case hA =>
  rintro j a' W W' ⟨bx, rfl, hb⟩ k
  exact ⟨bx, rfl, k.cells hb⟩
 case assign =>
  intro l j W K hi hj hK
  clear hw HWay hR hi
  unfold backV
  revert hK
  dsimp only
  generalize gs.getD (R.getD (m - 1 - (m - 1 - j)) (0, 0)).1.toNat 0 = gx
  generalize ((R.getD (m - 1 - (m - 1 - j)) (0, 0)).2 : Int) = ix
  generalize ((m - 1 - j : Nat) : Int) = jx
  intro hK
  have HK := hid hK
  clear hK
  gi_wp2
  exact HK.out _ _ (Below.alloc1 _ _) ⟨W.heap.size, rfl, heap_alloc_new _ _⟩
 case body =>
  rintro l j a' W hI hj ⟨bx, rfl, hbx⟩
  have ej : m - 1 - (m - 1 - j) = j := by omega
  obtain ⟨⟨gs1, ns1, up, k, ax1, nx1, cx1, kv, u1, u2, u3, u4, u5, u6, u7, u8⟩, b3, b7, fr, kt, lo⟩ := hI
  obtain ⟨q1, q2, q3, q4⟩ := hR j hj
  have HStep := upS_take R ns e 0 (j := j) (by omega)
  rw [u1] at HStep
  have HUp := fun i e k => u8.step (x := (R.getD j (0, 0)).1) rfl q1.1 q1.2 i e k
  clear hw HWay HI0
  simp only [ej] at hbx ⊢
  dsimp only at HStep
  generalize R.getD j (0, 0) = pp at hbx q1 q2 q3 q4 HStep HUp ⊢
  obtain ⟨X, i⟩ := pp
  dsimp only at hbx q1 q2 q3 q4 HStep HUp ⊢
  obtain ⟨x, rfl⟩ : ∃ x : Nat, X = (x : Int) := ⟨X.toNat, by omega⟩
  simp only [Int.toNat_natCast] at hbx q2 q3 q4 HStep HUp ⊢
  have hxl : x < ns1.length := by have := u8.lo; omega
  have hsame := u8.same x (by omega) (fun t ht => q4 t ht)
  have hf := hform x (by omega)
  rw [hsame] at HStep HUp
  rw [← u3 x (by omega)] at hbx ⊢
  have hlen1 : ns1.length ≤ 700 := by have := u8.hi; omega
  rw [e3] at b3
  rw [e5] at u4
  rw [e6] at u5 fr
  have T1 := take_tab u2 (fun b hb ha => by have := ha.2; omega) hxl hsame hf q2 u7.1 u7.2.1 u7.2.2 (k := k) (kid := kv) (fun hlf => u6 (q3 hlf))
  obtain ⟨t1, t2, t3, t4, t5⟩ := take_form hf i up k
  have t6 := take_ks (ns.getD x nd0) i up k
  generalize ns.getD x nd0 = d0 at hsame hf q2 q3 T1 t1 t2 t3 t4 t5 t6 HStep HUp
  obtain ⟨nv, lo1, n1, n2, n3, n4⟩ := u2.ex
  obtain ⟨l1, y1, z1, nxr⟩ := (n4 x hxl).num
  generalize hdd : takeN d0 i up k = d at T1 t1 t2 t3 t4 t5 t6 HStep
  have HUp1 := HUp i up k
  rw [hdd] at HUp1
  have c6 : W.cell? ⟨p6, 0, none⟩ = some kv := qC u5
  generalize hgx : gs1.getD x 0 = gx at *
  have U4 := hid u4
  have U5 := hid u5
  have B3 := hid b3
  have B7 := hid b7
  have HBX := hid hbx
  have HT1 := hid T1
  clear u4 u5 b3 b7 hbx T1
  gi_wp2_with (first
   | (refine wpListIn_load_row11 rfl 72 (.tmp 8) rfl bx rfl 72 _ (0, 0) _ HBX.out Tryz.underlying72 rfl size_st11 ?_)
   | (refine wpListIn_load_row11 rfl 48 (.tmp 5) rfl p5 rfl 48 _ (0, 0) _ U4.out Tryz.underlying48 rfl size_en11 ?_))
  refine ⟨trivial, ?_⟩
  refine (CallsIn.inRound l ((callsIn_wide (n := _)).2 HT1.out)).mono ?_
  rintro r w1 ⟨rfl, v1, k1⟩
  clear c6 HT1
  have K1 := hid k1
  have V1 := hid v1
  have kp : ∀ {b : Nat} {cs : Array Value} {tt : TypeId} {fz : Nat × Nat}, W.heap[b]? = some (.cells cs tt fz) → tt ≠ 112 → w1.heap[b]? = some (.cells cs tt fz) := fun hh ht => (K1.out.block _ (qL hh) (type_ne hh nxr ht)).trans hh
  have hb1 := kp HBX.out (by decide)
  have hu4 := kp U4.out (by decide)
  have hu5 := kp U5.out (by decide)
  have hb3 := kp B3.out (by decide)
  have hb7 := kp B7.out (by decide)
  have hq1 := kp n1 (by decide)
  have kt1 : KT WB w1 := kt.step K1.out (fun b _ y => by obtain rfl : b = gx := y; exact ⟨_, _, _, nxr, .inr (.inl rfl)⟩)
  have KK1 := hid (K1.out.keeps (fun b y => by obtain rfl : b = gx := y; exact ⟨_, _, _, nxr⟩))
  obtain ⟨nv1, lo2, m1, m2, m3, m4⟩ := v1.ex
  have hnx := m4 x (by rw [List.length_set]; exact hxl)
  rw [getD_set11 _ _ _ _ hxl, if_pos rfl] at hnx
  obtain ⟨⟨a9, c9, ka9, kc9, xs9, g9, _⟩, _⟩ := hnx
  rw [hgx] at g9
  obtain ⟨nn, hnn⟩ : ∃ nn, d.es.length = nn := ⟨_, rfl⟩
  rw [hnn] at g9
  have c8 : w1.cell? ⟨bx, 0, none⟩ = some (.pointer (some ⟨gx, 0, none⟩)) := qC hb1
  have c9' : w1.cell? ⟨gx, 2, none⟩ = some (.slice a9 nn c9) := qC g9
  by_cases h4 : nn ≤ 4
  · have h4' : (nn : Int) ≤ 4 := by omega
    have hlay : layN ns1 (x : Int) d = (ns1.set x d, none) := by unfold layN; rw [if_pos (by omega), Int.toNat_natCast]
    rw [hlay] at HStep HUp1
    have HX := hid (show AdX W0 WB q (.pointer (some ⟨g0, 0, none⟩)) gs ns e R w1 from ⟨⟨gs1, ns1.set x d, upS_stop R ns _ e 0 (j + 1) HStep, V1.out, u3, HUp1.form, HUp1.lo⟩, kt1, Nat.le_trans lo K1.out.size⟩)
    clear hb1 hu4 hu5 hb3 hb7 hq1 m1 m2 m3 m4 g9
    gi_wp2
    exact ⟨KK1.out _, HX.out⟩
  · have h4' : ¬ (nn : Int) ≤ 4 := by omega
    have h5 : d.es.length = 5 := by omega
    have hlay : layN ns1 (x : Int) d = (ns1.set x (lowN d) ++ [moreN d], some (upN d, (ns1.length : Int))) := by unfold layN; rw [if_neg (by omega), Int.toNat_natCast]
    rw [hlay] at HStep HUp1
    have S1 := split_tab V1.out (x := x) (by rw [List.length_set]; exact hxl) (by rw [getD_set11 _ _ _ _ hxl, if_pos rfl]) h5 (fun hlf => by have := form_kids hf (t5.symm.trans hlf); rw [t6, ← t5, hlf, if_neg (by simp)]; omega) (fun hlf => by have := form_leaf hf (t5.symm.trans hlf); rw [t6, ← t5, hlf, if_pos rfl]; exact this.2) (by rw [List.length_set]; omega)
    rw [hgx] at S1
    have HS1 := hid S1
    have c3 : w1.cell? ⟨p3, 0, none⟩ = some (.pointer (some ⟨q, 0, none⟩)) := qC hb3
    have M1 := hid m1
    have M2 := hid m2
    have Hb1 := hid hb1
    have Hu4 := hid hu4
    have Hu5 := hid hu5
    have Hb3 := hid hb3
    have Hb7 := hid hb7
    have G9 := hid g9
    clear hb1 hu4 hu5 hb3 hb7 m1 m2 m4 g9 S1 kp
    gi_wp2_with fail
    refine ⟨trivial, ?_⟩
    refine (CallsIn.inRound l ((callsIn_wide (n := _)).2 HS1.out)).mono ?_
    rintro ee w2 ⟨⟨gn, ax2, nx2, cx2, rfl, r2, v2⟩, fl2, sm2, k2, rows2⟩
    clear c8 c9' c3 HS1
    rw [List.set_set] at v2
    rw [hgx] at k2
    have row1 : ∀ {b : Nat}, RowAt w1 q (.pointer (some ⟨g0, 0, none⟩)) b → RowAt W q (.pointer (some ⟨g0, 0, none⟩)) b := fun hb => by
     obtain ⟨nv', f1, f2⟩ := hb
     obtain rfl := linked_inj hq1 f1
     exact ⟨nv, n1, f2⟩
    have kp2 : ∀ {b : Nat} {cs : Array Value} {tt : TypeId} {fz : Nat × Nat}, w1.heap[b]? = some (.cells cs tt fz) → tt ≠ 77 ∧ tt ≠ 112 ∧ (tt ≠ 70 ∨ b = p6) → w2.heap[b]? = some (.cells cs tt fz) := fun hh ht => (k2.block _ (qL hh) (fun y => by
     rcases y with y | y | y
     · exact type_ne hh M1.out ht.1 y
     · exact type_ne hh G9.out ht.2.1 y
     · rcases ht.2.2 with ht | ht
       · obtain ⟨cs2, fz2, e2⟩ := RowAt.typed V1.out y
         exact type_ne hh e2 ht rfl
       · exact fr _ (row1 y) ht)).trans hh
    have xu4 := kp2 Hu4.out ⟨by decide, by decide, .inl (by decide)⟩
    have xb3 := kp2 Hb3.out ⟨by decide, by decide, .inl (by decide)⟩
    have xb7 := kp2 Hb7.out ⟨by decide, by decide, .inl (by decide)⟩
    have xu5 := kp2 Hu5.out ⟨by decide, by decide, .inr rfl⟩
    have ne56 : p6 ≠ p5 := by omega
    have HX5 := hid xu4
    have Y5 := setRow_heap w2 p5 _ #[.int .i64 (upN d).K, .int .i64 (upN d).N, .float .f64 (upN d).F, .slice ax2 nx2 cx2, .int .i64 (upN d).id] _ _ xu4
    have Y6 := (setRow_other w2 p5 p6 #[.int .i64 (upN d).K, .int .i64 (upN d).N, .float .f64 (upN d).F, .slice ax2 nx2 cx2, .int .i64 (upN d).id] ne56).trans xu5
    have c6 : (w2.setRow p5 #[.int .i64 (upN d).K, .int .i64 (upN d).N, .float .f64 (upN d).F, .slice ax2 nx2 cx2, .int .i64 (upN d).id]).cell? ⟨p6, 0, none⟩ = some kv := qC Y6
    have f6 : (w2.setRow p5 #[.int .i64 (upN d).K, .int .i64 (upN d).N, .float .f64 (upN d).F, .slice ax2 nx2 cx2, .int .i64 (upN d).id]).frozen? ⟨p6, 0, none⟩ = false := frozen_of_row _ _ 0 _ _ Y6
    have kt2 : KT WB w2 := kt1.step k2 (fun b _ y => by
     rcases y with y | y | y
     · obtain rfl := y; exact ⟨_, _, _, M1.out, .inl rfl⟩
     · obtain rfl := y; exact ⟨_, _, _, G9.out, .inr (.inl rfl)⟩
     · obtain ⟨cs2, fz2, e2⟩ := RowAt.typed V1.out y
       exact ⟨_, _, _, e2, .inr (.inr rfl)⟩)
    have KF := fun B => (KK1.out B).trans (k2.keeps (fun b y => by
     rcases y with y | y | y
     · obtain rfl := y; exact ⟨_, _, _, M1.out⟩
     · obtain rfl := y; exact ⟨_, _, _, G9.out⟩
     · obtain ⟨cs2, fz2, e2⟩ := RowAt.typed V1.out y
       exact ⟨_, _, _, e2⟩) B)
    have k3 : Kept (fun b => b = p5 ∨ b = p6) w2 ((w2.setRow p5 #[.int .i64 (upN d).K, .int .i64 (upN d).N, .float .f64 (upN d).F, .slice ax2 nx2 cx2, .int .i64 (upN d).id]).setCell ⟨p6, 0, none⟩ (.pointer (some ⟨gn, 0, none⟩))) := ⟨rfl, rfl, rfl, by simp, fun b hb y => (heap_set_ne _ p6 0 b _ (fun q' => y (.inr q'))).trans (setRow_other _ _ _ _ (fun q' => y (.inl q')))⟩
    have KF3 := fun B => (KF B).trans (k3.keeps (fun b y => by
     rcases y with y | y
     · obtain rfl := y; exact ⟨_, _, _, xu4⟩
     · obtain rfl := y; exact ⟨_, _, _, xu5⟩) B)
    have Z5 : ((w2.setRow p5 #[.int .i64 (upN d).K, .int .i64 (upN d).N, .float .f64 (upN d).F, .slice ax2 nx2 cx2, .int .i64 (upN d).id]).setCell ⟨p6, 0, none⟩ (.pointer (some ⟨gn, 0, none⟩))).heap[p5]? = some (.cells #[.int .i64 (upN d).K, .int .i64 (upN d).N, .float .f64 (upN d).F, .slice ax2 nx2 cx2, .int .i64 (upN d).id] 48) := (heap_set_ne _ p6 0 p5 _ (fun q' => ne56 q'.symm)).trans Y5
    have Z6 : ((w2.setRow p5 #[.int .i64 (upN d).K, .int .i64 (upN d).N, .float .f64 (upN d).F, .slice ax2 nx2 cx2, .int .i64 (upN d).id]).setCell ⟨p6, 0, none⟩ (.pointer (some ⟨gn, 0, none⟩))).heap[p6]? = some (.cells #[.pointer (some ⟨gn, 0, none⟩)] 70) := heap_setCell_same _ _ _ _ _ _ Y6
    have Zb : ∀ {b : Nat} {o : Obj}, w2.heap[b]? = some o → b ≠ p5 → b ≠ p6 → ((w2.setRow p5 #[.int .i64 (upN d).K, .int .i64 (upN d).N, .float .f64 (upN d).F, .slice ax2 nx2 cx2, .int .i64 (upN d).id]).setCell ⟨p6, 0, none⟩ (.pointer (some ⟨gn, 0, none⟩))).heap[b]? = some o := fun hb e1 e2 => (k3.block _ (qL hb) (fun y => y.elim e1 e2)).trans hb
    have Zs : w2.heap.size = ((w2.setRow p5 #[.int .i64 (upN d).K, .int .i64 (upN d).N, .float .f64 (upN d).F, .slice ax2 nx2 cx2, .int .i64 (upN d).id]).setCell ⟨p6, 0, none⟩ (.pointer (some ⟨gn, 0, none⟩))).heap.size := by simp
    have HK3 := hid k3
    have HKF := hid KF3
    have HZ5 := hid Z5
    have HZ6 := hid Z6
    have HB3 := hid (Zb xb3 (by omega) (by omega))
    have HB7 := hid (Zb xb7 (by omega) (by omega))
    have HKT := hid (kt2.own k3 (fun b y => by omega))
    have HV2 := hid v2
    have HZs := hid Zs
    have HX6 := hid xu5
    have HR2 := hid rows2
    have HFr := hid fr
    have HRow1 := hid (show ∀ b, RowAt w1 q (.pointer (some ⟨g0, 0, none⟩)) b → RowAt W q (.pointer (some ⟨g0, 0, none⟩)) b from fun b h => row1 h)
    have HU3 := hid u3
    have HUL := hid u2.len
    have HLo := hid lo
    have HW1 := hid K1.out.size
    have HW2 := hid k2.size
    clear KF KF3 k3 Z5 Z6 Zb Zs kp2 Y5 Y6 xu5 xb3 xb7 k2 v2
    gi_wp2_with (refine wpListIn_store_row11 rfl 48 (.tmp 5) (.tmp 29) rfl p5 #[.int .i64 (upN d).K, .int .i64 (upN d).N, .float .f64 (upN d).F, .slice ax2 nx2 cx2, .int .i64 (upN d).id] rfl rfl 48 _ HX5.out size_en11 rfl (by simp [Value.oneCell']) ?_)
    generalize (w2.setRow p5 #[.int .i64 (upN d).K, .int .i64 (upN d).N, .float .f64 (upN d).F, .slice ax2 nx2 cx2, .int .i64 (upN d).id]).setCell ⟨p6, 0, none⟩ (.pointer (some ⟨gn, 0, none⟩)) = w4 at *
    have noR : ∀ {b : Nat}, RowAt w2 q (.pointer (some ⟨g0, 0, none⟩)) b → ¬ (b = p5 ∨ b = p6) := fun hb y => by
     obtain ⟨cs2, fz2, e2⟩ := RowAt.typed HV2.out hb
     rcases y with y | y
     · exact type_ne HX5.out e2 (by decide) y.symm
     · rcases HR2.out _ hb with h | h
       · exact HFr.out _ (HRow1.out _ h) y
       · have := HLo.out; have := HW1.out; omega
    obtain ⟨nvx, lox, xq, _, _, _⟩ := HV2.out.ex
    have hq5 : q ≠ p5 := type_ne xq HX5.out (by decide)
    have hq6 : q ≠ p6 := type_ne xq HX6.out (by decide)
    have T4 : Tab (AvB WB) W0 w4 q (.pointer (some ⟨g0, 0, none⟩)) (gs1 ++ [gn]) (ns1.set x (lowN d) ++ [moreN d]) := HV2.out.kept HK3.out (fun b cs tt fz hh ht y => by
     have hne : tt ≠ 77 ∧ tt ≠ 112 := by
      rcases y with rfl | rfl
      · exact ⟨fun e => type_ne hh HX5.out (by rw [e]; decide) rfl, fun e => type_ne hh HX5.out (by rw [e]; decide) rfl⟩
      · exact ⟨fun e => type_ne hh HX6.out (by rw [e]; decide) rfl, fun e => type_ne hh HX6.out (by rw [e]; decide) rfl⟩
     rcases ht with ht | ht | ht
     · exact hne.1 ht
     · exact hne.2 ht
     · exact ht.2 ⟨by rcases y with y | y <;> omega, by rcases y with y | y <;> omega⟩) (fun nv' b e1 e2 => noR ⟨nv', e1, e2⟩) (fun b hb y => by rcases y with y | y <;> omega)
    have hqq := HK3.out.block q (qL xq) (fun y => y.elim hq5 hq6)
    have hL := HUL.out
    refine ⟨HKF.out _, ⟨⟨gs1 ++ [gn], _, upN d, (ns1.length : Int), ax2, nx2, cx2, .pointer (some ⟨gn, 0, none⟩), HStep, T4, fun i' hi' => ?_, by rw [e5]; exact HZ5.out, by rw [e6]; exact HZ6.out, fun _ => ⟨?_, by omega, by simp; omega⟩, ⟨r2, fl2, sm2⟩, HUp1⟩, by rw [e3]; exact HB3.out, HB7.out, fun b hb => ?_, HKT.out, ?_⟩⟩
    · rw [at_old _ _ (by have := u8.lo; omega)]; exact HU3.out i' hi'
    · unfold ptrG; rw [Int.toNat_natCast, at_new _ _ hL.symm]
    · obtain ⟨nv', f1, f2⟩ := hb
      rw [hqq] at f1
      rw [e6]
      exact fun y => noR ⟨nv', f1, f2⟩ (.inr y)
    · have := HLo.out; have := HW1.out; have := HW2.out; have := HZs.out; omega
 case stop =>
  rintro D W hD hX hK
  have HX := hid hX
  have HKK := hid hK
  clear hX hK HWay hw hR HI0
  gi_wp2
  refine ⟨by simp, .inl ⟨_, _, rfl, run_takeDeferred HKK.out, ?_⟩⟩
  have hX2 := HX.out.calm (Calm.putObj (.deferred none) (by omega) HKK.out rfl) hW0 (Nat.le_add_right _ 4) HX.out.lo
  obtain ⟨⟨gs1, ns1, u1, u2, u3, u4, u5⟩, kt, lo⟩ := hX2
  exact ⟨_, results_none rfl _ _ _, rfl, ⟨fun ns2 h2 => (by rw [u1] at h2; cases h2; exact ⟨_, gs1, u2, by rw [u3 _ (by omega)]; exact h0, u4, u5⟩), fun ns2 up k h2 => (by rw [u1] at h2; cases h2), kt⟩⟩
 case done =>
  rintro D W hD hI hK
  obtain ⟨⟨gs1, ns1, up, k, ax1, nx1, cx1, kv, u1, u2, u3, u4, u5, u6, u7, u8⟩, b3, b7, fr, kt, lo⟩ := hI
  have HKK := hid hK
  have hm0 : 0 < m := hmp
  obtain ⟨rfl, hk1, hk2⟩ := u6 hm0
  obtain ⟨gk, hgk⟩ : ∃ gk, gs1.getD k.toNat 0 = gk := ⟨_, rfl⟩
  have hpk : ptrG gs1 k = .pointer (some ⟨gk, 0, none⟩) := by unfold ptrG; rw [hgk]
  rw [hpk] at u5
  rw [List.take_of_length_le (by omega)] at u1
  clear hK HWay hw hR HI0
  rw [e3] at b3
  rw [e5] at u4
  rw [e6] at u5 fr
  obtain ⟨nv, lo1, n1, n2, n3, n4⟩ := u2.ex
  have hlen1 : ns1.length ≤ 700 := by have := u8.hi; omega
  have hroot1 : ptrG gs1 root = .pointer (some ⟨g0, 0, none⟩) := by unfold ptrG; rw [u3 _ (by omega), h0]
  have hrow : ∀ b, RowAt W q (.pointer (some ⟨g0, 0, none⟩)) b → b < W.heap.size := fun b hb => by
   obtain ⟨cs2, fz2, e2⟩ := RowAt.typed u2 hb
   exact (qL e2)
  have HS := hid (show (W.cell? ⟨p3, 0, none⟩ = some (.pointer (some ⟨q, 0, none⟩)) ∧ W.cell? ⟨p5, 0, none⟩ = some (.int .i64 up.K) ∧ W.cell? ⟨p5, 1, none⟩ = some (.int .i64 up.N) ∧ W.cell? ⟨p5, 2, none⟩ = some (.float .f64 up.F) ∧ W.cell? ⟨p5, 3, none⟩ = some (.slice ax1 nx1 cx1) ∧ W.cell? ⟨p5, 4, none⟩ = some (.int .i64 up.id) ∧ W.cell? ⟨p6, 0, none⟩ = some (.pointer (some ⟨gk, 0, none⟩)) ∧ W.cell? ⟨q, 1, none⟩ = some (.pointer (some ⟨g0, 0, none⟩))) from ⟨qC b3, qC u4, qC u4, qC u4, qC u4, qC u4, qC u5, qC n1⟩)
  have HSB := hid (show ∀ V, Below W.heap.size W V → (V.cell? ⟨p3, 0, none⟩ = some (.pointer (some ⟨q, 0, none⟩)) ∧ V.cell? ⟨p5, 0, none⟩ = some (.int .i64 up.K) ∧ V.cell? ⟨p5, 1, none⟩ = some (.int .i64 up.N) ∧ V.cell? ⟨p5, 2, none⟩ = some (.float .f64 up.F) ∧ V.cell? ⟨p5, 3, none⟩ = some (.slice ax1 nx1 cx1) ∧ V.cell? ⟨p5, 4, none⟩ = some (.int .i64 up.id) ∧ V.cell? ⟨p6, 0, none⟩ = some (.pointer (some ⟨gk, 0, none⟩)) ∧ V.cell? ⟨q, 1, none⟩ = some (.pointer (some ⟨g0, 0, none⟩))) from fun V b => by
   have cc : ∀ {p : Addr} {v : Value}, W.cell? p = some v → V.cell? p = some v := fun e => (b.cell (World.block_lt_of_cell? W _ e)).trans e
   obtain ⟨x0, x1, x2, x3, x4, x5, x6, x7⟩ := HS.out
   exact ⟨cc x0, cc x1, cc x2, cc x3, cc x4, cc x5, cc x6, cc x7⟩)
  have U2 := hid u2
  have U4 := hid u4
  have U5 := hid u5
  have B3 := hid b3
  have N1 := hid n1
  have HLo := hid lo
  have U8 := hid u8
  have U7 := hid u7
  have HKt := hid kt
  have HFr := hid fr
  have HU3 := hid u3
  have HRow := hid hrow
  have HD0 := hid hD
  clear u2 u4 u5 b3 n1 n2 n4 b7 u8 u7 kt fr u3 hrow hD
  gi_wp2
  refine wpIn_wide.2 (wp_normal11 ?_)
  refine region_K 14 (fun V => V.cell? ⟨p3, 0, none⟩ = some (.pointer (some ⟨q, 0, none⟩)) ∧ V.cell? ⟨p5, 0, none⟩ = some (.int .i64 up.K) ∧ V.cell? ⟨p5, 1, none⟩ = some (.int .i64 up.N) ∧ V.cell? ⟨p5, 2, none⟩ = some (.float .f64 up.F) ∧ V.cell? ⟨p5, 3, none⟩ = some (.slice ax1 nx1 cx1) ∧ V.cell? ⟨p5, 4, none⟩ = some (.int .i64 up.id) ∧ V.cell? ⟨p6, 0, none⟩ = some (.pointer (some ⟨gk, 0, none⟩)) ∧ V.cell? ⟨q, 1, none⟩ = some (.pointer (some ⟨g0, 0, none⟩))) (by kernel_rfl) (HSB.out _ ((Still.drew W).below _)) (fun hHeld => ?_)
  have BV := hid ((Still.drew W).below W.heap.size)
  have HDz := hid (show W.heap.size = W.drew.heap.size from rfl)
  generalize W.drew = vd at *
  refine qA 0 rfl hHeld 31 rfl ?_
  refine qA 1 rfl hHeld 32 rfl ?_
  refine qA 2 rfl hHeld 33 rfl ?_
  refine qA 4 rfl hHeld 35 rfl ?_
  refine qA 5 rfl hHeld 36 rfl ?_
  refine qA 6 rfl hHeld 37 rfl ?_
  refine qA 7 rfl hHeld 38 rfl ?_
  refine qA 8 rfl hHeld 39 rfl ?_
  refine anyK_two (i := 3) (j := 9) (by kernel_rfl) rfl rfl (fun KP hK => ?_) (fun KP hK => ?_)
  · skip
    go_simp
    have bA := Below.alloc1 vd (.cells #[.int .i64 up.K, .int .i64 up.N, .float .f64 up.F, .slice ax1 nx1 cx1, .int .i64 up.id] 48)
    have Heb := hid (heap_alloc_new vd (.cells #[.int .i64 up.K, .int .i64 up.N, .float .f64 up.F, .slice ax1 nx1 cx1, .int .i64 up.id] 48))
    have HZeb := hid (alloc_size vd (.cells #[.int .i64 up.K, .int .i64 up.N, .float .f64 up.F, .slice ax1 nx1 cx1, .int .i64 up.id] 48))
    have BV' := hid (BV.out.trans (bA.mono BV.out.size))
    clear BV
    have BV := BV'
    clear BV' bA hHeld
    refine hK.out _ _ (HSB.out _ BV.out) (fun hHeld => ?_)
    clear hK KP
    try simp only [qP]
    generalize vd.alloc (.cells #[.int .i64 up.K, .int .i64 up.N, .float .f64 up.F, .slice ax1 nx1 cx1, .int .i64 up.id] 48) = v1 at *
    obtain ⟨eb, heb⟩ : ∃ b, vd.heap.size = b := ⟨_, rfl⟩
    rw [heb] at Heb HZeb
    try simp only [heb]
    refine qS 9 rfl fun KP hK => ?_
    have HO := hid (fun o => (Below.alloc1 v1 o).block eb (by have := HZeb.out; omega))
    have Heb' := hid (show (v1.alloc (.cells #[.pointer (some ⟨g0, 0, none⟩), .pointer (some ⟨gk, 0, none⟩)] 70)).heap[eb]? = some (.cells #[.int .i64 up.K, .int .i64 up.N, .float .f64 up.F, .slice ax1 nx1 cx1, .int .i64 up.id] 48) from (HO.out _).trans Heb.out)
    clear HO
    go_simp
    have bA := Below.alloc1 v1 (.cells #[.pointer (some ⟨g0, 0, none⟩), .pointer (some ⟨gk, 0, none⟩)] 70)
    have Hkb := hid (heap_alloc_new v1 (.cells #[.pointer (some ⟨g0, 0, none⟩), .pointer (some ⟨gk, 0, none⟩)] 70))
    have HZkb := hid (alloc_size v1 (.cells #[.pointer (some ⟨g0, 0, none⟩), .pointer (some ⟨gk, 0, none⟩)] 70))
    have BV' := hid (BV.out.trans (bA.mono BV.out.size))
    clear BV
    have BV := BV'
    clear BV' bA hHeld
    refine hK.out _ _ (HSB.out _ BV.out) (fun hHeld => ?_)
    clear hK KP
    try simp only [qP]
    generalize v1.alloc (.cells #[.pointer (some ⟨g0, 0, none⟩), .pointer (some ⟨gk, 0, none⟩)] 70) = v2 at *
    obtain ⟨kb, hkb⟩ : ∃ b, v1.heap.size = b := ⟨_, rfl⟩
    rw [hkb] at Hkb HZkb
    try simp only [hkb]
    refine qA 10 rfl hHeld 41 rfl ?_
    have HEb := hid (show v2.heap[eb]? = some (.cells #[.int .i64 up.K, .int .i64 up.N, .float .f64 up.F, .slice ax1 nx1 cx1, .int .i64 up.id] 48) from Heb'.out)
    have HKb := hid (show v2.heap[kb]? = some (.cells #[.pointer (some ⟨g0, 0, none⟩), .pointer (some ⟨gk, 0, none⟩)] 70) from Hkb.out)
    have hge : W.heap.size ≤ eb ∧ W.heap.size ≤ kb := by have := HZeb.out; have := HDz.out; omega
    have T2 := U2.out.below BV.out
    have hq2 := (BV.out.block q (qL N1.out)).trans N1.out
    have HRoot := hid (root_tab (e := up) (r := root) (k := k) (z := 0) T2 (by omega) U7.out.1 U7.out.2.1 U7.out.2.2 ⟨hroot.1, by have := U2.out.len; have := U8.out.lo; omega⟩ ⟨hk1, hk2⟩ HEb.out (by rw [hroot1, hpk]; exact HKb.out) (fun hb => by
     obtain ⟨nv', f1, f2⟩ := hb
     obtain rfl := linked_inj hq2 f1
     have := HRow.out kb ⟨_, N1.out, f2⟩
     omega) (fun ha => by have := ha.2; have := HLo.out; omega) (fun ha => by have := ha.2; have := HLo.out; omega))
    have HD2 := hid ((BV.out.block D (qL HKK.out)).trans HKK.out)
    have HQ2 := hid hq2
    have HT2 := hid T2
    clear T2 hq2
    refine qS 11 rfl fun KP hK => ?_
    go_simp
    refine HRoot.out.mono ?_
    rintro e9 v3 ⟨gn, rfl, t3, k3⟩
    obtain ⟨nv3, lo3, m1, _⟩ := t3.ex
    have typ : ∀ b, (b = q ∨ RowAt v2 q (.pointer (some ⟨g0, 0, none⟩)) b) → ∃ cs t fz, v2.heap[b]? = some (.cells cs t fz) ∧ (t = 77 ∨ t = 70) := fun b y => by
     rcases y with rfl | y
     · exact ⟨_, _, _, HQ2.out, .inl rfl⟩
     · obtain ⟨cs2, fz2, e2⟩ := RowAt.typed HT2.out y
       exact ⟨_, _, _, e2, .inr rfl⟩
    have keep : ∀ {b : Nat} {cs : Array Value} {tt : TypeId} {fz : Nat × Nat}, v2.heap[b]? = some (.cells cs tt fz) → tt ≠ 77 ∧ (tt ≠ 70 ∨ b = p6) → v3.heap[b]? = some (.cells cs tt fz) := fun hh ht => (k3.block _ (qL hh) (fun y => by
     rcases y with y | y
     · exact type_ne hh HQ2.out ht.1 y
     · rcases ht.2 with ht | ht
       · obtain ⟨cs2, fz2, e2⟩ := RowAt.typed HT2.out y
         exact type_ne hh e2 ht rfl
       · obtain ⟨nv', f1, f2⟩ := y
         obtain rfl := linked_inj HQ2.out f1
         exact HFr.out _ ⟨_, N1.out, f2⟩ ht)).trans hh
    have z4 := keep ((BV.out.block p5 (qL U4.out)).trans U4.out) ⟨by decide, .inl (by decide)⟩
    have z5 := keep ((BV.out.block p6 (qL U5.out)).trans U5.out) ⟨by decide, .inr rfl⟩
    have z3 := keep ((BV.out.block p3 (qL B3.out)).trans B3.out) ⟨by decide, .inl (by decide)⟩
    have hS3 : (v3.cell? ⟨p3, 0, none⟩ = some (.pointer (some ⟨q, 0, none⟩)) ∧ v3.cell? ⟨p5, 0, none⟩ = some (.int .i64 up.K) ∧ v3.cell? ⟨p5, 1, none⟩ = some (.int .i64 up.N) ∧ v3.cell? ⟨p5, 2, none⟩ = some (.float .f64 up.F) ∧ v3.cell? ⟨p5, 3, none⟩ = some (.slice ax1 nx1 cx1) ∧ v3.cell? ⟨p5, 4, none⟩ = some (.int .i64 up.id) ∧ v3.cell? ⟨p6, 0, none⟩ = some (.pointer (some ⟨gk, 0, none⟩)) ∧ v3.cell? ⟨q, 1, none⟩ = some (.pointer (some ⟨g0, 0, none⟩))) := ⟨qC z3, qC z4, qC z4, qC z4, qC z4, qC z4, qC z5, qC m1⟩
    have kt3 : KT WB v3 := (HKt.out.step (Kept.of_below (X := fun _ => False) BV.out) (fun _ _ h => h.elim)).step k3 (fun b _ y => by
     obtain ⟨cs2, t2, fz2, e2, e3⟩ := typ b y
     exact ⟨cs2, t2, fz2, e2, e3.elim .inl (fun h => .inr (.inr h))⟩)
    have hD3 : v3.heap[D]? = some (.deferred (some [])) := (k3.block D (qL HD2.out) (fun y => by
     obtain ⟨cs2, t2, fz2, e2, _⟩ := typ D y
     rw [HD2.out] at e2
     cases e2)).trans HD2.out
    have T3 := hid t3
    have M1 := hid m1
    have KT3 := hid kt3
    have HD3 := hid hD3
    clear hHeld typ keep z3 z4 z5 k3 t3 m1 kt3 hD3
    go_wp2_with fail
    refine hK.out _ _ hS3 (fun hHeld => ?_)
    clear hK KP hS3
    try simp only [qP]
    refine qS 12 rfl fun KP hK => ?_
    go_simp
    refine hK.out _ _ hHeld (fun hHeld2 => ?_)
    clear hK KP hHeld
    have hHeld := hHeld2
    clear hHeld2
    try simp only [qP]
    refine qA 13 rfl hHeld 44 rfl ?_
    have kc : v3.cell? ⟨q, 1, none⟩ = some (.pointer (some ⟨g0, 0, none⟩)) := qC M1.out
    have kf : v3.frozen? ⟨q, 1, none⟩ = false := frozen_of_row _ _ 1 _ _ M1.out
    refine anyK_last (by kernel_rfl) rfl (fun KP hK => ?_)
    go_simp
    refine hK.out _ _ ?_
    clear hK KP hHeld kc kf
    try simp only [Act.put]
    refine anyK_done (by kernel_rfl) ?_ _
    have hD4 : (v3.setCell ⟨q, 1, none⟩ (.pointer (some ⟨gn, 0, none⟩))).heap[D]? = some (.deferred (some [])) := (heap_set_ne v3 q 1 D _ (fun e9 => by rw [e9, M1.out] at HD3; exact absurd HD3.out (by simp))).trans HD3.out
    have T4 := T3.out.root (.pointer (some ⟨gn, 0, none⟩))
    have kt4 : KT WB (v3.setCell ⟨q, 1, none⟩ (.pointer (some ⟨gn, 0, none⟩))) := KT3.out.step (Kept.set (X := fun b => b = q) v3 (p := ⟨q, 1, none⟩) rfl _) (fun b _ y => by obtain rfl : b = q := y; exact ⟨_, _, _, M1.out, .inl rfl⟩)
    have HC := Calm.putObj (B := WB.heap.size + 4) (W := v3.setCell ⟨q, 1, none⟩ (.pointer (some ⟨gn, 0, none⟩))) (.deferred none) (by have := HD0.out; omega) hD4 rfl
    have hsz : WB.heap.size + 4 ≤ (v3.setCell ⟨q, 1, none⟩ (.pointer (some ⟨gn, 0, none⟩))).heap.size := by have := (qL hD4); have := HD0.out; omega
    simp only [onlyN]
    refine ⟨by simp, .inl ⟨_, _, rfl, run_takeDeferred hD4, ?_⟩⟩
    refine ⟨_, results_none rfl _ _ _, rfl, ⟨fun ns2 h2 => (by rw [u1] at h2; cases h2), fun ns2 up2 k2 h2 => ?_, kt4.calm HC (Nat.le_add_right _ 4) hsz⟩⟩
    rw [u1] at h2
    cases h2
    exact ⟨_, gs1 ++ [gn], gn, T4.calm HC (by omega) hsz, at_new _ _ U2.out.len.symm, U8.out.form, U8.out.lo⟩
  · skip
    go_simp
    have bA := Below.alloc1 vd (.cells #[.pointer (some ⟨g0, 0, none⟩), .pointer (some ⟨gk, 0, none⟩)] 70)
    have Hkb := hid (heap_alloc_new vd (.cells #[.pointer (some ⟨g0, 0, none⟩), .pointer (some ⟨gk, 0, none⟩)] 70))
    have HZkb := hid (alloc_size vd (.cells #[.pointer (some ⟨g0, 0, none⟩), .pointer (some ⟨gk, 0, none⟩)] 70))
    have BV' := hid (BV.out.trans (bA.mono BV.out.size))
    clear BV
    have BV := BV'
    clear BV' bA hHeld
    refine hK.out _ _ (HSB.out _ BV.out) (fun hHeld => ?_)
    clear hK KP
    try simp only [qP]
    generalize vd.alloc (.cells #[.pointer (some ⟨g0, 0, none⟩), .pointer (some ⟨gk, 0, none⟩)] 70) = v1 at *
    obtain ⟨kb, hkb⟩ : ∃ b, vd.heap.size = b := ⟨_, rfl⟩
    rw [hkb] at Hkb HZkb
    try simp only [hkb]
    refine qS 3 rfl fun KP hK => ?_
    have HO := hid (fun o => (Below.alloc1 v1 o).block kb (by have := HZkb.out; omega))
    have Hkb' := hid (show (v1.alloc (.cells #[.int .i64 up.K, .int .i64 up.N, .float .f64 up.F, .slice ax1 nx1 cx1, .int .i64 up.id] 48)).heap[kb]? = some (.cells #[.pointer (some ⟨g0, 0, none⟩), .pointer (some ⟨gk, 0, none⟩)] 70) from (HO.out _).trans Hkb.out)
    clear HO
    go_simp
    have bA := Below.alloc1 v1 (.cells #[.int .i64 up.K, .int .i64 up.N, .float .f64 up.F, .slice ax1 nx1 cx1, .int .i64 up.id] 48)
    have Heb := hid (heap_alloc_new v1 (.cells #[.int .i64 up.K, .int .i64 up.N, .float .f64 up.F, .slice ax1 nx1 cx1, .int .i64 up.id] 48))
    have HZeb := hid (alloc_size v1 (.cells #[.int .i64 up.K, .int .i64 up.N, .float .f64 up.F, .slice ax1 nx1 cx1, .int .i64 up.id] 48))
    have BV' := hid (BV.out.trans (bA.mono BV.out.size))
    clear BV
    have BV := BV'
    clear BV' bA hHeld
    refine hK.out _ _ (HSB.out _ BV.out) (fun hHeld => ?_)
    clear hK KP
    try simp only [qP]
    generalize v1.alloc (.cells #[.int .i64 up.K, .int .i64 up.N, .float .f64 up.F, .slice ax1 nx1 cx1, .int .i64 up.id] 48) = v2 at *
    obtain ⟨eb, heb⟩ : ∃ b, v1.heap.size = b := ⟨_, rfl⟩
    rw [heb] at Heb HZeb
    try simp only [heb]
    refine qA 10 rfl hHeld 41 rfl ?_
    have HEb := hid (show v2.heap[eb]? = some (.cells #[.int .i64 up.K, .int .i64 up.N, .float .f64 up.F, .slice ax1 nx1 cx1, .int .i64 up.id] 48) from Heb.out)
    have HKb := hid (show v2.heap[kb]? = some (.cells #[.pointer (some ⟨g0, 0, none⟩), .pointer (some ⟨gk, 0, none⟩)] 70) from Hkb'.out)
    have hge : W.heap.size ≤ eb ∧ W.heap.size ≤ kb := by have := HZkb.out; have := HDz.out; omega
    have T2 := U2.out.below BV.out
    have hq2 := (BV.out.block q (qL N1.out)).trans N1.out
    have HRoot := hid (root_tab (e := up) (r := root) (k := k) (z := 0) T2 (by omega) U7.out.1 U7.out.2.1 U7.out.2.2 ⟨hroot.1, by have := U2.out.len; have := U8.out.lo; omega⟩ ⟨hk1, hk2⟩ HEb.out (by rw [hroot1, hpk]; exact HKb.out) (fun hb => by
     obtain ⟨nv', f1, f2⟩ := hb
     obtain rfl := linked_inj hq2 f1
     have := HRow.out kb ⟨_, N1.out, f2⟩
     omega) (fun ha => by have := ha.2; have := HLo.out; omega) (fun ha => by have := ha.2; have := HLo.out; omega))
    have HD2 := hid ((BV.out.block D (qL HKK.out)).trans HKK.out)
    have HQ2 := hid hq2
    have HT2 := hid T2
    clear T2 hq2
    refine qS 11 rfl fun KP hK => ?_
    go_simp
    refine HRoot.out.mono ?_
    rintro e9 v3 ⟨gn, rfl, t3, k3⟩
    obtain ⟨nv3, lo3, m1, _⟩ := t3.ex
    have typ : ∀ b, (b = q ∨ RowAt v2 q (.pointer (some ⟨g0, 0, none⟩)) b) → ∃ cs t fz, v2.heap[b]? = some (.cells cs t fz) ∧ (t = 77 ∨ t = 70) := fun b y => by
     rcases y with rfl | y
     · exact ⟨_, _, _, HQ2.out, .inl rfl⟩
     · obtain ⟨cs2, fz2, e2⟩ := RowAt.typed HT2.out y
       exact ⟨_, _, _, e2, .inr rfl⟩
    have keep : ∀ {b : Nat} {cs : Array Value} {tt : TypeId} {fz : Nat × Nat}, v2.heap[b]? = some (.cells cs tt fz) → tt ≠ 77 ∧ (tt ≠ 70 ∨ b = p6) → v3.heap[b]? = some (.cells cs tt fz) := fun hh ht => (k3.block _ (qL hh) (fun y => by
     rcases y with y | y
     · exact type_ne hh HQ2.out ht.1 y
     · rcases ht.2 with ht | ht
       · obtain ⟨cs2, fz2, e2⟩ := RowAt.typed HT2.out y
         exact type_ne hh e2 ht rfl
       · obtain ⟨nv', f1, f2⟩ := y
         obtain rfl := linked_inj HQ2.out f1
         exact HFr.out _ ⟨_, N1.out, f2⟩ ht)).trans hh
    have z4 := keep ((BV.out.block p5 (qL U4.out)).trans U4.out) ⟨by decide, .inl (by decide)⟩
    have z5 := keep ((BV.out.block p6 (qL U5.out)).trans U5.out) ⟨by decide, .inr rfl⟩
    have z3 := keep ((BV.out.block p3 (qL B3.out)).trans B3.out) ⟨by decide, .inl (by decide)⟩
    have hS3 : (v3.cell? ⟨p3, 0, none⟩ = some (.pointer (some ⟨q, 0, none⟩)) ∧ v3.cell? ⟨p5, 0, none⟩ = some (.int .i64 up.K) ∧ v3.cell? ⟨p5, 1, none⟩ = some (.int .i64 up.N) ∧ v3.cell? ⟨p5, 2, none⟩ = some (.float .f64 up.F) ∧ v3.cell? ⟨p5, 3, none⟩ = some (.slice ax1 nx1 cx1) ∧ v3.cell? ⟨p5, 4, none⟩ = some (.int .i64 up.id) ∧ v3.cell? ⟨p6, 0, none⟩ = some (.pointer (some ⟨gk, 0, none⟩)) ∧ v3.cell? ⟨q, 1, none⟩ = some (.pointer (some ⟨g0, 0, none⟩))) := ⟨qC z3, qC z4, qC z4, qC z4, qC z4, qC z4, qC z5, qC m1⟩
    have kt3 : KT WB v3 := (HKt.out.step (Kept.of_below (X := fun _ => False) BV.out) (fun _ _ h => h.elim)).step k3 (fun b _ y => by
     obtain ⟨cs2, t2, fz2, e2, e3⟩ := typ b y
     exact ⟨cs2, t2, fz2, e2, e3.elim .inl (fun h => .inr (.inr h))⟩)
    have hD3 : v3.heap[D]? = some (.deferred (some [])) := (k3.block D (qL HD2.out) (fun y => by
     obtain ⟨cs2, t2, fz2, e2, _⟩ := typ D y
     rw [HD2.out] at e2
     cases e2)).trans HD2.out
    have T3 := hid t3
    have M1 := hid m1
    have KT3 := hid kt3
    have HD3 := hid hD3
    clear hHeld typ keep z3 z4 z5 k3 t3 m1 kt3 hD3
    go_wp2_with fail
    refine hK.out _ _ hS3 (fun hHeld => ?_)
    clear hK KP hS3
    try simp only [qP]
    refine qS 12 rfl fun KP hK => ?_
    go_simp
    refine hK.out _ _ hHeld (fun hHeld2 => ?_)
    clear hK KP hHeld
    have hHeld := hHeld2
    clear hHeld2
    try simp only [qP]
    refine qA 13 rfl hHeld 44 rfl ?_
    have kc : v3.cell? ⟨q, 1, none⟩ = some (.pointer (some ⟨g0, 0, none⟩)) := qC M1.out
    have kf : v3.frozen? ⟨q, 1, none⟩ = false := frozen_of_row _ _ 1 _ _ M1.out
    refine anyK_last (by kernel_rfl) rfl (fun KP hK => ?_)
    go_simp
    refine hK.out _ _ ?_
    clear hK KP hHeld kc kf
    try simp only [Act.put]
    refine anyK_done (by kernel_rfl) ?_ _
    have hD4 : (v3.setCell ⟨q, 1, none⟩ (.pointer (some ⟨gn, 0, none⟩))).heap[D]? = some (.deferred (some [])) := (heap_set_ne v3 q 1 D _ (fun e9 => by rw [e9, M1.out] at HD3; exact absurd HD3.out (by simp))).trans HD3.out
    have T4 := T3.out.root (.pointer (some ⟨gn, 0, none⟩))
    have kt4 : KT WB (v3.setCell ⟨q, 1, none⟩ (.pointer (some ⟨gn, 0, none⟩))) := KT3.out.step (Kept.set (X := fun b => b = q) v3 (p := ⟨q, 1, none⟩) rfl _) (fun b _ y => by obtain rfl : b = q := y; exact ⟨_, _, _, M1.out, .inl rfl⟩)
    have HC := Calm.putObj (B := WB.heap.size + 4) (W := v3.setCell ⟨q, 1, none⟩ (.pointer (some ⟨gn, 0, none⟩))) (.deferred none) (by have := HD0.out; omega) hD4 rfl
    have hsz : WB.heap.size + 4 ≤ (v3.setCell ⟨q, 1, none⟩ (.pointer (some ⟨gn, 0, none⟩))).heap.size := by have := (qL hD4); have := HD0.out; omega
    simp only [onlyN]
    refine ⟨by simp, .inl ⟨_, _, rfl, run_takeDeferred hD4, ?_⟩⟩
    refine ⟨_, results_none rfl _ _ _, rfl, ⟨fun ns2 h2 => (by rw [u1] at h2; cases h2), fun ns2 up2 k2 h2 => ?_, kt4.calm HC (Nat.le_add_right _ 4) hsz⟩⟩
    rw [u1] at h2
    cases h2
    exact ⟨_, gs1 ++ [gn], gn, T4.calm HC (by omega) hsz, at_new _ _ U2.out.len.symm, U8.out.form, U8.out.lo⟩
end Go.Proofs.YtlkoghdajpbffaaGreat
