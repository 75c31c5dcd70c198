/- Rows of pairs in the laws: whether two are alike, marks, whether marks are held. Conditions: at most 2^21 pairs. -/
import Derived.Test.YtecdnheopmojfaaGreatVc14
import Derived.Test.YtecdnheopmojfaaGreatNi
namespace Go.Proofs.YtecdnheopmojfaaGreat
open Go.RowKit
set_option maxRecDepth 100000
def fI (l : List Pr) : List Int := l.flatMap (fun p => [(p.1 : Int), (p.2 : Int)])
theorem fP_ins : ∀ l : List Pr, fP l = ins (fI l)
 | [] => rfl
 | p :: r => by
  have h := fP_ins r
  unfold fP fI ins at *
  rw [List.flatMap_cons, List.flatMap_cons, List.map_append, h]; rfl
structure ReadsP (w : World) (ad : Option Addr) (m : Nat) (zs : List Int) : Prop where
 cells : m = 0 ∨ ∃ b off, ad = some ⟨b, off, none⟩ ∧ ∀ j, j < m → w.cell? ⟨b, off + j * 2, none⟩ = some (.int .i64 (zs.getD (j * 2) 0)) ∧ w.cell? ⟨b, off + j * 2 + 1, none⟩ = some (.int .i64 (zs.getD (j * 2 + 1) 0))
theorem ReadsP.below {w w' : World} {ad : Option Addr} {m : Nat} {zs : List Int} (h : ReadsP w ad m zs) {B : Nat} (hb : Below B w w') (hB : w.heap.size ≤ B) : ReadsP w' ad m zs := by
 refine ⟨?_⟩
 rcases h.cells with q | ⟨b, off, e, hc⟩
 · exact .inl q
 · exact .inr ⟨b, off, e, fun j hj => ⟨(hb.cell (p := ⟨b, off + j * 2, none⟩) (Nat.lt_of_lt_of_le (World.block_lt_of_cell? _ _ (hc j hj).1) hB)).trans (hc j hj).1, (hb.cell (p := ⟨b, off + j * 2 + 1, none⟩) (Nat.lt_of_lt_of_le (World.block_lt_of_cell? _ _ (hc j hj).2) hB)).trans (hc j hj).2⟩⟩
theorem own_readsP {w : World} {base m c : Nat} {a : Option Addr} {zs : List Int} (o : w.ownsRow base 33 2 (.slice a m c) m (ins zs)) : ReadsP w a m zs := by
 refine ⟨?_⟩
 rcases o.2 with ⟨e, _⟩ | ⟨g, cap, cur, e, _⟩
 · exact .inl (Value.slice.inj e).2.1
 · have ea := (Value.slice.inj e).1
   subst ea
   have hz : zs.length = m * 2 := by have := o.1; simpa [ins] using this
   refine .inr ⟨g, 0, rfl, fun j hj => ⟨?_, ?_⟩⟩
   · rw [Nat.zero_add, o.cellAt (j * 2) (by omega)]
     have hq : j * 2 < zs.length := by omega
     simp [ins, List.getD, hq]
   · rw [Nat.zero_add, o.cellAt (j * 2 + 1) (by omega)]
     have hq : j * 2 + 1 < zs.length := by omega
     simp [ins, List.getD, hq]
set_option maxHeartbeats 3200000 in
theorem eqA2_one (a b : Int) (w : World) :
 Calls Tryz.prog 53 #[.agg #[.int .i64 a, .int .i64 b], .agg #[.int .i64 a, .int .i64 b]] w fun e w' => e = .returned (.bool true) ∧ Below w.heap.size w w' := by
 have HB := hid (two w (.cells #[.int .i64 a, .int .i64 b] 33) (.cells #[.int .i64 a, .int .i64 b] 33))
 obtain ⟨R1, R2, z⟩ := two_rows13 w (.cells #[.int .i64 a, .int .i64 b] 33) (.cells #[.int .i64 a, .int .i64 b] 33)
 have C := hid (show (fun W : World => (W.cell? ⟨w.heap.size, 0, none⟩ = some (.int .i64 a) ∧ W.cell? ⟨w.heap.size, 1, none⟩ = some (.int .i64 b)) ∧ W.cell? ⟨w.heap.size + 1, 0, none⟩ = some (.int .i64 a) ∧ W.cell? ⟨w.heap.size + 1, 1, none⟩ = some (.int .i64 b)) ((w.alloc (.cells #[.int .i64 a, .int .i64 b] 33)).alloc (.cells #[.int .i64 a, .int .i64 b] 33)) from ⟨⟨by rw [cell_of_row _ _ _ _ _ _ R1]; rfl, by rw [cell_of_row _ _ _ _ _ _ R1]; rfl⟩, by rw [cell_of_row _ _ _ _ _ _ R2]; rfl, by rw [cell_of_row _ _ _ _ _ _ R2]; rfl⟩)
 clear R1 R2 z
 have qa : (a != a) = false := by simp
 have qb : (b != b) = false := by simp
 go_enter Tryz.func53, Tryz.ntmps53
 go_wp2_with fail
 generalize (w.alloc (.cells #[.int .i64 a, .int .i64 b] 33)).alloc (.cells #[.int .i64 a, .int .i64 b] 33) = w2 at *
 go_loopw [5] (fun s wq => ∃ k : Nat, k ≤ 2 ∧ s = .int .i64 k ∧ Hid (Below w2.heap.size w2 wq)) (fun s _ => 2 - (intOf s).toNat)
 case atStart => exact ⟨0, by omega, rfl, hid (Below.refl _ _)⟩
 case round =>
  obtain ⟨k, hk, rfl, HW⟩ := hrel
  obtain ⟨wo, hwo⟩ : ∃ wo, wo = wr := ⟨_, rfl⟩
  subst hwo
  have kp : ∀ {p : Addr} {v : Value}, w2.cell? p = some v → wo.cell? p = some v := fun {p v} hc => (HW.out.cell (p := p) (World.block_lt_of_cell? _ _ hc)).trans hc
  have c0 := kp C.out.1.1
  have c1 := kp C.out.1.2
  have d0 := kp C.out.2.1
  have d1 := kp C.out.2.2
  clear kp
  rcases (show k = 0 ∨ k = 1 ∨ k = 2 by omega) with rfl | rfl | rfl
  · go_wp2_with fail
    go_quiet (fail)
    go_wp2_with fail
    go_roundw
    case rel => exact ⟨1, by omega, by go_num, by first | exact hid (bel_dN HW.out _) | exact hid (HW.out.trans ((Still.drew _).below _))⟩
    case measure => simp [intOf]
  · go_wp2_with fail
    go_quiet (fail)
    go_wp2_with fail
    go_roundw
    case rel => exact ⟨2, by omega, by go_num, by first | exact hid (bel_dN HW.out _) | exact hid (HW.out.trans ((Still.drew _).below _))⟩
    case measure => simp [intOf]
  · go_wp2_with fail
    go_ret
    exact ⟨rfl, HB.out.trans (HW.out.mono HB.out.size)⟩
set_option maxHeartbeats 6400000 in
theorem eqA2S_pos (b off c b' off' c' m : Nat) (zs : List Int) (w : World) (hm : m ≤ 2097152)
 (hc : ∀ j, j < m → w.cell? ⟨b, off + j * 2, none⟩ = some (.int .i64 (zs.getD (j * 2) 0)) ∧ w.cell? ⟨b, off + j * 2 + 1, none⟩ = some (.int .i64 (zs.getD (j * 2 + 1) 0)))
 (hc' : ∀ j, j < m → w.cell? ⟨b', off' + j * 2, none⟩ = some (.int .i64 (zs.getD (j * 2) 0)) ∧ w.cell? ⟨b', off' + j * 2 + 1, none⟩ = some (.int .i64 (zs.getD (j * 2 + 1) 0))) :
 Calls Tryz.prog 20 #[.slice (some ⟨b, off, none⟩) m c, .slice (some ⟨b', off', none⟩) m c'] w fun e w' => e = .returned (.bool true) ∧ Below w.heap.size w w' := by
 have HC := hid hc
 have HC' := hid hc'
 have q0 : ((m : Int) != (m : Int)) = false := by simp
 clear hc hc'
 go_enter Tryz.func20, Tryz.ntmps20
 go_wp2_with fail
 clear q0
 go_loopw [5] (fun s wq => ∃ j : Nat, j ≤ m ∧ s = .int .i64 j ∧ Hid (Below w.heap.size w wq)) (fun s _ => m - (intOf s).toNat)
 case atStart => exact ⟨0, Nat.zero_le _, rfl, hid (Below.refl _ _)⟩
 case round =>
  obtain ⟨j, hj, rfl, HW⟩ := hrel
  obtain ⟨wo, hwo⟩ : ∃ wo, wo = wr := ⟨_, rfl⟩
  subst hwo
  by_cases hlt : j < m
  · have hlt' : (j : Int) < (m : Int) := by omega
    have hj0 : (0 : Int) ≤ (j : Int) := by omega
    have bD := (Below.refl wo.heap.size wo).drew
    have HWD := hid (HW.out.trans (bD.mono HW.out.size))
    have kp : ∀ {p : Addr} {v : Value}, w.cell? p = some v → wo.drew.cell? p = some v := fun {p v} hc => (HWD.out.cell (p := p) (World.block_lt_of_cell? _ _ hc)).trans hc
    obtain ⟨x, hx⟩ : ∃ x, zs.getD (j * 2) 0 = x := ⟨_, rfl⟩
    obtain ⟨y, hy⟩ : ∃ y, zs.getD (j * 2 + 1) 0 = y := ⟨_, rfl⟩
    have HS := hid (show (fun W : World => (W.cell? ⟨b, off + j * 2, none⟩ = some (.int .i64 x) ∧ W.cell? ⟨b, off + j * 2 + 1, none⟩ = some (.int .i64 y)) ∧ W.cell? ⟨b', off' + j * 2, none⟩ = some (.int .i64 x) ∧ W.cell? ⟨b', off' + j * 2 + 1, none⟩ = some (.int .i64 y)) wo.drew from ⟨⟨by rw [← hx]; exact kp (HC.out j hlt).1, by rw [← hy]; exact kp (HC.out j hlt).2⟩, by rw [← hx]; exact kp (HC'.out j hlt).1, by rw [← hy]; exact kp (HC'.out j hlt).2⟩)
    clear bD kp hx hy
    go_wp2
    refine region_K 99 (fun W : World => (W.cell? ⟨b, off + j * 2, none⟩ = some (.int .i64 x) ∧ W.cell? ⟨b, off + j * 2 + 1, none⟩ = some (.int .i64 y)) ∧ W.cell? ⟨b', off' + j * 2, none⟩ = some (.int .i64 x) ∧ W.cell? ⟨b', off' + j * 2 + 1, none⟩ = some (.int .i64 y)) (by kernel_rfl) ?_ (fun hHeld => ?_)
    · exact HS.out
    generalize wo.drew = v0 at *
    refine anyK_take2 (i := 0) (v := ?v0_1) rfl (by kernel_rfl) (by kernel_rfl) (by kernel_rfl) (by rfl) (fun _ _ _ h => h) (by rfl) hHeld ?hy0_1 (some 17) (by rfl) ?rest0_1
    case hy0_1 => (intro W hSw; obtain ⟨⟨x0, x1⟩, y0, y1⟩ := hSw; go_simp; (try with_reducible rfl))
    try simp only [Act.put, List.setIfInBounds_toArray, List.set_cons_succ, List.set_cons_zero]
    refine anyK_take2 (i := 1) (v := ?v1_2) rfl (by kernel_rfl) (by kernel_rfl) (by kernel_rfl) (by rfl) (fun _ _ _ h => h) (by rfl) hHeld ?hy1_2 (some 18) (by rfl) ?rest1_2
    case hy1_2 => (intro W hSw; obtain ⟨⟨x0, x1⟩, y0, y1⟩ := hSw; go_simp; (try with_reducible rfl))
    try simp only [Act.put, List.setIfInBounds_toArray, List.set_cons_succ, List.set_cons_zero]
    refine anyK_take2 (i := 2) (v := ?v2_3) rfl (by kernel_rfl) (by kernel_rfl) (by kernel_rfl) (by rfl) (fun _ _ _ h => h) (by rfl) hHeld ?hy2_3 (some 19) (by rfl) ?rest2_3
    case hy2_3 => (intro W hSw; obtain ⟨⟨x0, x1⟩, y0, y1⟩ := hSw; go_simp; (try with_reducible rfl))
    try simp only [Act.put, List.setIfInBounds_toArray, List.set_cons_succ, List.set_cons_zero]
    refine anyK_take2 (i := 3) (v := ?v3_4) rfl (by kernel_rfl) (by kernel_rfl) (by kernel_rfl) (by rfl) (fun _ _ _ h => h) (by rfl) hHeld ?hy3_4 (some 20) (by rfl) ?rest3_4
    case hy3_4 => (intro W hSw; obtain ⟨⟨x0, x1⟩, y0, y1⟩ := hSw; go_simp; (try with_reducible rfl))
    try simp only [Act.put, List.setIfInBounds_toArray, List.set_cons_succ, List.set_cons_zero]
    refine anyK_take2 (i := 4) (v := ?v4_5) rfl (by kernel_rfl) (by kernel_rfl) (by kernel_rfl) (by rfl) (fun _ _ _ h => h) (by rfl) hHeld ?hy4_5 (some 21) (by rfl) ?rest4_5
    case hy4_5 => (intro W hSw; obtain ⟨⟨x0, x1⟩, y0, y1⟩ := hSw; go_simp; (try with_reducible rfl))
    try simp only [Act.put, List.setIfInBounds_toArray, List.set_cons_succ, List.set_cons_zero]
    refine anyK_take2 (i := 5) (v := ?v5_6) rfl (by kernel_rfl) (by kernel_rfl) (by kernel_rfl) (by rfl) (fun _ _ _ h => h) (by rfl) hHeld ?hy5_6 (some 22) (by rfl) ?rest5_6
    case hy5_6 => (intro W hSw; obtain ⟨⟨x0, x1⟩, y0, y1⟩ := hSw; go_simp; (try with_reducible rfl))
    try simp only [Act.put, List.setIfInBounds_toArray, List.set_cons_succ, List.set_cons_zero]
    refine anyK_take2 (i := 6) (v := ?v6_7) rfl (by kernel_rfl) (by kernel_rfl) (by kernel_rfl) (by rfl) (fun _ _ _ h => h) (by rfl) hHeld ?hy6_7 (some 23) (by rfl) ?rest6_7
    case hy6_7 => (intro W hSw; obtain ⟨⟨x0, x1⟩, y0, y1⟩ := hSw; go_simp; (try with_reducible rfl))
    try simp only [Act.put, List.setIfInBounds_toArray, List.set_cons_succ, List.set_cons_zero]
    refine anyK_take2 (i := 7) (v := ?v7_8) rfl (by kernel_rfl) (by kernel_rfl) (by kernel_rfl) (by rfl) (fun _ _ _ h => h) (by rfl) hHeld ?hy7_8 (some 24) (by rfl) ?rest7_8
    case hy7_8 => (intro W hSw; obtain ⟨⟨x0, x1⟩, y0, y1⟩ := hSw; go_simp; (try with_reducible rfl))
    try simp only [Act.put, List.setIfInBounds_toArray, List.set_cons_succ, List.set_cons_zero]
    refine anyK_step (i := 8) (by kernel_rfl) rfl (fun KP hK => ?_)
    go_simp
    refine (eqA2_one x y _).mono ?_
    rintro e u1 ⟨rfl, bb1⟩
    have HSC := hid (show (fun W : World => (W.cell? ⟨b, off + j * 2, none⟩ = some (.int .i64 x) ∧ W.cell? ⟨b, off + j * 2 + 1, none⟩ = some (.int .i64 y)) ∧ W.cell? ⟨b', off' + j * 2, none⟩ = some (.int .i64 x) ∧ W.cell? ⟨b', off' + j * 2 + 1, none⟩ = some (.int .i64 y)) u1 from by
     have kp : ∀ {p : Addr} {v : Value}, v0.cell? p = some v → u1.cell? p = some v := fun {p v} hc => (bb1.cell (p := p) (World.block_lt_of_cell? _ _ hc)).trans hc
     exact ⟨⟨kp HS.out.1.1, kp HS.out.1.2⟩, kp HS.out.2.1, kp HS.out.2.2⟩)
    have HWE := hid (HWD.out.trans (bb1.mono HWD.out.size))
    clear bb1
    go_wp2_with fail
    clear hHeld
    refine hK.out _ _ HSC.out (fun hHeld => ?_)
    clear hK KP
    try simp only [Act.put, List.setIfInBounds_toArray, List.set_cons_succ, List.set_cons_zero]
    refine anyK_take2 (i := 9) (v := ?v9_9) rfl (by kernel_rfl) (by kernel_rfl) (by kernel_rfl) (by rfl) (fun _ _ _ h => h) (by rfl) hHeld ?hy9_9 (some 26) (by rfl) ?rest9_9
    case hy9_9 => (intro W hSw; obtain ⟨⟨x0, x1⟩, y0, y1⟩ := hSw; go_simp; (try with_reducible rfl))
    try simp only [Act.put, List.setIfInBounds_toArray, List.set_cons_succ, List.set_cons_zero]
    refine anyK_done (by kernel_rfl) ?_ _
    clear hHeld
    go_wp2_with fail
    go_roundw
    case rel => exact ⟨j + 1, by omega, by go_num, HWE⟩
    case measure => simp [intOf]; omega
  · have hlt' : ¬ (j : Int) < (m : Int) := by omega
    go_wp2_with fail
    go_ret
    exact ⟨rfl, HW.out⟩
set_option maxHeartbeats 800000 in
theorem eqA2S_zero (a a' : Option Addr) (c c' : Nat) (w : World) :
 Calls Tryz.prog 20 #[.slice a 0 c, .slice a' 0 c'] w fun e w' => e = .returned (.bool true) ∧ Below w.heap.size w w' := by
 have HB := hid (Below.refl w.heap.size w)
 go_enter Tryz.func20, Tryz.ntmps20
 go_wp2_with fail
 go_loopw [5] (fun s wq => s = .int .i64 (0 : Nat) ∧ wq = w) (fun _ _ => 0)
 case atStart => exact ⟨rfl, rfl⟩
 case round =>
  obtain ⟨rfl, rfl⟩ := hrel
  go_wp2_with fail
  go_ret
  exact ⟨rfl, HB.out⟩
theorem eqA2S {a a' : Option Addr} {m : Nat} (c c' : Nat) {zs : List Int} {w : World} (h : ReadsP w a m zs) (h' : ReadsP w a' m zs) (hm : m ≤ 2097152) :
 Calls Tryz.prog 20 #[.slice a m c, .slice a' m c'] w fun e w' => e = .returned (.bool true) ∧ Below w.heap.size w w' := by
 rcases h.cells with rfl | ⟨b, off, rfl, hc⟩
 · exact eqA2S_zero a a' c c' w
 · rcases h'.cells with rfl | ⟨b', off', rfl, hc'⟩
   · exact eqA2S_zero _ a' c c' w
   · exact eqA2S_pos b off c b' off' c' m zs w hm hc hc'
set_option maxHeartbeats 3200000 in
theorem heldA2S_pos (b off c m : Nat) (k : Int) (w : World) (hm : m ≤ 2097152) (hk0 : 0 ≤ k) (hk1 : k ≤ 1000000000)
 (hc : ∀ i q, i < m → q < 2 → w.cell? ⟨b, off + i * 2 + q, none⟩ = some (.int .i64 (k + ((i * 2 + q : Nat) : Int)))) :
 Calls Tryz.prog 24 #[.slice (some ⟨b, off, none⟩) m c, .int .i64 k] w fun e w' => e = .returned (.int .i64 (k + ((m * 2 : Nat) : Int))) ∧ w' = w := by
 go_enter Tryz.func24, Tryz.ntmps24
 go_wp2_with fail
 go_loopw [1, 5] (fun kk s wr => ∃ j : Nat, j ≤ m ∧ s = .int .i64 j ∧ kk = .int .i64 (k + ((j * 2 : Nat) : Int)) ∧ wr = w) (fun _ s _ => m - (intOf s).toNat)
 case atStart => exact ⟨0, Nat.zero_le _, rfl, by simp, rfl⟩
 case round =>
  obtain ⟨j, hj, rfl, rfl, rfl⟩ := hrel
  by_cases hlt : j < m
  · have hlt' : (j : Int) < (m : Int) := by omega
    have hj0 : (0 : Int) ≤ (j : Int) := by omega
    go_wp2_with fail
    go_loopw [1, 6] (fun kk s wq => ∃ q : Nat, q ≤ 2 ∧ s = .int .i64 q ∧ kk = .int .i64 (k + ((j * 2 + q : Nat) : Int)) ∧ wq = wr) (fun _ s _ => 2 - (intOf s).toNat)
    case atStart => exact ⟨0, by omega, rfl, by simp, rfl⟩
    case round =>
     obtain ⟨q, hq, rfl, rfl, e⟩ := hrel
     subst e
     by_cases hq2 : q < 2
     · have hq' : (q : Int) < 2 := by omega
       have hq0 : (0 : Int) ≤ (q : Int) := by omega
       have h1 := hc j q hlt hq2
       have hne : ∀ z : Int, (z != z) = false := fun z => by simp
       go_wp2_with fail
       go_roundw
       case rel => exact ⟨q + 1, by omega, by go_num, by go_num, by first | trivial | rfl⟩
       case measure => simp [intOf]; omega
     · have hq' : ¬ (q : Int) < 2 := by omega
       obtain rfl : q = 2 := by omega
       go_wp2_with fail
       go_roundw
       case rel => exact ⟨j + 1, by omega, by go_num, by go_num, by first | trivial | rfl⟩
       case measure => simp [intOf]; omega
  · have hlt' : ¬ (j : Int) < (m : Int) := by omega
    obtain rfl : j = m := by omega
    go_wp2_with fail
    go_ret
    exact ⟨rfl, rfl⟩
set_option maxHeartbeats 800000 in
theorem heldA2S_zero (a : Option Addr) (c : Nat) (k : Int) (w : World) :
 Calls Tryz.prog 24 #[.slice a 0 c, .int .i64 k] w fun e w' => e = .returned (.int .i64 k) ∧ w' = w := by
 go_enter Tryz.func24, Tryz.ntmps24
 go_wp2_with fail
 go_loopw [1, 5] (fun kk s wr => s = .int .i64 (0 : Nat) ∧ kk = .int .i64 k ∧ wr = w) (fun _ _ _ => 0)
 case atStart => exact ⟨rfl, rfl, rfl⟩
 case round =>
  obtain ⟨rfl, rfl, rfl⟩ := hrel
  go_wp2_with fail
  go_ret
  exact ⟨rfl, rfl⟩
theorem heldA2S {a : Option Addr} {m : Nat} (c : Nat) (k : Int) {w : World} (h : ReadsP w a m (marksI k (m * 2))) (hm : m ≤ 2097152) (hk0 : 0 ≤ k) (hk1 : k ≤ 1000000000) :
 Calls Tryz.prog 24 #[.slice a m c, .int .i64 k] w fun e w' => e = .returned (.int .i64 (k + ((m * 2 : Nat) : Int))) ∧ w' = w := by
 rcases h.cells with rfl | ⟨b, off, rfl, hc⟩
 · refine (heldA2S_zero a c k w).mono fun e w' ⟨he, hw⟩ => ⟨by rw [he]; simp, hw⟩
 · refine heldA2S_pos b off c m k w hm hk0 hk1 fun i q hi hq => ?_
   have h1 := hc i hi
   rcases (show q = 0 ∨ q = 1 by omega) with rfl | rfl
   · rw [marksI_at k (m * 2) (i * 2) (by omega)] at h1; exact h1.1
   · rw [marksI_at k (m * 2) (i * 2 + 1) (by omega)] at h1; exact h1.2
set_option maxHeartbeats 3200000 in
theorem markA2S_pos (base g m cap : Nat) (k : Int) (xs : List Value) (w : World) (hm : m ≤ 2097152) (hk0 : 0 ≤ k) (hk1 : k ≤ 1000000000)
 (hown : w.ownsRow base 33 2 (.slice (some ⟨g, 0, none⟩) m cap) m xs) :
 Calls Tryz.prog 23 #[.slice (some ⟨g, 0, none⟩) m cap, .int .i64 k] w fun e w' =>
  e = .returned (.int .i64 (k + ((m * 2 : Nat) : Int))) ∧ w'.ownsRow base 33 2 (.slice (some ⟨g, 0, none⟩) m cap) m (ins (marksI k (m * 2))) ∧ w.grownBy w' (some g) := by
 have hxl : xs.length = m * 2 := by have := hown.1; omega
 go_enter Tryz.func23, Tryz.ntmps23
 go_wp2_with fail
 go_loopw [1, 5] (fun kk s wr => ∃ j : Nat, j ≤ m ∧ s = .int .i64 j ∧ kk = .int .i64 (k + ((j * 2 : Nat) : Int)) ∧ Hid (wr.ownsRow base 33 2 (.slice (some ⟨g, 0, none⟩) m cap) m (ins (marksI k (j * 2)) ++ xs.drop (j * 2))) ∧ Hid (w.grownBy wr (some g))) (fun _ s _ => m - (intOf s).toNat)
 case atStart => exact ⟨0, Nat.zero_le _, rfl, by simp, hid (by simpa [marksI, ins] using hown), hid ⟨rfl, rfl, rfl, Nat.le_refl _, fun _ _ _ => rfl⟩⟩
 case round =>
  clear hown
  obtain ⟨j, hj, rfl, rfl, HO, HG⟩ := hrel
  by_cases hlt : j < m
  · have hlt' : (j : Int) < (m : Int) := by omega
    have hj0 : (0 : Int) ≤ (j : Int) := by omega
    go_wp2_with fail
    go_loopw [1, 6] (fun kk s wq => ∃ q : Nat, q ≤ 2 ∧ s = .int .i64 q ∧ kk = .int .i64 (k + ((j * 2 + q : Nat) : Int)) ∧ Hid (wq.ownsRow base 33 2 (.slice (some ⟨g, 0, none⟩) m cap) m (ins (marksI k (j * 2 + q)) ++ xs.drop (j * 2 + q))) ∧ Hid (w.grownBy wq (some g))) (fun _ s _ => 2 - (intOf s).toNat)
    case atStart => exact ⟨0, by omega, rfl, by simp, HO, HG⟩
    case round =>
     clear HO HG
     obtain ⟨q, hq, rfl, rfl, HO, HG⟩ := hrel
     by_cases hq2 : q < 2
     · have hq' : (q : Int) < 2 := by omega
       have hq0 : (0 : Int) ≤ (q : Int) := by omega
       have hcy : ∃ v, wr.cell? ⟨g, j * 2 + q, none⟩ = some v := by
        rw [HO.out.cellAt (j * 2 + q) (by omega)]
        exact ⟨_, List.getElem?_eq_getElem (by simp [ins, marksI]; omega)⟩
       obtain ⟨v, hcy⟩ := hcy
       have hfr : wr.frozen? ⟨g, j * 2 + q, none⟩ = false := HO.out.frozenAt (j * 2 + q)
       have R := HO.out.stored (j * 2 + q) (.int .i64 (k + ((j * 2 + q : Nat) : Int)))
       rw [set_mid _ xs (j * 2 + q) _ (by simp [ins, marksI]) (by omega)] at R
       have R1 := hid R
       clear R HO
       go_wp2_with fail
       go_roundw
       case rel =>
        refine ⟨q + 1, by omega, by go_num, by go_num, hid ?_, hid (grown_trans HG.out R1.out.2)⟩
        rw [← Nat.add_assoc, marksI_succ, ins_append]
        exact R1.out.1
       case measure => simp [intOf]; omega
     · have hq' : ¬ (q : Int) < 2 := by omega
       obtain rfl : q = 2 := by omega
       go_wp2_with fail
       go_roundw
       case rel =>
        refine ⟨j + 1, by omega, by go_num, by go_num, hid ?_, HG⟩
        rw [show (j + 1) * 2 = j * 2 + 2 by omega]
        exact HO.out
       case measure => simp [intOf]; omega
  · have hlt' : ¬ (j : Int) < (m : Int) := by omega
    obtain rfl : j = m := by omega
    go_wp2_with fail
    go_ret
    have h1 := HO.out
    rw [List.drop_eq_nil_of_le (by omega), List.append_nil] at h1
    exact ⟨rfl, h1, HG.out⟩
set_option maxHeartbeats 800000 in
theorem markA2S_zero (a : Option Addr) (c : Nat) (k : Int) (w : World) :
 Calls Tryz.prog 23 #[.slice a 0 c, .int .i64 k] w fun e w' => e = .returned (.int .i64 k) ∧ w' = w := by
 go_enter Tryz.func23, Tryz.ntmps23
 go_wp2_with fail
 go_loopw [1, 5] (fun kk s wr => s = .int .i64 (0 : Nat) ∧ kk = .int .i64 k ∧ wr = w) (fun _ _ _ => 0)
 case atStart => exact ⟨rfl, rfl, rfl⟩
 case round =>
  obtain ⟨rfl, rfl, rfl⟩ := hrel
  go_wp2_with fail
  go_ret
  exact ⟨rfl, rfl⟩
theorem markA2S {base m : Nat} {a : Option Addr} {c : Nat} (k : Int) {xs : List Value} {w : World} (hm : m ≤ 2097152) (hk0 : 0 ≤ k) (hk1 : k ≤ 1000000000)
 (hown : w.ownsRow base 33 2 (.slice a m c) m xs) :
 Calls Tryz.prog 23 #[.slice a m c, .int .i64 k] w fun e w' =>
  e = .returned (.int .i64 (k + ((m * 2 : Nat) : Int))) ∧ w'.ownsRow base 33 2 (.slice a m c) m (ins (marksI k (m * 2))) ∧ w.grownBy w' (Value.ownBlock (.slice a m c)) := by
 rcases hown.2 with ⟨e, hz⟩ | ⟨g, cap, cur, e, _⟩
 · obtain ⟨rfl, rfl, rfl⟩ := Value.slice.inj e
   refine (markA2S_zero none 0 k w).mono fun e w' ⟨he, hw⟩ => ?_
   subst hw
   exact ⟨by rw [he]; simp, by simpa [marksI, ins] using World.ownsRow_nil w' base 33 2, grown_refl _ _⟩
 · obtain ⟨rfl, -, rfl⟩ := Value.slice.inj e
   exact markA2S_pos base g m _ k xs w hm hk0 hk1 hown
end Go.Proofs.YtecdnheopmojfaaGreat
