/- The edge between two deeds, plain, and the contract of the specification's l14edge. Conditions: texts of at most 2^21 bytes, at most 2^21 reads and writes. -/
import Derived.Test.YtjcjoabblafboaaGreatMgg
namespace Go.Proofs.YtjcjoabblafboaaGreat
open Go.RowKit
set_option maxRecDepth 100000
structure BoxV (w : World) (g : Nat) (xi be en : Int) (x y : Value) : Prop where
 c0 : w.cell? ⟨g, 0, none⟩ = some (.int .i64 xi)
 c1 : w.cell? ⟨g, 1, none⟩ = some (.int .i64 be)
 c2 : w.cell? ⟨g, 2, none⟩ = some (.int .i64 en)
 c3 : w.cell? ⟨g, 3, none⟩ = some x
 c4 : w.cell? ⟨g, 4, none⟩ = some y
theorem BoxV.row {w : World} {g : Nat} {xi be en : Int} {x y : Value} {t : TypeId} (h : w.heap[g]? = some (.cells #[.int .i64 xi, .int .i64 be, .int .i64 en, x, y] t)) : BoxV w g xi be en x y := by
 refine ⟨?_, ?_, ?_, ?_, ?_⟩ <;> (rw [cell_of_row _ _ _ _ _ _ h]; rfl)
theorem BoxV.below {w w' : World} {g : Nat} {xi be en : Int} {x y : Value} (q : BoxV w g xi be en x y) {B : Nat} (hb : Below B w w') (hB : w.heap.size ≤ B) : BoxV w' g xi be en x y := by
 have e := hb.block g (Nat.lt_of_lt_of_le (World.block_lt_of_cell? w _ q.c0) hB)
 exact ⟨(World.cell?_of_block (w := w) (a := ⟨g, 0, none⟩) e).trans q.c0, (World.cell?_of_block (w := w) (a := ⟨g, 1, none⟩) e).trans q.c1, (World.cell?_of_block (w := w) (a := ⟨g, 2, none⟩) e).trans q.c2, (World.cell?_of_block (w := w) (a := ⟨g, 3, none⟩) e).trans q.c3, (World.cell?_of_block (w := w) (a := ⟨g, 4, none⟩) e).trans q.c4⟩
theorem anyI_none {ws : List Im} {p : Im → Bool} (h : ∀ i, i < ws.length → p (ws.getD i im0) = false) : ws.any p = false := by
 rw [List.any_eq_false]
 intro e he
 obtain ⟨i, hi, rfl⟩ := List.getElem_of_mem he
 have := h i hi
 rw [show ws.getD i im0 = ws[i] by simp [List.getD, hi]] at this
 rw [this]; simp
theorem anyI_one {ws : List Im} {p : Im → Bool} {i : Nat} (hi : i < ws.length) (h : p (ws.getD i im0) = true) : ws.any p = true := by
 rw [List.any_eq_true]
 refine ⟨ws[i], List.getElem_mem hi, ?_⟩
 rw [show ws.getD i im0 = ws[i] by simp [List.getD, hi]] at h
 exact h
def edgeB (t u : Tk) : Bool := t.ws.any (fun e => (decide (t.ended < u.ended) && hasM u.ws e) || (decide (t.ended < u.begun) && rdsB u e)) || u.ws.any (fun e => decide (t.begun < u.ended) && rdsB t e)
theorem spec_l14reads_n (t : Tk) (x : Im) {a1 : Option Addr} {n1 : Nat} (c1 : Nat) (y : Value) {ax : Option Addr} {m : Nat} (cx : Nat) {w : World} (hn1 : t.rs.length = n1) (hm : x.Z.length = m) (h : ReadsM w a1 (fl2 t.rs)) (hx : Reads w ax m x.Z) (hfx : x.F < 18446744073709551616) (hnx : m ≤ 2097152) (hs : ∀ i, ((fl2 t.rs).getD i im0).Z.length ≤ 2097152) (hn : n1 ≤ 2097152) :
 Calls Tryz.prog 51 #[ddV t (.slice a1 n1 c1) y, imV x (.slice ax m cx)] w fun e w' => e = .returned (.bool (rdsB t x)) ∧ Below w.heap.size w w' := by
 subst hn1 hm
 exact spec_l14reads t x c1 y cx h hx hfx hnx hs hn
set_option maxHeartbeats 12800000 in
theorem spec_l14edge (t u : Tk) {a1 a2 b1 b2 : Option Addr} {n1 n2 m1 m2 : Nat} (c1 c2 d1 d2 : Nat) {w : World} (r1 : ReadsM w a1 (fl2 t.rs)) (r2 : ReadsM w a2 t.ws) (s1 : ReadsM w b1 (fl2 u.rs)) (s2 : ReadsM w b2 u.ws) (hn1 : t.rs.length = n1) (hn2 : t.ws.length = n2) (hm1 : u.rs.length = m1) (hm2 : u.ws.length = m2) (k1 : n1 ≤ 2097152) (k2 : n2 ≤ 2097152) (k3 : m1 ≤ 2097152) (k4 : m2 ≤ 2097152)
 (hst1 : ∀ i, ((fl2 t.rs).getD i im0).Z.length ≤ 2097152) (hst2 : ∀ i, (t.ws.getD i im0).Z.length ≤ 2097152) (hsu1 : ∀ i, ((fl2 u.rs).getD i im0).Z.length ≤ 2097152) (hsu2 : ∀ i, (u.ws.getD i im0).Z.length ≤ 2097152) :
 Calls Tryz.prog 46 #[ddV t (.slice a1 n1 c1) (.slice a2 n2 c2), ddV u (.slice b1 m1 d1) (.slice b2 m2 d2)] w fun e w' => e = .returned (.bool (edgeB t u)) ∧ Below w.heap.size w w' := by
 obtain ⟨xi, be, en, al, rs, ws, inn, ou⟩ := t
 obtain ⟨xj, bj, ej, al', rs', ws', inn', ou'⟩ := u
 simp only at r1 r2 s1 s2 hn1 hn2 hm1 hm2 hst1 hst2 hsu1 hsu2
 have hB := two w (.cells #[.int .i64 xi, .int .i64 be, .int .i64 en, .slice a1 n1 c1, .slice a2 n2 c2] 68) (.cells #[.int .i64 xj, .int .i64 bj, .int .i64 ej, .slice b1 m1 d1, .slice b2 m2 d2] 68)
 obtain ⟨R1, R2, z⟩ := two_rows13 w (.cells #[.int .i64 xi, .int .i64 be, .int .i64 en, .slice a1 n1 c1, .slice a2 n2 c2] 68) (.cells #[.int .i64 xj, .int .i64 bj, .int .i64 ej, .slice b1 m1 d1, .slice b2 m2 d2] 68)
 have HB := hid hB
 have HX1 := hid (BoxV.row R1)
 have HX2 := hid (BoxV.row R2)
 have HR1 := hid r1
 have HR2 := hid r2
 have HS1 := hid s1
 have HS2 := hid s2
 have HN1 := hid hn1
 have HN2 := hid hn2
 have HM1 := hid hm1
 have HM2 := hid hm2
 obtain ⟨V, hV⟩ : ∃ V, edgeB ⟨xi, be, en, al, rs, ws, inn, ou⟩ ⟨xj, bj, ej, al', rs', ws', inn', ou'⟩ = V := ⟨_, rfl⟩
 rw [hV]
 have HO1 := hid (fun i (hi : i < n2) q => show V = true by rw [← hV]; unfold edgeB; rw [anyI_one (ws := ws) (p := fun e => (decide (en < ej) && hasM ws' e) || (decide (en < bj) && rdsB ⟨xj, bj, ej, al', rs', ws', inn', ou'⟩ e)) (i := i) (by omega) q]; rfl)
 have HO2 := hid (fun i (hi : i < m2) q => show V = true by rw [← hV]; unfold edgeB; rw [anyI_one (ws := ws') (p := fun e => decide (be < ej) && rdsB ⟨xi, be, en, al, rs, ws, inn, ou⟩ e) (i := i) (by omega) q, Bool.or_true])
 have HF := hid (fun (q1 : ∀ i, i < n2 → (fun e => (decide (en < ej) && hasM ws' e) || (decide (en < bj) && rdsB ⟨xj, bj, ej, al', rs', ws', inn', ou'⟩ e)) (ws.getD i im0) = false) (q2 : ∀ i, i < m2 → (fun e => decide (be < ej) && rdsB ⟨xi, be, en, al, rs, ws, inn, ou⟩ e) (ws'.getD i im0) = false) => show V = false by rw [← hV]; unfold edgeB; rw [anyI_none (ws := ws) (p := fun e => (decide (en < ej) && hasM ws' e) || (decide (en < bj) && rdsB ⟨xj, bj, ej, al', rs', ws', inn', ou'⟩ e)) (fun i hi => q1 i (by omega)), anyI_none (ws := ws') (p := fun e => decide (be < ej) && rdsB ⟨xi, be, en, al, rs, ws, inn, ou⟩ e) (fun i hi => q2 i (by omega))]; rfl)
 clear hB R1 R2 z r1 r2 s1 s2 hn1 hn2 hm1 hm2 hV
 go_enter Tryz.func46, Tryz.ntmps46
 go_wp2_with fail
 generalize ((w.alloc (.cells #[.int .i64 xi, .int .i64 be, .int .i64 en, .slice a1 n1 c1, .slice a2 n2 c2] 68)).alloc (.cells #[.int .i64 xj, .int .i64 bj, .int .i64 ej, .slice b1 m1 d1, .slice b2 m2 d2] 68)) = w1 at *
 go_loopw [5] (fun i wr => ∃ k : Nat, k ≤ n2 ∧ i = .int .i64 k ∧ Hid (∀ i, i < k → (fun e => (decide (en < ej) && hasM ws' e) || (decide (en < bj) && rdsB ⟨xj, bj, ej, al', rs', ws', inn', ou'⟩ e)) (ws.getD i im0) = false) ∧ Hid (Below w1.heap.size w1 wr)) (fun i _ => n2 - (intOf i).toNat)
 case atStart => exact ⟨0, Nat.zero_le _, rfl, hid (fun i hi => by omega), hid (Below.refl _ _)⟩
 case round =>
  obtain ⟨k, hk, rfl, HNo, HW⟩ := hrel
  obtain ⟨wo, hwo⟩ : ∃ wo, wo = wr := ⟨_, rfl⟩
  subst hwo
  have z4 := (HX1.out.below HW.out (Nat.le_refl _)).c4
  by_cases hlt : k < n2
  · have hlt' : (k : Int) < (n2 : Int) := by omega
    have hk0 : (0 : Int) ≤ (k : Int) := by omega
    obtain ⟨b, off, p, d, rfl, bx, qx, _, _, hf⟩ := HR2.out.at (k := k) (by have := HN2.out; omega)
    have hz := hst2 k
    have HOne := hid (HO1.out k hlt)
    have HNx := hid (fun (q : (fun e => (decide (en < ej) && hasM ws' e) || (decide (en < bj) && rdsB ⟨xj, bj, ej, al', rs', ws', inn', ou'⟩ e)) (ws.getD k im0) = false) i (hi : i < k + 1) => show (fun e => (decide (en < ej) && hasM ws' e) || (decide (en < bj) && rdsB ⟨xj, bj, ej, al', rs', ws', inn', ou'⟩ e)) (ws.getD i im0) = false from by
     by_cases hc : i < k
     · exact HNo.out i hc
     · have : i = k := by omega
       subst this; exact q)
    generalize ws.getD k im0 = ee at *
    obtain ⟨K, N, F, Z⟩ := ee
    simp only at bx qx hf hz HOne HNx
    obtain ⟨m, hm⟩ : ∃ m, Z.length = m := ⟨_, rfl⟩
    rw [hm] at bx qx hz
    have QX := hid qx
    have HSA := hid (show (fun W => BoxV W w.heap.size xi be en (.slice a1 n1 c1) (.slice (some ⟨b, off, none⟩) n2 c2) ∧ BoxV W (w.heap.size + 1) xj bj ej (.slice b1 m1 d1) (.slice b2 m2 d2) ∧ Box4 W b (off + k * 4) K N F (.slice p m d)) wo from ⟨HX1.out.below HW.out (Nat.le_refl _), HX2.out.below HW.out (Nat.le_refl _), (bx.below HB.out (Nat.le_refl _)).below HW.out (Nat.le_refl _)⟩)
    clear bx qx
    have bD := (Below.refl wo.heap.size wo).drew
    have HSB := hid (show (fun W => BoxV W w.heap.size xi be en (.slice a1 n1 c1) (.slice (some ⟨b, off, none⟩) n2 c2) ∧ BoxV W (w.heap.size + 1) xj bj ej (.slice b1 m1 d1) (.slice b2 m2 d2) ∧ Box4 W b (off + k * 4) K N F (.slice p m d)) wo.drew from ⟨HSA.out.1.below bD (Nat.le_refl _), HSA.out.2.1.below bD (Nat.le_refl _), HSA.out.2.2.below bD (Nat.le_refl _)⟩)
    have HWB := hid (HW.out.trans (bD.mono HW.out.size))
    clear bD
    go_wp2
    refine region_K 99 (fun W => BoxV W w.heap.size xi be en (.slice a1 n1 c1) (.slice (some ⟨b, off, none⟩) n2 c2) ∧ BoxV W (w.heap.size + 1) xj bj ej (.slice b1 m1 d1) (.slice b2 m2 d2) ∧ Box4 W b (off + k * 4) K N F (.slice p m d)) (by kernel_rfl) ?_ (fun hHeld => ?_)
    · exact HSB.out
    generalize wo.drew = v4 at *
    clear z4
    by_cases hA : en < ej
    · skip
      refine anyK_take2 (i := 0) (v := ?v0_1) rfl (by kernel_rfl) (by kernel_rfl) (by kernel_rfl) (by rfl) (fun _ _ _ h => h) (by rfl) hHeld ?hy0_1 (some 14) (by rfl) ?rest0_1
      case hy0_1 => (intro W hSw; obtain ⟨⟨x0, x1, x2, x3, x4⟩, ⟨x5, x6, x7, x8, x9⟩, x10, x11, x12, x13⟩ := hSw; go_simp; (try with_reducible rfl))
      try simp only [Act.put, List.setIfInBounds_toArray, List.set_cons_succ, List.set_cons_zero]
      refine anyK_take2 (i := 1) (v := ?v1_2) rfl (by kernel_rfl) (by kernel_rfl) (by kernel_rfl) (by rfl) (fun _ _ _ h => h) (by rfl) hHeld ?hy1_2 (some 15) (by rfl) ?rest1_2
      case hy1_2 => (intro W hSw; obtain ⟨⟨x0, x1, x2, x3, x4⟩, ⟨x5, x6, x7, x8, x9⟩, x10, x11, x12, x13⟩ := hSw; go_simp; (try with_reducible rfl))
      try simp only [Act.put, List.setIfInBounds_toArray, List.set_cons_succ, List.set_cons_zero]
      refine anyK_take2 (i := 2) (v := ?v2_3) rfl (by kernel_rfl) (by kernel_rfl) (by kernel_rfl) (by rfl) (fun _ _ _ h => h) (by rfl) hHeld ?hy2_3 (some 16) (by rfl) ?rest2_3
      case hy2_3 => (intro W hSw; obtain ⟨⟨x0, x1, x2, x3, x4⟩, ⟨x5, x6, x7, x8, x9⟩, x10, x11, x12, x13⟩ := hSw; go_simp; (try with_reducible rfl))
      try simp only [Act.put, List.setIfInBounds_toArray, List.set_cons_succ, List.set_cons_zero]
      refine anyK_take2 (i := 3) (v := ?v3_4) rfl (by kernel_rfl) (by kernel_rfl) (by kernel_rfl) (by rfl) (fun _ _ _ h => h) (by rfl) hHeld ?hy3_4 (some 17) (by rfl) ?rest3_4
      case hy3_4 => (intro W hSw; obtain ⟨⟨x0, x1, x2, x3, x4⟩, ⟨x5, x6, x7, x8, x9⟩, x10, x11, x12, x13⟩ := hSw; go_simp; (try with_reducible rfl))
      try simp only [Act.put, List.setIfInBounds_toArray, List.set_cons_succ, List.set_cons_zero]
      refine anyK_take2 (i := 4) (v := ?v4_5) rfl (by kernel_rfl) (by kernel_rfl) (by kernel_rfl) (by rfl) (fun _ _ _ h => h) (by rfl) hHeld ?hy4_5 (some 18) (by rfl) ?rest4_5
      case hy4_5 => (intro W hSw; obtain ⟨⟨x0, x1, x2, x3, x4⟩, ⟨x5, x6, x7, x8, x9⟩, x10, x11, x12, x13⟩ := hSw; go_simp; (try with_reducible rfl))
      try simp only [Act.put, List.setIfInBounds_toArray, List.set_cons_succ, List.set_cons_zero]
      refine anyK_take2 (i := 5) (v := ?v5_6) rfl (by kernel_rfl) (by kernel_rfl) (by kernel_rfl) (by rfl) (fun _ _ _ h => h) (by rfl) hHeld ?hy5_6 (some 19) (by rfl) ?rest5_6
      case hy5_6 => (intro W hSw; obtain ⟨⟨x0, x1, x2, x3, x4⟩, ⟨x5, x6, x7, x8, x9⟩, x10, x11, x12, x13⟩ := hSw; go_simp; (try with_reducible rfl))
      try simp only [Act.put, List.setIfInBounds_toArray, List.set_cons_succ, List.set_cons_zero]
      refine anyK_take2 (i := 6) (v := ?v6_7) rfl (by kernel_rfl) (by kernel_rfl) (by kernel_rfl) (by rfl) (fun _ _ _ h => h) (by rfl) hHeld ?hy6_7 (some 20) (by rfl) ?rest6_7
      case hy6_7 => (intro W hSw; obtain ⟨⟨x0, x1, x2, x3, x4⟩, ⟨x5, x6, x7, x8, x9⟩, x10, x11, x12, x13⟩ := hSw; go_simp; (try with_reducible rfl))
      try simp only [Act.put, List.setIfInBounds_toArray, List.set_cons_succ, List.set_cons_zero]
      refine anyK_take2 (i := 7) (v := ?v7_8) rfl (by kernel_rfl) (by kernel_rfl) (by kernel_rfl) (by rfl) (fun _ _ _ h => h) (by rfl) hHeld ?hy7_8 (some 21) (by rfl) ?rest7_8
      case hy7_8 => (intro W hSw; obtain ⟨⟨x0, x1, x2, x3, x4⟩, ⟨x5, x6, x7, x8, x9⟩, x10, x11, x12, x13⟩ := hSw; go_simp; (try with_reducible rfl))
      try simp only [Act.put, List.setIfInBounds_toArray, List.set_cons_succ, List.set_cons_zero]
      refine anyK_take2 (i := 8) (v := ?v8_9) rfl (by kernel_rfl) (by kernel_rfl) (by kernel_rfl) (by rfl) (fun _ _ _ h => h) (by rfl) hHeld ?hy8_9 (some 22) (by rfl) ?rest8_9
      case hy8_9 => (intro W hSw; obtain ⟨⟨x0, x1, x2, x3, x4⟩, ⟨x5, x6, x7, x8, x9⟩, x10, x11, x12, x13⟩ := hSw; go_simp; (try with_reducible rfl))
      try simp only [Act.put, List.setIfInBounds_toArray, List.set_cons_succ, List.set_cons_zero]
      refine anyK_take2 (i := 9) (v := ?v9_10) rfl (by kernel_rfl) (by kernel_rfl) (by kernel_rfl) (by rfl) (fun _ _ _ h => h) (by rfl) hHeld ?hy9_10 (some 23) (by rfl) ?rest9_10
      case hy9_10 => (intro W hSw; obtain ⟨⟨x0, x1, x2, x3, x4⟩, ⟨x5, x6, x7, x8, x9⟩, x10, x11, x12, x13⟩ := hSw; go_simp; (try with_reducible rfl))
      try simp only [Act.put, List.setIfInBounds_toArray, List.set_cons_succ, List.set_cons_zero]
      refine anyK_take2 (i := 10) (v := ?v10_11) rfl (by kernel_rfl) (by kernel_rfl) (by kernel_rfl) (by rfl) (fun _ _ _ h => h) (by rfl) hHeld ?hy10_11 (some 24) (by rfl) ?rest10_11
      case hy10_11 => (intro W hSw; obtain ⟨⟨x0, x1, x2, x3, x4⟩, ⟨x5, x6, x7, x8, x9⟩, x10, x11, x12, x13⟩ := hSw; go_simp; (try with_reducible rfl))
      try simp only [Act.put, List.setIfInBounds_toArray, List.set_cons_succ, List.set_cons_zero]
      refine anyK_take2 (i := 11) (v := ?v11_12) rfl (by kernel_rfl) (by kernel_rfl) (by kernel_rfl) (by rfl) (fun _ _ _ h => h) (by rfl) hHeld ?hy11_12 (some 25) (by rfl) ?rest11_12
      case hy11_12 => (intro W hSw; obtain ⟨⟨x0, x1, x2, x3, x4⟩, ⟨x5, x6, x7, x8, x9⟩, x10, x11, x12, x13⟩ := hSw; go_simp; (try with_reducible rfl))
      try simp only [Act.put, List.setIfInBounds_toArray, List.set_cons_succ, List.set_cons_zero]
      refine anyK_take2 (i := 12) (v := ?v12_13) rfl (by kernel_rfl) (by kernel_rfl) (by kernel_rfl) (by rfl) (fun _ _ _ h => h) (by rfl) hHeld ?hy12_13 (some 26) (by rfl) ?rest12_13
      case hy12_13 => (intro W hSw; obtain ⟨⟨x0, x1, x2, x3, x4⟩, ⟨x5, x6, x7, x8, x9⟩, x10, x11, x12, x13⟩ := hSw; go_simp; (try with_reducible rfl))
      try simp only [Act.put, List.setIfInBounds_toArray, List.set_cons_succ, List.set_cons_zero]
      refine anyK_step (i := 13) (by kernel_rfl) rfl (fun KP hK => ?_)
      go_simp
      refine (spec_l13has d2 d ((HS2.out.below HB.out (Nat.le_refl _)).below HWB.out (Nat.le_refl _)) HM2.out k4 hm ((QX.out.below HB.out (Nat.le_refl _)).below HWB.out (Nat.le_refl _)) hf hz hsu2).mono ?_
      rintro e u4 ⟨rfl, bb1⟩
      have HSC := hid (show (fun W => BoxV W w.heap.size xi be en (.slice a1 n1 c1) (.slice (some ⟨b, off, none⟩) n2 c2) ∧ BoxV W (w.heap.size + 1) xj bj ej (.slice b1 m1 d1) (.slice b2 m2 d2) ∧ Box4 W b (off + k * 4) K N F (.slice p m d)) u4 from ⟨HSB.out.1.below bb1 (Nat.le_refl _), HSB.out.2.1.below bb1 (Nat.le_refl _), HSB.out.2.2.below bb1 (Nat.le_refl _)⟩)
      have HWC := hid (HWB.out.trans (bb1.mono HWB.out.size))
      clear bb1
      obtain ⟨H, hH⟩ : ∃ H, hasM ws' ⟨K, N, F, Z⟩ = H := ⟨_, rfl⟩
      rw [hH]
      have HH := hid hH
      clear hH
      go_wp2_with fail
      clear hHeld
      refine hK.out _ _ HSC.out (fun hHeld => ?_)
      clear hK KP
      try simp only [Act.put, List.setIfInBounds_toArray, List.set_cons_succ, List.set_cons_zero]
      refine anyK_take2 (i := 14) (v := ?v14_14) rfl (by kernel_rfl) (by kernel_rfl) (by kernel_rfl) (by rfl) (fun _ _ _ h => h) (by rfl) hHeld ?hy14_14 (some 28) (by rfl) ?rest14_14
      case hy14_14 => (intro W hSw; obtain ⟨⟨x0, x1, x2, x3, x4⟩, ⟨x5, x6, x7, x8, x9⟩, x10, x11, x12, x13⟩ := hSw; go_simp; (try with_reducible rfl))
      try simp only [Act.put, List.setIfInBounds_toArray, List.set_cons_succ, List.set_cons_zero]
      refine anyK_done (by kernel_rfl) ?_ _
      clear hHeld
      cases H with
      | true =>
       have HT := hid (show V = true from HOne.out (by rw [HH.out, decide_eq_true hA]; rfl))
       have HBF := hid (HB.out.trans (HWC.out.mono HB.out.size))
       go_wp2_with fail
       go_ret
       exact ⟨by rw [HT.out]; rfl, HBF.out⟩
      | false =>
       have hP : (decide (en < ej) && hasM ws' ⟨K, N, F, Z⟩) = false := by rw [HH.out, Bool.and_false]
       clear HH
       have bD := (Below.refl u4.heap.size u4).drew
       have HT6 := hid (show (fun W => BoxV W w.heap.size xi be en (.slice a1 n1 c1) (.slice (some ⟨b, off, none⟩) n2 c2) ∧ BoxV W (w.heap.size + 1) xj bj ej (.slice b1 m1 d1) (.slice b2 m2 d2) ∧ Box4 W b (off + k * 4) K N F (.slice p m d)) u4.drew from ⟨HSC.out.1.below bD (Nat.le_refl _), HSC.out.2.1.below bD (Nat.le_refl _), HSC.out.2.2.below bD (Nat.le_refl _)⟩)
       have HW6 := hid (HWC.out.trans (bD.mono HWC.out.size))
       clear bD
       go_wp2
       refine region_K 99 (fun W => BoxV W w.heap.size xi be en (.slice a1 n1 c1) (.slice (some ⟨b, off, none⟩) n2 c2) ∧ BoxV W (w.heap.size + 1) xj bj ej (.slice b1 m1 d1) (.slice b2 m2 d2) ∧ Box4 W b (off + k * 4) K N F (.slice p m d)) (by kernel_rfl) ?_ (fun hHeld => ?_)
       · exact HT6.out
       generalize u4.drew = v6 at *
       by_cases hC : en < bj
       · skip
         refine anyK_take2 (i := 0) (v := ?v0_15) rfl (by kernel_rfl) (by kernel_rfl) (by kernel_rfl) (by rfl) (fun _ _ _ h => h) (by rfl) hHeld ?hy0_15 (some 29) (by rfl) ?rest0_15
         case hy0_15 => (intro W hSw; obtain ⟨⟨x0, x1, x2, x3, x4⟩, ⟨x5, x6, x7, x8, x9⟩, x10, x11, x12, x13⟩ := hSw; go_simp; (try with_reducible rfl))
         try simp only [Act.put, List.setIfInBounds_toArray, List.set_cons_succ, List.set_cons_zero]
         refine anyK_take2 (i := 1) (v := ?v1_16) rfl (by kernel_rfl) (by kernel_rfl) (by kernel_rfl) (by rfl) (fun _ _ _ h => h) (by rfl) hHeld ?hy1_16 (some 30) (by rfl) ?rest1_16
         case hy1_16 => (intro W hSw; obtain ⟨⟨x0, x1, x2, x3, x4⟩, ⟨x5, x6, x7, x8, x9⟩, x10, x11, x12, x13⟩ := hSw; go_simp; (try with_reducible rfl))
         try simp only [Act.put, List.setIfInBounds_toArray, List.set_cons_succ, List.set_cons_zero]
         refine anyK_take2 (i := 2) (v := ?v2_17) rfl (by kernel_rfl) (by kernel_rfl) (by kernel_rfl) (by rfl) (fun _ _ _ h => h) (by rfl) hHeld ?hy2_17 (some 31) (by rfl) ?rest2_17
         case hy2_17 => (intro W hSw; obtain ⟨⟨x0, x1, x2, x3, x4⟩, ⟨x5, x6, x7, x8, x9⟩, x10, x11, x12, x13⟩ := hSw; go_simp; (try with_reducible rfl))
         try simp only [Act.put, List.setIfInBounds_toArray, List.set_cons_succ, List.set_cons_zero]
         refine anyK_take2 (i := 3) (v := ?v3_18) rfl (by kernel_rfl) (by kernel_rfl) (by kernel_rfl) (by rfl) (fun _ _ _ h => h) (by rfl) hHeld ?hy3_18 (some 32) (by rfl) ?rest3_18
         case hy3_18 => (intro W hSw; obtain ⟨⟨x0, x1, x2, x3, x4⟩, ⟨x5, x6, x7, x8, x9⟩, x10, x11, x12, x13⟩ := hSw; go_simp; (try with_reducible rfl))
         try simp only [Act.put, List.setIfInBounds_toArray, List.set_cons_succ, List.set_cons_zero]
         refine anyK_take2 (i := 4) (v := ?v4_19) rfl (by kernel_rfl) (by kernel_rfl) (by kernel_rfl) (by rfl) (fun _ _ _ h => h) (by rfl) hHeld ?hy4_19 (some 33) (by rfl) ?rest4_19
         case hy4_19 => (intro W hSw; obtain ⟨⟨x0, x1, x2, x3, x4⟩, ⟨x5, x6, x7, x8, x9⟩, x10, x11, x12, x13⟩ := hSw; go_simp; (try with_reducible rfl))
         try simp only [Act.put, List.setIfInBounds_toArray, List.set_cons_succ, List.set_cons_zero]
         refine anyK_take2 (i := 5) (v := ?v5_20) rfl (by kernel_rfl) (by kernel_rfl) (by kernel_rfl) (by rfl) (fun _ _ _ h => h) (by rfl) hHeld ?hy5_20 (some 34) (by rfl) ?rest5_20
         case hy5_20 => (intro W hSw; obtain ⟨⟨x0, x1, x2, x3, x4⟩, ⟨x5, x6, x7, x8, x9⟩, x10, x11, x12, x13⟩ := hSw; go_simp; (try with_reducible rfl))
         try simp only [Act.put, List.setIfInBounds_toArray, List.set_cons_succ, List.set_cons_zero]
         refine anyK_take2 (i := 6) (v := ?v6_21) rfl (by kernel_rfl) (by kernel_rfl) (by kernel_rfl) (by rfl) (fun _ _ _ h => h) (by rfl) hHeld ?hy6_21 (some 35) (by rfl) ?rest6_21
         case hy6_21 => (intro W hSw; obtain ⟨⟨x0, x1, x2, x3, x4⟩, ⟨x5, x6, x7, x8, x9⟩, x10, x11, x12, x13⟩ := hSw; go_simp; (try with_reducible rfl))
         try simp only [Act.put, List.setIfInBounds_toArray, List.set_cons_succ, List.set_cons_zero]
         refine anyK_take2 (i := 7) (v := ?v7_22) rfl (by kernel_rfl) (by kernel_rfl) (by kernel_rfl) (by rfl) (fun _ _ _ h => h) (by rfl) hHeld ?hy7_22 (some 36) (by rfl) ?rest7_22
         case hy7_22 => (intro W hSw; obtain ⟨⟨x0, x1, x2, x3, x4⟩, ⟨x5, x6, x7, x8, x9⟩, x10, x11, x12, x13⟩ := hSw; go_simp; (try with_reducible rfl))
         try simp only [Act.put, List.setIfInBounds_toArray, List.set_cons_succ, List.set_cons_zero]
         refine anyK_take2 (i := 8) (v := ?v8_23) rfl (by kernel_rfl) (by kernel_rfl) (by kernel_rfl) (by rfl) (fun _ _ _ h => h) (by rfl) hHeld ?hy8_23 (some 37) (by rfl) ?rest8_23
         case hy8_23 => (intro W hSw; obtain ⟨⟨x0, x1, x2, x3, x4⟩, ⟨x5, x6, x7, x8, x9⟩, x10, x11, x12, x13⟩ := hSw; go_simp; (try with_reducible rfl))
         try simp only [Act.put, List.setIfInBounds_toArray, List.set_cons_succ, List.set_cons_zero]
         refine anyK_take2 (i := 9) (v := ?v9_24) rfl (by kernel_rfl) (by kernel_rfl) (by kernel_rfl) (by rfl) (fun _ _ _ h => h) (by rfl) hHeld ?hy9_24 (some 38) (by rfl) ?rest9_24
         case hy9_24 => (intro W hSw; obtain ⟨⟨x0, x1, x2, x3, x4⟩, ⟨x5, x6, x7, x8, x9⟩, x10, x11, x12, x13⟩ := hSw; go_simp; (try with_reducible rfl))
         try simp only [Act.put, List.setIfInBounds_toArray, List.set_cons_succ, List.set_cons_zero]
         refine anyK_take2 (i := 10) (v := ?v10_25) rfl (by kernel_rfl) (by kernel_rfl) (by kernel_rfl) (by rfl) (fun _ _ _ h => h) (by rfl) hHeld ?hy10_25 (some 39) (by rfl) ?rest10_25
         case hy10_25 => (intro W hSw; obtain ⟨⟨x0, x1, x2, x3, x4⟩, ⟨x5, x6, x7, x8, x9⟩, x10, x11, x12, x13⟩ := hSw; go_simp; (try with_reducible rfl))
         try simp only [Act.put, List.setIfInBounds_toArray, List.set_cons_succ, List.set_cons_zero]
         refine anyK_take2 (i := 11) (v := ?v11_26) rfl (by kernel_rfl) (by kernel_rfl) (by kernel_rfl) (by rfl) (fun _ _ _ h => h) (by rfl) hHeld ?hy11_26 (some 40) (by rfl) ?rest11_26
         case hy11_26 => (intro W hSw; obtain ⟨⟨x0, x1, x2, x3, x4⟩, ⟨x5, x6, x7, x8, x9⟩, x10, x11, x12, x13⟩ := hSw; go_simp; (try with_reducible rfl))
         try simp only [Act.put, List.setIfInBounds_toArray, List.set_cons_succ, List.set_cons_zero]
         refine anyK_step (i := 12) (by kernel_rfl) rfl (fun KP hK => ?_)
         go_simp
         refine (spec_l14reads_n ⟨xj, bj, ej, al', rs', ws', inn', ou'⟩ ⟨K, N, F, Z⟩ d1 (.slice b2 m2 d2) d HM1.out hm ((HS1.out.below HB.out (Nat.le_refl _)).below HW6.out (Nat.le_refl _)) ((QX.out.below HB.out (Nat.le_refl _)).below HW6.out (Nat.le_refl _)) hf hz hsu1 (by omega)).mono ?_
         rintro e u6 ⟨rfl, bb1⟩
         have HT7 := hid (show (fun W => BoxV W w.heap.size xi be en (.slice a1 n1 c1) (.slice (some ⟨b, off, none⟩) n2 c2) ∧ BoxV W (w.heap.size + 1) xj bj ej (.slice b1 m1 d1) (.slice b2 m2 d2) ∧ Box4 W b (off + k * 4) K N F (.slice p m d)) u6 from ⟨HT6.out.1.below bb1 (Nat.le_refl _), HT6.out.2.1.below bb1 (Nat.le_refl _), HT6.out.2.2.below bb1 (Nat.le_refl _)⟩)
         have HW7 := hid (HW6.out.trans (bb1.mono HW6.out.size))
         clear bb1
         obtain ⟨H, hH⟩ : ∃ H, rdsB ⟨xj, bj, ej, al', rs', ws', inn', ou'⟩ ⟨K, N, F, Z⟩ = H := ⟨_, rfl⟩
         rw [hH]
         have HH := hid hH
         clear hH
         go_wp2_with fail
         clear hHeld
         refine hK.out _ _ HT7.out (fun hHeld => ?_)
         clear hK KP
         try simp only [Act.put, List.setIfInBounds_toArray, List.set_cons_succ, List.set_cons_zero]
         refine anyK_take2 (i := 13) (v := ?v13_27) rfl (by kernel_rfl) (by kernel_rfl) (by kernel_rfl) (by rfl) (fun _ _ _ h => h) (by rfl) hHeld ?hy13_27 (some 42) (by rfl) ?rest13_27
         case hy13_27 => (intro W hSw; obtain ⟨⟨x0, x1, x2, x3, x4⟩, ⟨x5, x6, x7, x8, x9⟩, x10, x11, x12, x13⟩ := hSw; go_simp; (try with_reducible rfl))
         try simp only [Act.put, List.setIfInBounds_toArray, List.set_cons_succ, List.set_cons_zero]
         refine anyK_done (by kernel_rfl) ?_ _
         clear hHeld
         cases H with
         | true =>
          have HT := hid (show V = true from HOne.out (by rw [HH.out, decide_eq_true hC]; simp))
          have HBF := hid (HB.out.trans (HW7.out.mono HB.out.size))
          go_wp2_with fail
          go_ret
          exact ⟨by rw [HT.out]; rfl, HBF.out⟩
         | false =>
          have HN2 := hid (HNx.out (by rw [hP, HH.out, Bool.and_false]; rfl))
          go_wp2_with fail
          go_roundw
          case rel => exact ⟨k + 1, by omega, by go_num, HN2, HW7⟩
          case measure => simp [intOf]; omega
       · skip
         refine anyK_take2 (i := 0) (v := ?v0_28) rfl (by kernel_rfl) (by kernel_rfl) (by kernel_rfl) (by rfl) (fun _ _ _ h => h) (by rfl) hHeld ?hy0_28 (some 29) (by rfl) ?rest0_28
         case hy0_28 => (intro W hSw; obtain ⟨⟨x0, x1, x2, x3, x4⟩, ⟨x5, x6, x7, x8, x9⟩, x10, x11, x12, x13⟩ := hSw; go_simp; (try with_reducible rfl))
         try simp only [Act.put, List.setIfInBounds_toArray, List.set_cons_succ, List.set_cons_zero]
         refine anyK_take2 (i := 1) (v := ?v1_29) rfl (by kernel_rfl) (by kernel_rfl) (by kernel_rfl) (by rfl) (fun _ _ _ h => h) (by rfl) hHeld ?hy1_29 (some 30) (by rfl) ?rest1_29
         case hy1_29 => (intro W hSw; obtain ⟨⟨x0, x1, x2, x3, x4⟩, ⟨x5, x6, x7, x8, x9⟩, x10, x11, x12, x13⟩ := hSw; go_simp; (try with_reducible rfl))
         try simp only [Act.put, List.setIfInBounds_toArray, List.set_cons_succ, List.set_cons_zero]
         refine anyK_take2 (i := 2) (v := ?v2_30) rfl (by kernel_rfl) (by kernel_rfl) (by kernel_rfl) (by rfl) (fun _ _ _ h => h) (by rfl) hHeld ?hy2_30 (some 31) (by rfl) ?rest2_30
         case hy2_30 => (intro W hSw; obtain ⟨⟨x0, x1, x2, x3, x4⟩, ⟨x5, x6, x7, x8, x9⟩, x10, x11, x12, x13⟩ := hSw; go_simp; (try with_reducible rfl))
         try simp only [Act.put, List.setIfInBounds_toArray, List.set_cons_succ, List.set_cons_zero]
         refine anyK_take2 (i := 3) (v := ?v3_31) rfl (by kernel_rfl) (by kernel_rfl) (by kernel_rfl) (by rfl) (fun _ _ _ h => h) (by rfl) hHeld ?hy3_31 (some 32) (by rfl) ?rest3_31
         case hy3_31 => (intro W hSw; obtain ⟨⟨x0, x1, x2, x3, x4⟩, ⟨x5, x6, x7, x8, x9⟩, x10, x11, x12, x13⟩ := hSw; go_simp; (try with_reducible rfl))
         try simp only [Act.put, List.setIfInBounds_toArray, List.set_cons_succ, List.set_cons_zero]
         refine anyK_take2 (i := 4) (v := ?v4_32) rfl (by kernel_rfl) (by kernel_rfl) (by kernel_rfl) (by rfl) (fun _ _ _ h => h) (by rfl) hHeld ?hy4_32 (some 33) (by rfl) ?rest4_32
         case hy4_32 => (intro W hSw; obtain ⟨⟨x0, x1, x2, x3, x4⟩, ⟨x5, x6, x7, x8, x9⟩, x10, x11, x12, x13⟩ := hSw; go_simp; (try with_reducible rfl))
         try simp only [Act.put, List.setIfInBounds_toArray, List.set_cons_succ, List.set_cons_zero]
         refine anyK_take2 (i := 5) (v := ?v5_33) rfl (by kernel_rfl) (by kernel_rfl) (by kernel_rfl) (by rfl) (fun _ _ _ h => h) (by rfl) hHeld ?hy5_33 (some 34) (by rfl) ?rest5_33
         case hy5_33 => (intro W hSw; obtain ⟨⟨x0, x1, x2, x3, x4⟩, ⟨x5, x6, x7, x8, x9⟩, x10, x11, x12, x13⟩ := hSw; go_simp; (try with_reducible rfl))
         try simp only [Act.put, List.setIfInBounds_toArray, List.set_cons_succ, List.set_cons_zero]
         refine anyK_skip (i := 6) rfl (by kernel_rfl) (by kernel_rfl) (by kernel_rfl) (by kernel_rfl) (fun _ _ _ h => h) (by rfl) hHeld (some 35) (by rfl) ?_
         try simp only [Act.put, List.setIfInBounds_toArray, List.set_cons_succ, List.set_cons_zero]
         refine anyK_skip (i := 7) rfl (by kernel_rfl) (by kernel_rfl) (by kernel_rfl) (by kernel_rfl) (fun _ _ _ h => h) (by rfl) hHeld (some 36) (by rfl) ?_
         try simp only [Act.put, List.setIfInBounds_toArray, List.set_cons_succ, List.set_cons_zero]
         refine anyK_skip (i := 8) rfl (by kernel_rfl) (by kernel_rfl) (by kernel_rfl) (by kernel_rfl) (fun _ _ _ h => h) (by rfl) hHeld (some 37) (by rfl) ?_
         try simp only [Act.put, List.setIfInBounds_toArray, List.set_cons_succ, List.set_cons_zero]
         refine anyK_skip (i := 9) rfl (by kernel_rfl) (by kernel_rfl) (by kernel_rfl) (by kernel_rfl) (fun _ _ _ h => h) (by rfl) hHeld (some 38) (by rfl) ?_
         try simp only [Act.put, List.setIfInBounds_toArray, List.set_cons_succ, List.set_cons_zero]
         refine anyK_skip (i := 10) rfl (by kernel_rfl) (by kernel_rfl) (by kernel_rfl) (by kernel_rfl) (fun _ _ _ h => h) (by rfl) hHeld (some 39) (by rfl) ?_
         try simp only [Act.put, List.setIfInBounds_toArray, List.set_cons_succ, List.set_cons_zero]
         refine anyK_skip (i := 11) rfl (by kernel_rfl) (by kernel_rfl) (by kernel_rfl) (by kernel_rfl) (fun _ _ _ h => h) (by rfl) hHeld (some 40) (by rfl) ?_
         try simp only [Act.put, List.setIfInBounds_toArray, List.set_cons_succ, List.set_cons_zero]
         refine anyK_skip (i := 12) rfl (by kernel_rfl) (by kernel_rfl) (by kernel_rfl) (by kernel_rfl) (fun _ _ _ h => h) (by rfl) hHeld (some 41) (by rfl) ?_
         try simp only [Act.put, List.setIfInBounds_toArray, List.set_cons_succ, List.set_cons_zero]
         refine anyK_take2 (i := 13) (v := ?v13_34) rfl (by kernel_rfl) (by kernel_rfl) (by kernel_rfl) (by rfl) (fun _ _ _ h => h) (by rfl) hHeld ?hy13_34 (some 42) (by rfl) ?rest13_34
         case hy13_34 => (intro W hSw; obtain ⟨⟨x0, x1, x2, x3, x4⟩, ⟨x5, x6, x7, x8, x9⟩, x10, x11, x12, x13⟩ := hSw; go_simp; (try with_reducible rfl))
         try simp only [Act.put, List.setIfInBounds_toArray, List.set_cons_succ, List.set_cons_zero]
         refine anyK_done (by kernel_rfl) ?_ _
         clear hHeld
         have HN2 := hid (HNx.out (by rw [hP, decide_eq_false hC]; rfl))
         go_wp2_with fail
         go_roundw
         case rel => exact ⟨k + 1, by omega, by go_num, HN2, HW6⟩
         case measure => simp [intOf]; omega
    · skip
      refine anyK_take2 (i := 0) (v := ?v0_35) rfl (by kernel_rfl) (by kernel_rfl) (by kernel_rfl) (by rfl) (fun _ _ _ h => h) (by rfl) hHeld ?hy0_35 (some 14) (by rfl) ?rest0_35
      case hy0_35 => (intro W hSw; obtain ⟨⟨x0, x1, x2, x3, x4⟩, ⟨x5, x6, x7, x8, x9⟩, x10, x11, x12, x13⟩ := hSw; go_simp; (try with_reducible rfl))
      try simp only [Act.put, List.setIfInBounds_toArray, List.set_cons_succ, List.set_cons_zero]
      refine anyK_take2 (i := 1) (v := ?v1_36) rfl (by kernel_rfl) (by kernel_rfl) (by kernel_rfl) (by rfl) (fun _ _ _ h => h) (by rfl) hHeld ?hy1_36 (some 15) (by rfl) ?rest1_36
      case hy1_36 => (intro W hSw; obtain ⟨⟨x0, x1, x2, x3, x4⟩, ⟨x5, x6, x7, x8, x9⟩, x10, x11, x12, x13⟩ := hSw; go_simp; (try with_reducible rfl))
      try simp only [Act.put, List.setIfInBounds_toArray, List.set_cons_succ, List.set_cons_zero]
      refine anyK_take2 (i := 2) (v := ?v2_37) rfl (by kernel_rfl) (by kernel_rfl) (by kernel_rfl) (by rfl) (fun _ _ _ h => h) (by rfl) hHeld ?hy2_37 (some 16) (by rfl) ?rest2_37
      case hy2_37 => (intro W hSw; obtain ⟨⟨x0, x1, x2, x3, x4⟩, ⟨x5, x6, x7, x8, x9⟩, x10, x11, x12, x13⟩ := hSw; go_simp; (try with_reducible rfl))
      try simp only [Act.put, List.setIfInBounds_toArray, List.set_cons_succ, List.set_cons_zero]
      refine anyK_take2 (i := 3) (v := ?v3_38) rfl (by kernel_rfl) (by kernel_rfl) (by kernel_rfl) (by rfl) (fun _ _ _ h => h) (by rfl) hHeld ?hy3_38 (some 17) (by rfl) ?rest3_38
      case hy3_38 => (intro W hSw; obtain ⟨⟨x0, x1, x2, x3, x4⟩, ⟨x5, x6, x7, x8, x9⟩, x10, x11, x12, x13⟩ := hSw; go_simp; (try with_reducible rfl))
      try simp only [Act.put, List.setIfInBounds_toArray, List.set_cons_succ, List.set_cons_zero]
      refine anyK_take2 (i := 4) (v := ?v4_39) rfl (by kernel_rfl) (by kernel_rfl) (by kernel_rfl) (by rfl) (fun _ _ _ h => h) (by rfl) hHeld ?hy4_39 (some 18) (by rfl) ?rest4_39
      case hy4_39 => (intro W hSw; obtain ⟨⟨x0, x1, x2, x3, x4⟩, ⟨x5, x6, x7, x8, x9⟩, x10, x11, x12, x13⟩ := hSw; go_simp; (try with_reducible rfl))
      try simp only [Act.put, List.setIfInBounds_toArray, List.set_cons_succ, List.set_cons_zero]
      refine anyK_take2 (i := 5) (v := ?v5_40) rfl (by kernel_rfl) (by kernel_rfl) (by kernel_rfl) (by rfl) (fun _ _ _ h => h) (by rfl) hHeld ?hy5_40 (some 19) (by rfl) ?rest5_40
      case hy5_40 => (intro W hSw; obtain ⟨⟨x0, x1, x2, x3, x4⟩, ⟨x5, x6, x7, x8, x9⟩, x10, x11, x12, x13⟩ := hSw; go_simp; (try with_reducible rfl))
      try simp only [Act.put, List.setIfInBounds_toArray, List.set_cons_succ, List.set_cons_zero]
      refine anyK_skip (i := 6) rfl (by kernel_rfl) (by kernel_rfl) (by kernel_rfl) (by kernel_rfl) (fun _ _ _ h => h) (by rfl) hHeld (some 20) (by rfl) ?_
      try simp only [Act.put, List.setIfInBounds_toArray, List.set_cons_succ, List.set_cons_zero]
      refine anyK_skip (i := 7) rfl (by kernel_rfl) (by kernel_rfl) (by kernel_rfl) (by kernel_rfl) (fun _ _ _ h => h) (by rfl) hHeld (some 21) (by rfl) ?_
      try simp only [Act.put, List.setIfInBounds_toArray, List.set_cons_succ, List.set_cons_zero]
      refine anyK_skip (i := 8) rfl (by kernel_rfl) (by kernel_rfl) (by kernel_rfl) (by kernel_rfl) (fun _ _ _ h => h) (by rfl) hHeld (some 22) (by rfl) ?_
      try simp only [Act.put, List.setIfInBounds_toArray, List.set_cons_succ, List.set_cons_zero]
      refine anyK_skip (i := 9) rfl (by kernel_rfl) (by kernel_rfl) (by kernel_rfl) (by kernel_rfl) (fun _ _ _ h => h) (by rfl) hHeld (some 23) (by rfl) ?_
      try simp only [Act.put, List.setIfInBounds_toArray, List.set_cons_succ, List.set_cons_zero]
      refine anyK_skip (i := 10) rfl (by kernel_rfl) (by kernel_rfl) (by kernel_rfl) (by kernel_rfl) (fun _ _ _ h => h) (by rfl) hHeld (some 24) (by rfl) ?_
      try simp only [Act.put, List.setIfInBounds_toArray, List.set_cons_succ, List.set_cons_zero]
      refine anyK_skip (i := 11) rfl (by kernel_rfl) (by kernel_rfl) (by kernel_rfl) (by kernel_rfl) (fun _ _ _ h => h) (by rfl) hHeld (some 25) (by rfl) ?_
      try simp only [Act.put, List.setIfInBounds_toArray, List.set_cons_succ, List.set_cons_zero]
      refine anyK_skip (i := 12) rfl (by kernel_rfl) (by kernel_rfl) (by kernel_rfl) (by kernel_rfl) (fun _ _ _ h => h) (by rfl) hHeld (some 26) (by rfl) ?_
      try simp only [Act.put, List.setIfInBounds_toArray, List.set_cons_succ, List.set_cons_zero]
      refine anyK_skip (i := 13) rfl (by kernel_rfl) (by kernel_rfl) (by kernel_rfl) (by kernel_rfl) (fun _ _ _ h => h) (by rfl) hHeld (some 27) (by rfl) ?_
      try simp only [Act.put, List.setIfInBounds_toArray, List.set_cons_succ, List.set_cons_zero]
      refine anyK_take2 (i := 14) (v := ?v14_41) rfl (by kernel_rfl) (by kernel_rfl) (by kernel_rfl) (by rfl) (fun _ _ _ h => h) (by rfl) hHeld ?hy14_41 (some 28) (by rfl) ?rest14_41
      case hy14_41 => (intro W hSw; obtain ⟨⟨x0, x1, x2, x3, x4⟩, ⟨x5, x6, x7, x8, x9⟩, x10, x11, x12, x13⟩ := hSw; go_simp; (try with_reducible rfl))
      try simp only [Act.put, List.setIfInBounds_toArray, List.set_cons_succ, List.set_cons_zero]
      refine anyK_done (by kernel_rfl) ?_ _
      clear hHeld
      have hP : (decide (en < ej) && hasM ws' ⟨K, N, F, Z⟩) = false := by rw [decide_eq_false hA]; rfl
      have bD := (Below.refl v4.heap.size v4).drew
      have HT6 := hid (show (fun W => BoxV W w.heap.size xi be en (.slice a1 n1 c1) (.slice (some ⟨b, off, none⟩) n2 c2) ∧ BoxV W (w.heap.size + 1) xj bj ej (.slice b1 m1 d1) (.slice b2 m2 d2) ∧ Box4 W b (off + k * 4) K N F (.slice p m d)) v4.drew from ⟨HSB.out.1.below bD (Nat.le_refl _), HSB.out.2.1.below bD (Nat.le_refl _), HSB.out.2.2.below bD (Nat.le_refl _)⟩)
      have HW6 := hid (HWB.out.trans (bD.mono HWB.out.size))
      clear bD
      go_wp2
      refine region_K 99 (fun W => BoxV W w.heap.size xi be en (.slice a1 n1 c1) (.slice (some ⟨b, off, none⟩) n2 c2) ∧ BoxV W (w.heap.size + 1) xj bj ej (.slice b1 m1 d1) (.slice b2 m2 d2) ∧ Box4 W b (off + k * 4) K N F (.slice p m d)) (by kernel_rfl) ?_ (fun hHeld => ?_)
      · exact HT6.out
      generalize v4.drew = v6 at *
      by_cases hC : en < bj
      · skip
        refine anyK_take2 (i := 0) (v := ?v0_42) rfl (by kernel_rfl) (by kernel_rfl) (by kernel_rfl) (by rfl) (fun _ _ _ h => h) (by rfl) hHeld ?hy0_42 (some 29) (by rfl) ?rest0_42
        case hy0_42 => (intro W hSw; obtain ⟨⟨x0, x1, x2, x3, x4⟩, ⟨x5, x6, x7, x8, x9⟩, x10, x11, x12, x13⟩ := hSw; go_simp; (try with_reducible rfl))
        try simp only [Act.put, List.setIfInBounds_toArray, List.set_cons_succ, List.set_cons_zero]
        refine anyK_take2 (i := 1) (v := ?v1_43) rfl (by kernel_rfl) (by kernel_rfl) (by kernel_rfl) (by rfl) (fun _ _ _ h => h) (by rfl) hHeld ?hy1_43 (some 30) (by rfl) ?rest1_43
        case hy1_43 => (intro W hSw; obtain ⟨⟨x0, x1, x2, x3, x4⟩, ⟨x5, x6, x7, x8, x9⟩, x10, x11, x12, x13⟩ := hSw; go_simp; (try with_reducible rfl))
        try simp only [Act.put, List.setIfInBounds_toArray, List.set_cons_succ, List.set_cons_zero]
        refine anyK_take2 (i := 2) (v := ?v2_44) rfl (by kernel_rfl) (by kernel_rfl) (by kernel_rfl) (by rfl) (fun _ _ _ h => h) (by rfl) hHeld ?hy2_44 (some 31) (by rfl) ?rest2_44
        case hy2_44 => (intro W hSw; obtain ⟨⟨x0, x1, x2, x3, x4⟩, ⟨x5, x6, x7, x8, x9⟩, x10, x11, x12, x13⟩ := hSw; go_simp; (try with_reducible rfl))
        try simp only [Act.put, List.setIfInBounds_toArray, List.set_cons_succ, List.set_cons_zero]
        refine anyK_take2 (i := 3) (v := ?v3_45) rfl (by kernel_rfl) (by kernel_rfl) (by kernel_rfl) (by rfl) (fun _ _ _ h => h) (by rfl) hHeld ?hy3_45 (some 32) (by rfl) ?rest3_45
        case hy3_45 => (intro W hSw; obtain ⟨⟨x0, x1, x2, x3, x4⟩, ⟨x5, x6, x7, x8, x9⟩, x10, x11, x12, x13⟩ := hSw; go_simp; (try with_reducible rfl))
        try simp only [Act.put, List.setIfInBounds_toArray, List.set_cons_succ, List.set_cons_zero]
        refine anyK_take2 (i := 4) (v := ?v4_46) rfl (by kernel_rfl) (by kernel_rfl) (by kernel_rfl) (by rfl) (fun _ _ _ h => h) (by rfl) hHeld ?hy4_46 (some 33) (by rfl) ?rest4_46
        case hy4_46 => (intro W hSw; obtain ⟨⟨x0, x1, x2, x3, x4⟩, ⟨x5, x6, x7, x8, x9⟩, x10, x11, x12, x13⟩ := hSw; go_simp; (try with_reducible rfl))
        try simp only [Act.put, List.setIfInBounds_toArray, List.set_cons_succ, List.set_cons_zero]
        refine anyK_take2 (i := 5) (v := ?v5_47) rfl (by kernel_rfl) (by kernel_rfl) (by kernel_rfl) (by rfl) (fun _ _ _ h => h) (by rfl) hHeld ?hy5_47 (some 34) (by rfl) ?rest5_47
        case hy5_47 => (intro W hSw; obtain ⟨⟨x0, x1, x2, x3, x4⟩, ⟨x5, x6, x7, x8, x9⟩, x10, x11, x12, x13⟩ := hSw; go_simp; (try with_reducible rfl))
        try simp only [Act.put, List.setIfInBounds_toArray, List.set_cons_succ, List.set_cons_zero]
        refine anyK_take2 (i := 6) (v := ?v6_48) rfl (by kernel_rfl) (by kernel_rfl) (by kernel_rfl) (by rfl) (fun _ _ _ h => h) (by rfl) hHeld ?hy6_48 (some 35) (by rfl) ?rest6_48
        case hy6_48 => (intro W hSw; obtain ⟨⟨x0, x1, x2, x3, x4⟩, ⟨x5, x6, x7, x8, x9⟩, x10, x11, x12, x13⟩ := hSw; go_simp; (try with_reducible rfl))
        try simp only [Act.put, List.setIfInBounds_toArray, List.set_cons_succ, List.set_cons_zero]
        refine anyK_take2 (i := 7) (v := ?v7_49) rfl (by kernel_rfl) (by kernel_rfl) (by kernel_rfl) (by rfl) (fun _ _ _ h => h) (by rfl) hHeld ?hy7_49 (some 36) (by rfl) ?rest7_49
        case hy7_49 => (intro W hSw; obtain ⟨⟨x0, x1, x2, x3, x4⟩, ⟨x5, x6, x7, x8, x9⟩, x10, x11, x12, x13⟩ := hSw; go_simp; (try with_reducible rfl))
        try simp only [Act.put, List.setIfInBounds_toArray, List.set_cons_succ, List.set_cons_zero]
        refine anyK_take2 (i := 8) (v := ?v8_50) rfl (by kernel_rfl) (by kernel_rfl) (by kernel_rfl) (by rfl) (fun _ _ _ h => h) (by rfl) hHeld ?hy8_50 (some 37) (by rfl) ?rest8_50
        case hy8_50 => (intro W hSw; obtain ⟨⟨x0, x1, x2, x3, x4⟩, ⟨x5, x6, x7, x8, x9⟩, x10, x11, x12, x13⟩ := hSw; go_simp; (try with_reducible rfl))
        try simp only [Act.put, List.setIfInBounds_toArray, List.set_cons_succ, List.set_cons_zero]
        refine anyK_take2 (i := 9) (v := ?v9_51) rfl (by kernel_rfl) (by kernel_rfl) (by kernel_rfl) (by rfl) (fun _ _ _ h => h) (by rfl) hHeld ?hy9_51 (some 38) (by rfl) ?rest9_51
        case hy9_51 => (intro W hSw; obtain ⟨⟨x0, x1, x2, x3, x4⟩, ⟨x5, x6, x7, x8, x9⟩, x10, x11, x12, x13⟩ := hSw; go_simp; (try with_reducible rfl))
        try simp only [Act.put, List.setIfInBounds_toArray, List.set_cons_succ, List.set_cons_zero]
        refine anyK_take2 (i := 10) (v := ?v10_52) rfl (by kernel_rfl) (by kernel_rfl) (by kernel_rfl) (by rfl) (fun _ _ _ h => h) (by rfl) hHeld ?hy10_52 (some 39) (by rfl) ?rest10_52
        case hy10_52 => (intro W hSw; obtain ⟨⟨x0, x1, x2, x3, x4⟩, ⟨x5, x6, x7, x8, x9⟩, x10, x11, x12, x13⟩ := hSw; go_simp; (try with_reducible rfl))
        try simp only [Act.put, List.setIfInBounds_toArray, List.set_cons_succ, List.set_cons_zero]
        refine anyK_take2 (i := 11) (v := ?v11_53) rfl (by kernel_rfl) (by kernel_rfl) (by kernel_rfl) (by rfl) (fun _ _ _ h => h) (by rfl) hHeld ?hy11_53 (some 40) (by rfl) ?rest11_53
        case hy11_53 => (intro W hSw; obtain ⟨⟨x0, x1, x2, x3, x4⟩, ⟨x5, x6, x7, x8, x9⟩, x10, x11, x12, x13⟩ := hSw; go_simp; (try with_reducible rfl))
        try simp only [Act.put, List.setIfInBounds_toArray, List.set_cons_succ, List.set_cons_zero]
        refine anyK_step (i := 12) (by kernel_rfl) rfl (fun KP hK => ?_)
        go_simp
        refine (spec_l14reads_n ⟨xj, bj, ej, al', rs', ws', inn', ou'⟩ ⟨K, N, F, Z⟩ d1 (.slice b2 m2 d2) d HM1.out hm ((HS1.out.below HB.out (Nat.le_refl _)).below HW6.out (Nat.le_refl _)) ((QX.out.below HB.out (Nat.le_refl _)).below HW6.out (Nat.le_refl _)) hf hz hsu1 (by omega)).mono ?_
        rintro e u6 ⟨rfl, bb1⟩
        have HT7 := hid (show (fun W => BoxV W w.heap.size xi be en (.slice a1 n1 c1) (.slice (some ⟨b, off, none⟩) n2 c2) ∧ BoxV W (w.heap.size + 1) xj bj ej (.slice b1 m1 d1) (.slice b2 m2 d2) ∧ Box4 W b (off + k * 4) K N F (.slice p m d)) u6 from ⟨HT6.out.1.below bb1 (Nat.le_refl _), HT6.out.2.1.below bb1 (Nat.le_refl _), HT6.out.2.2.below bb1 (Nat.le_refl _)⟩)
        have HW7 := hid (HW6.out.trans (bb1.mono HW6.out.size))
        clear bb1
        obtain ⟨H, hH⟩ : ∃ H, rdsB ⟨xj, bj, ej, al', rs', ws', inn', ou'⟩ ⟨K, N, F, Z⟩ = H := ⟨_, rfl⟩
        rw [hH]
        have HH := hid hH
        clear hH
        go_wp2_with fail
        clear hHeld
        refine hK.out _ _ HT7.out (fun hHeld => ?_)
        clear hK KP
        try simp only [Act.put, List.setIfInBounds_toArray, List.set_cons_succ, List.set_cons_zero]
        refine anyK_take2 (i := 13) (v := ?v13_54) rfl (by kernel_rfl) (by kernel_rfl) (by kernel_rfl) (by rfl) (fun _ _ _ h => h) (by rfl) hHeld ?hy13_54 (some 42) (by rfl) ?rest13_54
        case hy13_54 => (intro W hSw; obtain ⟨⟨x0, x1, x2, x3, x4⟩, ⟨x5, x6, x7, x8, x9⟩, x10, x11, x12, x13⟩ := hSw; go_simp; (try with_reducible rfl))
        try simp only [Act.put, List.setIfInBounds_toArray, List.set_cons_succ, List.set_cons_zero]
        refine anyK_done (by kernel_rfl) ?_ _
        clear hHeld
        cases H with
        | true =>
         have HT := hid (show V = true from HOne.out (by rw [HH.out, decide_eq_true hC]; simp))
         have HBF := hid (HB.out.trans (HW7.out.mono HB.out.size))
         go_wp2_with fail
         go_ret
         exact ⟨by rw [HT.out]; rfl, HBF.out⟩
        | false =>
         have HN2 := hid (HNx.out (by rw [hP, HH.out, Bool.and_false]; rfl))
         go_wp2_with fail
         go_roundw
         case rel => exact ⟨k + 1, by omega, by go_num, HN2, HW7⟩
         case measure => simp [intOf]; omega
      · skip
        refine anyK_take2 (i := 0) (v := ?v0_55) rfl (by kernel_rfl) (by kernel_rfl) (by kernel_rfl) (by rfl) (fun _ _ _ h => h) (by rfl) hHeld ?hy0_55 (some 29) (by rfl) ?rest0_55
        case hy0_55 => (intro W hSw; obtain ⟨⟨x0, x1, x2, x3, x4⟩, ⟨x5, x6, x7, x8, x9⟩, x10, x11, x12, x13⟩ := hSw; go_simp; (try with_reducible rfl))
        try simp only [Act.put, List.setIfInBounds_toArray, List.set_cons_succ, List.set_cons_zero]
        refine anyK_take2 (i := 1) (v := ?v1_56) rfl (by kernel_rfl) (by kernel_rfl) (by kernel_rfl) (by rfl) (fun _ _ _ h => h) (by rfl) hHeld ?hy1_56 (some 30) (by rfl) ?rest1_56
        case hy1_56 => (intro W hSw; obtain ⟨⟨x0, x1, x2, x3, x4⟩, ⟨x5, x6, x7, x8, x9⟩, x10, x11, x12, x13⟩ := hSw; go_simp; (try with_reducible rfl))
        try simp only [Act.put, List.setIfInBounds_toArray, List.set_cons_succ, List.set_cons_zero]
        refine anyK_take2 (i := 2) (v := ?v2_57) rfl (by kernel_rfl) (by kernel_rfl) (by kernel_rfl) (by rfl) (fun _ _ _ h => h) (by rfl) hHeld ?hy2_57 (some 31) (by rfl) ?rest2_57
        case hy2_57 => (intro W hSw; obtain ⟨⟨x0, x1, x2, x3, x4⟩, ⟨x5, x6, x7, x8, x9⟩, x10, x11, x12, x13⟩ := hSw; go_simp; (try with_reducible rfl))
        try simp only [Act.put, List.setIfInBounds_toArray, List.set_cons_succ, List.set_cons_zero]
        refine anyK_take2 (i := 3) (v := ?v3_58) rfl (by kernel_rfl) (by kernel_rfl) (by kernel_rfl) (by rfl) (fun _ _ _ h => h) (by rfl) hHeld ?hy3_58 (some 32) (by rfl) ?rest3_58
        case hy3_58 => (intro W hSw; obtain ⟨⟨x0, x1, x2, x3, x4⟩, ⟨x5, x6, x7, x8, x9⟩, x10, x11, x12, x13⟩ := hSw; go_simp; (try with_reducible rfl))
        try simp only [Act.put, List.setIfInBounds_toArray, List.set_cons_succ, List.set_cons_zero]
        refine anyK_take2 (i := 4) (v := ?v4_59) rfl (by kernel_rfl) (by kernel_rfl) (by kernel_rfl) (by rfl) (fun _ _ _ h => h) (by rfl) hHeld ?hy4_59 (some 33) (by rfl) ?rest4_59
        case hy4_59 => (intro W hSw; obtain ⟨⟨x0, x1, x2, x3, x4⟩, ⟨x5, x6, x7, x8, x9⟩, x10, x11, x12, x13⟩ := hSw; go_simp; (try with_reducible rfl))
        try simp only [Act.put, List.setIfInBounds_toArray, List.set_cons_succ, List.set_cons_zero]
        refine anyK_take2 (i := 5) (v := ?v5_60) rfl (by kernel_rfl) (by kernel_rfl) (by kernel_rfl) (by rfl) (fun _ _ _ h => h) (by rfl) hHeld ?hy5_60 (some 34) (by rfl) ?rest5_60
        case hy5_60 => (intro W hSw; obtain ⟨⟨x0, x1, x2, x3, x4⟩, ⟨x5, x6, x7, x8, x9⟩, x10, x11, x12, x13⟩ := hSw; go_simp; (try with_reducible rfl))
        try simp only [Act.put, List.setIfInBounds_toArray, List.set_cons_succ, List.set_cons_zero]
        refine anyK_skip (i := 6) rfl (by kernel_rfl) (by kernel_rfl) (by kernel_rfl) (by kernel_rfl) (fun _ _ _ h => h) (by rfl) hHeld (some 35) (by rfl) ?_
        try simp only [Act.put, List.setIfInBounds_toArray, List.set_cons_succ, List.set_cons_zero]
        refine anyK_skip (i := 7) rfl (by kernel_rfl) (by kernel_rfl) (by kernel_rfl) (by kernel_rfl) (fun _ _ _ h => h) (by rfl) hHeld (some 36) (by rfl) ?_
        try simp only [Act.put, List.setIfInBounds_toArray, List.set_cons_succ, List.set_cons_zero]
        refine anyK_skip (i := 8) rfl (by kernel_rfl) (by kernel_rfl) (by kernel_rfl) (by kernel_rfl) (fun _ _ _ h => h) (by rfl) hHeld (some 37) (by rfl) ?_
        try simp only [Act.put, List.setIfInBounds_toArray, List.set_cons_succ, List.set_cons_zero]
        refine anyK_skip (i := 9) rfl (by kernel_rfl) (by kernel_rfl) (by kernel_rfl) (by kernel_rfl) (fun _ _ _ h => h) (by rfl) hHeld (some 38) (by rfl) ?_
        try simp only [Act.put, List.setIfInBounds_toArray, List.set_cons_succ, List.set_cons_zero]
        refine anyK_skip (i := 10) rfl (by kernel_rfl) (by kernel_rfl) (by kernel_rfl) (by kernel_rfl) (fun _ _ _ h => h) (by rfl) hHeld (some 39) (by rfl) ?_
        try simp only [Act.put, List.setIfInBounds_toArray, List.set_cons_succ, List.set_cons_zero]
        refine anyK_skip (i := 11) rfl (by kernel_rfl) (by kernel_rfl) (by kernel_rfl) (by kernel_rfl) (fun _ _ _ h => h) (by rfl) hHeld (some 40) (by rfl) ?_
        try simp only [Act.put, List.setIfInBounds_toArray, List.set_cons_succ, List.set_cons_zero]
        refine anyK_skip (i := 12) rfl (by kernel_rfl) (by kernel_rfl) (by kernel_rfl) (by kernel_rfl) (fun _ _ _ h => h) (by rfl) hHeld (some 41) (by rfl) ?_
        try simp only [Act.put, List.setIfInBounds_toArray, List.set_cons_succ, List.set_cons_zero]
        refine anyK_take2 (i := 13) (v := ?v13_61) rfl (by kernel_rfl) (by kernel_rfl) (by kernel_rfl) (by rfl) (fun _ _ _ h => h) (by rfl) hHeld ?hy13_61 (some 42) (by rfl) ?rest13_61
        case hy13_61 => (intro W hSw; obtain ⟨⟨x0, x1, x2, x3, x4⟩, ⟨x5, x6, x7, x8, x9⟩, x10, x11, x12, x13⟩ := hSw; go_simp; (try with_reducible rfl))
        try simp only [Act.put, List.setIfInBounds_toArray, List.set_cons_succ, List.set_cons_zero]
        refine anyK_done (by kernel_rfl) ?_ _
        clear hHeld
        have HN2 := hid (HNx.out (by rw [hP, decide_eq_false hC]; rfl))
        go_wp2_with fail
        go_roundw
        case rel => exact ⟨k + 1, by omega, by go_num, HN2, HW6⟩
        case measure => simp [intOf]; omega
  · have hlt' : ¬ (k : Int) < (n2 : Int) := by omega
    have HA := hid (fun i (hi : i < n2) => HNo.out i (by omega))
    go_wp2_with fail
    clear z4
    go_loopw [6] (fun i wr => ∃ k : Nat, k ≤ m2 ∧ i = .int .i64 k ∧ Hid (∀ i, i < k → (fun e => decide (be < ej) && rdsB ⟨xi, be, en, al, rs, ws, inn, ou⟩ e) (ws'.getD i im0) = false) ∧ Hid (Below w1.heap.size w1 wr)) (fun i _ => m2 - (intOf i).toNat)
    case atStart => exact ⟨0, Nat.zero_le _, rfl, hid (fun i hi => by omega), HW⟩
    case round =>
     clear HNo HW hlt hlt' hk
     obtain ⟨k, hk, rfl, HNo, HW⟩ := hrel
     have z4 := (HX2.out.below HW.out (Nat.le_refl _)).c4
     by_cases hlt : k < m2
     · have hlt' : (k : Int) < (m2 : Int) := by omega
       have hk0 : (0 : Int) ≤ (k : Int) := by omega
       obtain ⟨b, off, p, d, rfl, bx, qx, _, _, hf⟩ := HS2.out.at (k := k) (by have := HM2.out; omega)
       have hz := hsu2 k
       have HOne := hid (HO2.out k hlt)
       have HNx := hid (fun (q : (fun e => decide (be < ej) && rdsB ⟨xi, be, en, al, rs, ws, inn, ou⟩ e) (ws'.getD k im0) = false) i (hi : i < k + 1) => show (fun e => decide (be < ej) && rdsB ⟨xi, be, en, al, rs, ws, inn, ou⟩ e) (ws'.getD i im0) = false from by
        by_cases hc : i < k
        · exact HNo.out i hc
        · have : i = k := by omega
          subst this; exact q)
       generalize ws'.getD k im0 = ee at *
       obtain ⟨K, N, F, Z⟩ := ee
       simp only at bx qx hf hz HOne HNx
       obtain ⟨m, hm⟩ : ∃ m, Z.length = m := ⟨_, rfl⟩
       rw [hm] at bx qx hz
       have QX := hid qx
       have HSA := hid (show (fun W => BoxV W w.heap.size xi be en (.slice a1 n1 c1) (.slice a2 n2 c2) ∧ BoxV W (w.heap.size + 1) xj bj ej (.slice b1 m1 d1) (.slice (some ⟨b, off, none⟩) m2 d2) ∧ Box4 W b (off + k * 4) K N F (.slice p m d)) wr from ⟨HX1.out.below HW.out (Nat.le_refl _), HX2.out.below HW.out (Nat.le_refl _), (bx.below HB.out (Nat.le_refl _)).below HW.out (Nat.le_refl _)⟩)
       clear bx qx
       have bD := (Below.refl wr.heap.size wr).drew
       have HSB := hid (show (fun W => BoxV W w.heap.size xi be en (.slice a1 n1 c1) (.slice a2 n2 c2) ∧ BoxV W (w.heap.size + 1) xj bj ej (.slice b1 m1 d1) (.slice (some ⟨b, off, none⟩) m2 d2) ∧ Box4 W b (off + k * 4) K N F (.slice p m d)) wr.drew from ⟨HSA.out.1.below bD (Nat.le_refl _), HSA.out.2.1.below bD (Nat.le_refl _), HSA.out.2.2.below bD (Nat.le_refl _)⟩)
       have HWB := hid (HW.out.trans (bD.mono HW.out.size))
       clear bD
       go_wp2
       refine region_K 99 (fun W => BoxV W w.heap.size xi be en (.slice a1 n1 c1) (.slice a2 n2 c2) ∧ BoxV W (w.heap.size + 1) xj bj ej (.slice b1 m1 d1) (.slice (some ⟨b, off, none⟩) m2 d2) ∧ Box4 W b (off + k * 4) K N F (.slice p m d)) (by kernel_rfl) ?_ (fun hHeld => ?_)
       · exact HSB.out
       generalize wr.drew = v4 at *
       clear z4
       by_cases hC : be < ej
       · skip
         refine anyK_take2 (i := 0) (v := ?v0_62) rfl (by kernel_rfl) (by kernel_rfl) (by kernel_rfl) (by rfl) (fun _ _ _ h => h) (by rfl) hHeld ?hy0_62 (some 50) (by rfl) ?rest0_62
         case hy0_62 => (intro W hSw; obtain ⟨⟨x0, x1, x2, x3, x4⟩, ⟨x5, x6, x7, x8, x9⟩, x10, x11, x12, x13⟩ := hSw; go_simp; (try with_reducible rfl))
         try simp only [Act.put, List.setIfInBounds_toArray, List.set_cons_succ, List.set_cons_zero]
         refine anyK_take2 (i := 1) (v := ?v1_63) rfl (by kernel_rfl) (by kernel_rfl) (by kernel_rfl) (by rfl) (fun _ _ _ h => h) (by rfl) hHeld ?hy1_63 (some 51) (by rfl) ?rest1_63
         case hy1_63 => (intro W hSw; obtain ⟨⟨x0, x1, x2, x3, x4⟩, ⟨x5, x6, x7, x8, x9⟩, x10, x11, x12, x13⟩ := hSw; go_simp; (try with_reducible rfl))
         try simp only [Act.put, List.setIfInBounds_toArray, List.set_cons_succ, List.set_cons_zero]
         refine anyK_take2 (i := 2) (v := ?v2_64) rfl (by kernel_rfl) (by kernel_rfl) (by kernel_rfl) (by rfl) (fun _ _ _ h => h) (by rfl) hHeld ?hy2_64 (some 52) (by rfl) ?rest2_64
         case hy2_64 => (intro W hSw; obtain ⟨⟨x0, x1, x2, x3, x4⟩, ⟨x5, x6, x7, x8, x9⟩, x10, x11, x12, x13⟩ := hSw; go_simp; (try with_reducible rfl))
         try simp only [Act.put, List.setIfInBounds_toArray, List.set_cons_succ, List.set_cons_zero]
         refine anyK_take2 (i := 3) (v := ?v3_65) rfl (by kernel_rfl) (by kernel_rfl) (by kernel_rfl) (by rfl) (fun _ _ _ h => h) (by rfl) hHeld ?hy3_65 (some 53) (by rfl) ?rest3_65
         case hy3_65 => (intro W hSw; obtain ⟨⟨x0, x1, x2, x3, x4⟩, ⟨x5, x6, x7, x8, x9⟩, x10, x11, x12, x13⟩ := hSw; go_simp; (try with_reducible rfl))
         try simp only [Act.put, List.setIfInBounds_toArray, List.set_cons_succ, List.set_cons_zero]
         refine anyK_take2 (i := 4) (v := ?v4_66) rfl (by kernel_rfl) (by kernel_rfl) (by kernel_rfl) (by rfl) (fun _ _ _ h => h) (by rfl) hHeld ?hy4_66 (some 54) (by rfl) ?rest4_66
         case hy4_66 => (intro W hSw; obtain ⟨⟨x0, x1, x2, x3, x4⟩, ⟨x5, x6, x7, x8, x9⟩, x10, x11, x12, x13⟩ := hSw; go_simp; (try with_reducible rfl))
         try simp only [Act.put, List.setIfInBounds_toArray, List.set_cons_succ, List.set_cons_zero]
         refine anyK_take2 (i := 5) (v := ?v5_67) rfl (by kernel_rfl) (by kernel_rfl) (by kernel_rfl) (by rfl) (fun _ _ _ h => h) (by rfl) hHeld ?hy5_67 (some 55) (by rfl) ?rest5_67
         case hy5_67 => (intro W hSw; obtain ⟨⟨x0, x1, x2, x3, x4⟩, ⟨x5, x6, x7, x8, x9⟩, x10, x11, x12, x13⟩ := hSw; go_simp; (try with_reducible rfl))
         try simp only [Act.put, List.setIfInBounds_toArray, List.set_cons_succ, List.set_cons_zero]
         refine anyK_take2 (i := 6) (v := ?v6_68) rfl (by kernel_rfl) (by kernel_rfl) (by kernel_rfl) (by rfl) (fun _ _ _ h => h) (by rfl) hHeld ?hy6_68 (some 56) (by rfl) ?rest6_68
         case hy6_68 => (intro W hSw; obtain ⟨⟨x0, x1, x2, x3, x4⟩, ⟨x5, x6, x7, x8, x9⟩, x10, x11, x12, x13⟩ := hSw; go_simp; (try with_reducible rfl))
         try simp only [Act.put, List.setIfInBounds_toArray, List.set_cons_succ, List.set_cons_zero]
         refine anyK_take2 (i := 7) (v := ?v7_69) rfl (by kernel_rfl) (by kernel_rfl) (by kernel_rfl) (by rfl) (fun _ _ _ h => h) (by rfl) hHeld ?hy7_69 (some 57) (by rfl) ?rest7_69
         case hy7_69 => (intro W hSw; obtain ⟨⟨x0, x1, x2, x3, x4⟩, ⟨x5, x6, x7, x8, x9⟩, x10, x11, x12, x13⟩ := hSw; go_simp; (try with_reducible rfl))
         try simp only [Act.put, List.setIfInBounds_toArray, List.set_cons_succ, List.set_cons_zero]
         refine anyK_take2 (i := 8) (v := ?v8_70) rfl (by kernel_rfl) (by kernel_rfl) (by kernel_rfl) (by rfl) (fun _ _ _ h => h) (by rfl) hHeld ?hy8_70 (some 58) (by rfl) ?rest8_70
         case hy8_70 => (intro W hSw; obtain ⟨⟨x0, x1, x2, x3, x4⟩, ⟨x5, x6, x7, x8, x9⟩, x10, x11, x12, x13⟩ := hSw; go_simp; (try with_reducible rfl))
         try simp only [Act.put, List.setIfInBounds_toArray, List.set_cons_succ, List.set_cons_zero]
         refine anyK_take2 (i := 9) (v := ?v9_71) rfl (by kernel_rfl) (by kernel_rfl) (by kernel_rfl) (by rfl) (fun _ _ _ h => h) (by rfl) hHeld ?hy9_71 (some 59) (by rfl) ?rest9_71
         case hy9_71 => (intro W hSw; obtain ⟨⟨x0, x1, x2, x3, x4⟩, ⟨x5, x6, x7, x8, x9⟩, x10, x11, x12, x13⟩ := hSw; go_simp; (try with_reducible rfl))
         try simp only [Act.put, List.setIfInBounds_toArray, List.set_cons_succ, List.set_cons_zero]
         refine anyK_take2 (i := 10) (v := ?v10_72) rfl (by kernel_rfl) (by kernel_rfl) (by kernel_rfl) (by rfl) (fun _ _ _ h => h) (by rfl) hHeld ?hy10_72 (some 60) (by rfl) ?rest10_72
         case hy10_72 => (intro W hSw; obtain ⟨⟨x0, x1, x2, x3, x4⟩, ⟨x5, x6, x7, x8, x9⟩, x10, x11, x12, x13⟩ := hSw; go_simp; (try with_reducible rfl))
         try simp only [Act.put, List.setIfInBounds_toArray, List.set_cons_succ, List.set_cons_zero]
         refine anyK_take2 (i := 11) (v := ?v11_73) rfl (by kernel_rfl) (by kernel_rfl) (by kernel_rfl) (by rfl) (fun _ _ _ h => h) (by rfl) hHeld ?hy11_73 (some 61) (by rfl) ?rest11_73
         case hy11_73 => (intro W hSw; obtain ⟨⟨x0, x1, x2, x3, x4⟩, ⟨x5, x6, x7, x8, x9⟩, x10, x11, x12, x13⟩ := hSw; go_simp; (try with_reducible rfl))
         try simp only [Act.put, List.setIfInBounds_toArray, List.set_cons_succ, List.set_cons_zero]
         refine anyK_step (i := 12) (by kernel_rfl) rfl (fun KP hK => ?_)
         go_simp
         refine (spec_l14reads_n ⟨xi, be, en, al, rs, ws, inn, ou⟩ ⟨K, N, F, Z⟩ c1 (.slice a2 n2 c2) d HN1.out hm ((HR1.out.below HB.out (Nat.le_refl _)).below HWB.out (Nat.le_refl _)) ((QX.out.below HB.out (Nat.le_refl _)).below HWB.out (Nat.le_refl _)) hf hz hst1 (by omega)).mono ?_
         rintro e u4 ⟨rfl, bb1⟩
         have HSC := hid (show (fun W => BoxV W w.heap.size xi be en (.slice a1 n1 c1) (.slice a2 n2 c2) ∧ BoxV W (w.heap.size + 1) xj bj ej (.slice b1 m1 d1) (.slice (some ⟨b, off, none⟩) m2 d2) ∧ Box4 W b (off + k * 4) K N F (.slice p m d)) u4 from ⟨HSB.out.1.below bb1 (Nat.le_refl _), HSB.out.2.1.below bb1 (Nat.le_refl _), HSB.out.2.2.below bb1 (Nat.le_refl _)⟩)
         have HWC := hid (HWB.out.trans (bb1.mono HWB.out.size))
         clear bb1
         obtain ⟨H, hH⟩ : ∃ H, rdsB ⟨xi, be, en, al, rs, ws, inn, ou⟩ ⟨K, N, F, Z⟩ = H := ⟨_, rfl⟩
         rw [hH]
         have HH := hid hH
         clear hH
         go_wp2_with fail
         clear hHeld
         refine hK.out _ _ HSC.out (fun hHeld => ?_)
         clear hK KP
         try simp only [Act.put, List.setIfInBounds_toArray, List.set_cons_succ, List.set_cons_zero]
         refine anyK_take2 (i := 13) (v := ?v13_74) rfl (by kernel_rfl) (by kernel_rfl) (by kernel_rfl) (by rfl) (fun _ _ _ h => h) (by rfl) hHeld ?hy13_74 (some 63) (by rfl) ?rest13_74
         case hy13_74 => (intro W hSw; obtain ⟨⟨x0, x1, x2, x3, x4⟩, ⟨x5, x6, x7, x8, x9⟩, x10, x11, x12, x13⟩ := hSw; go_simp; (try with_reducible rfl))
         try simp only [Act.put, List.setIfInBounds_toArray, List.set_cons_succ, List.set_cons_zero]
         refine anyK_done (by kernel_rfl) ?_ _
         clear hHeld
         cases H with
         | true =>
          have HT := hid (show V = true from HOne.out (by rw [HH.out, decide_eq_true hC]; rfl))
          have HBF := hid (HB.out.trans (HWC.out.mono HB.out.size))
          go_wp2_with fail
          go_ret
          exact ⟨by rw [HT.out]; rfl, HBF.out⟩
         | false =>
          have HN2 := hid (HNx.out (by rw [HH.out, Bool.and_false]))
          go_wp2_with fail
          go_roundw
          case rel => exact ⟨k + 1, by omega, by go_num, HN2, HWC⟩
          case measure => simp [intOf]; omega
       · skip
         refine anyK_take2 (i := 0) (v := ?v0_75) rfl (by kernel_rfl) (by kernel_rfl) (by kernel_rfl) (by rfl) (fun _ _ _ h => h) (by rfl) hHeld ?hy0_75 (some 50) (by rfl) ?rest0_75
         case hy0_75 => (intro W hSw; obtain ⟨⟨x0, x1, x2, x3, x4⟩, ⟨x5, x6, x7, x8, x9⟩, x10, x11, x12, x13⟩ := hSw; go_simp; (try with_reducible rfl))
         try simp only [Act.put, List.setIfInBounds_toArray, List.set_cons_succ, List.set_cons_zero]
         refine anyK_take2 (i := 1) (v := ?v1_76) rfl (by kernel_rfl) (by kernel_rfl) (by kernel_rfl) (by rfl) (fun _ _ _ h => h) (by rfl) hHeld ?hy1_76 (some 51) (by rfl) ?rest1_76
         case hy1_76 => (intro W hSw; obtain ⟨⟨x0, x1, x2, x3, x4⟩, ⟨x5, x6, x7, x8, x9⟩, x10, x11, x12, x13⟩ := hSw; go_simp; (try with_reducible rfl))
         try simp only [Act.put, List.setIfInBounds_toArray, List.set_cons_succ, List.set_cons_zero]
         refine anyK_take2 (i := 2) (v := ?v2_77) rfl (by kernel_rfl) (by kernel_rfl) (by kernel_rfl) (by rfl) (fun _ _ _ h => h) (by rfl) hHeld ?hy2_77 (some 52) (by rfl) ?rest2_77
         case hy2_77 => (intro W hSw; obtain ⟨⟨x0, x1, x2, x3, x4⟩, ⟨x5, x6, x7, x8, x9⟩, x10, x11, x12, x13⟩ := hSw; go_simp; (try with_reducible rfl))
         try simp only [Act.put, List.setIfInBounds_toArray, List.set_cons_succ, List.set_cons_zero]
         refine anyK_take2 (i := 3) (v := ?v3_78) rfl (by kernel_rfl) (by kernel_rfl) (by kernel_rfl) (by rfl) (fun _ _ _ h => h) (by rfl) hHeld ?hy3_78 (some 53) (by rfl) ?rest3_78
         case hy3_78 => (intro W hSw; obtain ⟨⟨x0, x1, x2, x3, x4⟩, ⟨x5, x6, x7, x8, x9⟩, x10, x11, x12, x13⟩ := hSw; go_simp; (try with_reducible rfl))
         try simp only [Act.put, List.setIfInBounds_toArray, List.set_cons_succ, List.set_cons_zero]
         refine anyK_take2 (i := 4) (v := ?v4_79) rfl (by kernel_rfl) (by kernel_rfl) (by kernel_rfl) (by rfl) (fun _ _ _ h => h) (by rfl) hHeld ?hy4_79 (some 54) (by rfl) ?rest4_79
         case hy4_79 => (intro W hSw; obtain ⟨⟨x0, x1, x2, x3, x4⟩, ⟨x5, x6, x7, x8, x9⟩, x10, x11, x12, x13⟩ := hSw; go_simp; (try with_reducible rfl))
         try simp only [Act.put, List.setIfInBounds_toArray, List.set_cons_succ, List.set_cons_zero]
         refine anyK_take2 (i := 5) (v := ?v5_80) rfl (by kernel_rfl) (by kernel_rfl) (by kernel_rfl) (by rfl) (fun _ _ _ h => h) (by rfl) hHeld ?hy5_80 (some 55) (by rfl) ?rest5_80
         case hy5_80 => (intro W hSw; obtain ⟨⟨x0, x1, x2, x3, x4⟩, ⟨x5, x6, x7, x8, x9⟩, x10, x11, x12, x13⟩ := hSw; go_simp; (try with_reducible rfl))
         try simp only [Act.put, List.setIfInBounds_toArray, List.set_cons_succ, List.set_cons_zero]
         refine anyK_skip (i := 6) rfl (by kernel_rfl) (by kernel_rfl) (by kernel_rfl) (by kernel_rfl) (fun _ _ _ h => h) (by rfl) hHeld (some 56) (by rfl) ?_
         try simp only [Act.put, List.setIfInBounds_toArray, List.set_cons_succ, List.set_cons_zero]
         refine anyK_skip (i := 7) rfl (by kernel_rfl) (by kernel_rfl) (by kernel_rfl) (by kernel_rfl) (fun _ _ _ h => h) (by rfl) hHeld (some 57) (by rfl) ?_
         try simp only [Act.put, List.setIfInBounds_toArray, List.set_cons_succ, List.set_cons_zero]
         refine anyK_skip (i := 8) rfl (by kernel_rfl) (by kernel_rfl) (by kernel_rfl) (by kernel_rfl) (fun _ _ _ h => h) (by rfl) hHeld (some 58) (by rfl) ?_
         try simp only [Act.put, List.setIfInBounds_toArray, List.set_cons_succ, List.set_cons_zero]
         refine anyK_skip (i := 9) rfl (by kernel_rfl) (by kernel_rfl) (by kernel_rfl) (by kernel_rfl) (fun _ _ _ h => h) (by rfl) hHeld (some 59) (by rfl) ?_
         try simp only [Act.put, List.setIfInBounds_toArray, List.set_cons_succ, List.set_cons_zero]
         refine anyK_skip (i := 10) rfl (by kernel_rfl) (by kernel_rfl) (by kernel_rfl) (by kernel_rfl) (fun _ _ _ h => h) (by rfl) hHeld (some 60) (by rfl) ?_
         try simp only [Act.put, List.setIfInBounds_toArray, List.set_cons_succ, List.set_cons_zero]
         refine anyK_skip (i := 11) rfl (by kernel_rfl) (by kernel_rfl) (by kernel_rfl) (by kernel_rfl) (fun _ _ _ h => h) (by rfl) hHeld (some 61) (by rfl) ?_
         try simp only [Act.put, List.setIfInBounds_toArray, List.set_cons_succ, List.set_cons_zero]
         refine anyK_skip (i := 12) rfl (by kernel_rfl) (by kernel_rfl) (by kernel_rfl) (by kernel_rfl) (fun _ _ _ h => h) (by rfl) hHeld (some 62) (by rfl) ?_
         try simp only [Act.put, List.setIfInBounds_toArray, List.set_cons_succ, List.set_cons_zero]
         refine anyK_take2 (i := 13) (v := ?v13_81) rfl (by kernel_rfl) (by kernel_rfl) (by kernel_rfl) (by rfl) (fun _ _ _ h => h) (by rfl) hHeld ?hy13_81 (some 63) (by rfl) ?rest13_81
         case hy13_81 => (intro W hSw; obtain ⟨⟨x0, x1, x2, x3, x4⟩, ⟨x5, x6, x7, x8, x9⟩, x10, x11, x12, x13⟩ := hSw; go_simp; (try with_reducible rfl))
         try simp only [Act.put, List.setIfInBounds_toArray, List.set_cons_succ, List.set_cons_zero]
         refine anyK_done (by kernel_rfl) ?_ _
         clear hHeld
         have HN2 := hid (HNx.out (by rw [decide_eq_false hC]; rfl))
         go_wp2_with fail
         go_roundw
         case rel => exact ⟨k + 1, by omega, by go_num, HN2, HWB⟩
         case measure => simp [intOf]; omega
     · have hlt' : ¬ (k : Int) < (m2 : Int) := by omega
       have HT := hid (HF.out HA.out (fun i hi => HNo.out i (by omega)))
       have HBF := hid (HB.out.trans (HW.out.mono HB.out.size))
       go_wp2_with fail
       go_ret
       exact ⟨by rw [HT.out]; rfl, HBF.out⟩
end Go.Proofs.YtjcjoabblafboaaGreat
