/- Whether a step is behind an entry. Conditions: at most four entries, texts of at most 2^21 bytes. -/
import Derived.Test.YtphmlndkjgldkaaNe11
namespace Go.Proofs.Ytphmlndkjgldkaa
open Go.RowKit
set_option maxRecDepth 100000
def nullE (x q : En) : Bool := decide (or2 (cmpE x q) (cmpZ x.id q.id) = 0)
theorem null_off {x q : En} (hx : entOk x = true) (hq : entOk q = true) : nullE x q = !offE q x := by
 have h1 := ltE_iff hx hq
 have h2 := ltE_iff hq hx
 have e : nullE x q = true ↔ (¬ ltP x q ∧ ¬ ltP q x) := by
  unfold nullE or2 cmpZ cmpE
  rw [cmpI_of11 x.K x.N q.K q.N x.F q.F x.Z.length q.Z.length x.Z q.Z (entOk_I hx) (entOk_I hq), decide_eq_true_iff]
  have ha := txt_anti11 x.Z q.Z
  unfold ltP
  rw [ha]
  unfold cmp3
  generalize txt x.Z q.Z = t
  generalize frank x.F = r
  generalize frank q.F = s
  repeat' split
  all_goals omega
 rw [Bool.eq_iff_iff, e, Bool.not_eq_true', off_no, ← h1, ← h2, Bool.not_eq_true, Bool.not_eq_true]
set_option maxHeartbeats 6400000 in
theorem impl_isBehind {w0 : World} (KQ NQ : Int) (FQ : Nat) {aq : Option Addr} {zq : Nat} (cq : Nat) (iq : Int) {ZQ : List Int} (hq : Reads w0 aq zq ZQ) (hqq : ZQ.length = zq ∧ FQ < 18446744073709551616 ∧ zq ≤ 2097152) {es : List En} {a : Option Addr} {n c : Nat} {kv : Value} {x : Int} {lf : Bool} {g : Nat} (up : Nat) {w : World} (hr : ReadsE w0 a es) (hn : es.length = n) (hn4 : n ≤ 4) (hm : ∀ j, (es.getD j en0).Z.length ≤ 2097152) (hup : up ≤ n) (hw : Below w0.heap.size w0 w) (hg : w.heap[g]? = some (.cells #[.int .i64 x, .bool lf, .slice a n c, kv] 86)) :
 Calls Try.prog 55 #[.agg #[.pointer (some ⟨g, 0, none⟩), .int .i64 (up : Int)], .agg #[.int .i64 KQ, .int .i64 NQ, .float .f64 FQ, .slice aq zq cq, .int .i64 iq]] w fun e w' => e = .returned (.bool (decide (0 < up) && nullE (es.getD (up - 1) en0) ⟨KQ, NQ, FQ, ZQ, iq⟩)) ∧ Below w.heap.size w w' := by
 have hst := fun w a m => run_store Try.prog w a (.float .f64 FQ) m rfl
 have HB := hid (two w (.cells #[.pointer (some ⟨g, 0, none⟩), .int .i64 (up : Int)] 80) (.cells #[.int .i64 KQ, .int .i64 NQ, .float .f64 FQ, .slice aq zq cq, .int .i64 iq] 35))
 have HRR := hid (two_rows11 w (.cells #[.pointer (some ⟨g, 0, none⟩), .int .i64 (up : Int)] 80) (.cells #[.int .i64 KQ, .int .i64 NQ, .float .f64 FQ, .slice aq zq cq, .int .i64 iq] 35))
 have HW := hid hw
 have HG := hid hg
 have hgl : g < w.heap.size := (Array.getElem?_eq_some_iff.1 hg).1
 have HGl := hid hgl
 have HN := hid hn
 obtain ⟨RES, hres⟩ : ∃ RES, (decide (0 < up) && nullE (es.getD (up - 1) en0) ⟨KQ, NQ, FQ, ZQ, iq⟩) = RES := ⟨_, rfl⟩
 rw [hres]
 have HRes := hid hres
 clear hw hg hgl hn hres
 go_enter Try.func55, Try.ntmps55
 go_wp2_with fail
 generalize (w.alloc (.cells #[.pointer (some ⟨g, 0, none⟩), .int .i64 (up : Int)] 80)).alloc (.cells #[.int .i64 KQ, .int .i64 NQ, .float .f64 FQ, .slice aq zq cq, .int .i64 iq] 35) = V at *
 obtain ⟨p1, hp1⟩ : ∃ p1, w.heap.size + 1 = p1 := ⟨_, rfl⟩
 obtain ⟨p0, hp0⟩ : ∃ p0, w.heap.size = p0 := ⟨_, rfl⟩
 have HP := hid (And.intro hp0 hp1)
 rw [hp1] at HRR
 rw [hp0] at HRR
 try simp only [hp1]
 try simp only [hp0]
 clear hp0 hp1
 have HKp := hid (show ∀ W, Below V.heap.size V W → W.cell? ⟨p0, 0, none⟩ = some (.pointer (some ⟨g, 0, none⟩)) ∧ W.cell? ⟨p0, 1, none⟩ = some (.int .i64 (up : Int)) ∧ W.cell? ⟨p1, 0, none⟩ = some (.int .i64 KQ) ∧ W.cell? ⟨p1, 1, none⟩ = some (.int .i64 NQ) ∧ W.cell? ⟨p1, 2, none⟩ = some (.float .f64 FQ) ∧ W.cell? ⟨p1, 3, none⟩ = some (.slice aq zq cq) ∧ W.cell? ⟨p1, 4, none⟩ = some (.int .i64 iq) ∧ W.cell? ⟨g, 2, none⟩ = some (.slice a n c) from fun W b => by
  have z1 := HGl.out
  have z2 := HP.out
  have z3 := HRR.out.2.2
  have r1 : W.heap[p0]? = _ := (b.block p0 (by omega)).trans HRR.out.1
  have r2 : W.heap[p1]? = _ := (b.block p1 (by omega)).trans HRR.out.2.1
  have r3 : W.heap[g]? = _ := ((HB.out.trans (b.mono HB.out.size)).block g (by omega)).trans HG.out
  exact ⟨by rw [cell_of_row _ _ _ _ _ _ r1]; rfl, by rw [cell_of_row _ _ _ _ _ _ r1]; rfl, by rw [cell_of_row _ _ _ _ _ _ r2]; rfl, by rw [cell_of_row _ _ _ _ _ _ r2]; rfl, by rw [cell_of_row _ _ _ _ _ _ r2]; rfl, by rw [cell_of_row _ _ _ _ _ _ r2]; rfl, by rw [cell_of_row _ _ _ _ _ _ r2]; rfl, by rw [cell_of_row _ _ _ _ _ _ r3]; rfl⟩)
 have BC := hid ((Still.drew V).below V.heap.size)
 cases up with
 | zero =>
  refine region_K 99 (fun W => W.cell? ⟨p0, 0, none⟩ = some (.pointer (some ⟨g, 0, none⟩)) ∧ W.cell? ⟨p0, 1, none⟩ = some (.int .i64 ((0 : Nat) : Int))) (by kernel_rfl) ⟨(HKp.out _ BC.out).1, (HKp.out _ BC.out).2.1⟩ (fun hHeld => ?_)
  generalize V.drew = vd at *
  refine anyK_take2 (i := 0) (v := ?v0_1) rfl (by kernel_rfl) (by kernel_rfl) (by kernel_rfl) (by rfl) (fun _ _ _ h => h) (by rfl) hHeld ?hy0_1 (some 5) (by rfl) ?rest0_1
  case hy0_1 => (intro W hSw; obtain ⟨x0, x1⟩ := hSw; go_simp; (try with_reducible rfl))
  try simp only [Act.put, List.setIfInBounds_toArray, List.set_cons_succ, List.set_cons_zero]
  refine anyK_take2 (i := 1) (v := ?v1_2) rfl (by kernel_rfl) (by kernel_rfl) (by kernel_rfl) (by rfl) (fun _ _ _ h => h) (by rfl) hHeld ?hy1_2 (some 6) (by rfl) ?rest1_2
  case hy1_2 => (intro W hSw; obtain ⟨x0, x1⟩ := hSw; go_simp; (try with_reducible rfl))
  try simp only [Act.put, List.setIfInBounds_toArray, List.set_cons_succ, List.set_cons_zero]
  refine anyK_take2 (i := 2) (v := ?v2_3) rfl (by kernel_rfl) (by kernel_rfl) (by kernel_rfl) (by rfl) (fun _ _ _ h => h) (by rfl) hHeld ?hy2_3 (some 7) (by rfl) ?rest2_3
  case hy2_3 => (intro W hSw; obtain ⟨x0, x1⟩ := hSw; go_simp; (try with_reducible rfl))
  try simp only [Act.put, List.setIfInBounds_toArray, List.set_cons_succ, List.set_cons_zero]
  refine anyK_take2 (i := 3) (v := ?v3_4) rfl (by kernel_rfl) (by kernel_rfl) (by kernel_rfl) (by rfl) (fun _ _ _ h => h) (by rfl) hHeld ?hy3_4 (some 8) (by rfl) ?rest3_4
  case hy3_4 => (intro W hSw; obtain ⟨x0, x1⟩ := hSw; go_simp; (try with_reducible rfl))
  try simp only [Act.put, List.setIfInBounds_toArray, List.set_cons_succ, List.set_cons_zero]
  refine anyK_skip (i := 4) rfl (by kernel_rfl) (by kernel_rfl) (by kernel_rfl) (by kernel_rfl) (fun _ _ _ h => h) (by rfl) hHeld (some 9) (by rfl) ?_
  try simp only [Act.put, List.setIfInBounds_toArray, List.set_cons_succ, List.set_cons_zero]
  refine anyK_skip (i := 5) rfl (by kernel_rfl) (by kernel_rfl) (by kernel_rfl) (by kernel_rfl) (fun _ _ _ h => h) (by rfl) hHeld (some 10) (by rfl) ?_
  try simp only [Act.put, List.setIfInBounds_toArray, List.set_cons_succ, List.set_cons_zero]
  refine anyK_skip (i := 6) rfl (by kernel_rfl) (by kernel_rfl) (by kernel_rfl) (by kernel_rfl) (fun _ _ _ h => h) (by rfl) hHeld (some 11) (by rfl) ?_
  try simp only [Act.put, List.setIfInBounds_toArray, List.set_cons_succ, List.set_cons_zero]
  refine anyK_skip (i := 7) rfl (by kernel_rfl) (by kernel_rfl) (by kernel_rfl) (by kernel_rfl) (fun _ _ _ h => h) (by rfl) hHeld (some 12) (by rfl) ?_
  try simp only [Act.put, List.setIfInBounds_toArray, List.set_cons_succ, List.set_cons_zero]
  refine anyK_skip (i := 8) rfl (by kernel_rfl) (by kernel_rfl) (by kernel_rfl) (by kernel_rfl) (fun _ _ _ h => h) (by rfl) hHeld (some 13) (by rfl) ?_
  try simp only [Act.put, List.setIfInBounds_toArray, List.set_cons_succ, List.set_cons_zero]
  refine anyK_skip (i := 9) rfl (by kernel_rfl) (by kernel_rfl) (by kernel_rfl) (by kernel_rfl) (fun _ _ _ h => h) (by rfl) hHeld (some 14) (by rfl) ?_
  try simp only [Act.put, List.setIfInBounds_toArray, List.set_cons_succ, List.set_cons_zero]
  refine anyK_skip (i := 10) rfl (by kernel_rfl) (by kernel_rfl) (by kernel_rfl) (by kernel_rfl) (fun _ _ _ h => h) (by rfl) hHeld (some 15) (by rfl) ?_
  try simp only [Act.put, List.setIfInBounds_toArray, List.set_cons_succ, List.set_cons_zero]
  refine anyK_skip (i := 11) rfl (by kernel_rfl) (by kernel_rfl) (by kernel_rfl) (by kernel_rfl) (fun _ _ _ h => h) (by rfl) hHeld (some 16) (by rfl) ?_
  try simp only [Act.put, List.setIfInBounds_toArray, List.set_cons_succ, List.set_cons_zero]
  refine anyK_skip (i := 12) rfl (by kernel_rfl) (by kernel_rfl) (by kernel_rfl) (by kernel_rfl) (fun _ _ _ h => h) (by rfl) hHeld (some 17) (by rfl) ?_
  try simp only [Act.put, List.setIfInBounds_toArray, List.set_cons_succ, List.set_cons_zero]
  refine anyK_skip (i := 13) rfl (by kernel_rfl) (by kernel_rfl) (by kernel_rfl) (by kernel_rfl) (fun _ _ _ h => h) (by rfl) hHeld (some 18) (by rfl) ?_
  try simp only [Act.put, List.setIfInBounds_toArray, List.set_cons_succ, List.set_cons_zero]
  refine anyK_skip (i := 14) rfl (by kernel_rfl) (by kernel_rfl) (by kernel_rfl) (by kernel_rfl) (fun _ _ _ h => h) (by rfl) hHeld (some 19) (by rfl) ?_
  try simp only [Act.put, List.setIfInBounds_toArray, List.set_cons_succ, List.set_cons_zero]
  refine anyK_skip (i := 15) rfl (by kernel_rfl) (by kernel_rfl) (by kernel_rfl) (by kernel_rfl) (fun _ _ _ h => h) (by rfl) hHeld (some 20) (by rfl) ?_
  try simp only [Act.put, List.setIfInBounds_toArray, List.set_cons_succ, List.set_cons_zero]
  refine anyK_skip (i := 16) rfl (by kernel_rfl) (by kernel_rfl) (by kernel_rfl) (by kernel_rfl) (fun _ _ _ h => h) (by rfl) hHeld (some 21) (by rfl) ?_
  try simp only [Act.put, List.setIfInBounds_toArray, List.set_cons_succ, List.set_cons_zero]
  refine anyK_take2 (i := 17) (v := ?v17_5) rfl (by kernel_rfl) (by kernel_rfl) (by kernel_rfl) (by rfl) (fun _ _ _ h => h) (by rfl) hHeld ?hy17_5 (some 22) (by rfl) ?rest17_5
  case hy17_5 => (intro W hSw; obtain ⟨x0, x1⟩ := hSw; go_simp; (try with_reducible rfl))
  try simp only [Act.put, List.setIfInBounds_toArray, List.set_cons_succ, List.set_cons_zero]
  refine anyK_take2 (i := 18) (v := ?v18_6) rfl (by kernel_rfl) (by kernel_rfl) (by kernel_rfl) (by rfl) (fun _ _ _ h => h) (by rfl) hHeld ?hy18_6 (some 4) (by rfl) ?rest18_6
  case hy18_6 => (intro W hSw; obtain ⟨x0, x1⟩ := hSw; go_simp; (try with_reducible rfl))
  try simp only [Act.put, List.setIfInBounds_toArray, List.set_cons_succ, List.set_cons_zero]
  refine anyK_done (by kernel_rfl) ?_ _
  clear hHeld
  go_wp2_with fail
  go_ret
  exact ⟨by rw [← HRes.out]; rfl, HB.out.trans (BC.out.mono HB.out.size)⟩
 | succ u =>
  have hul : u < es.length := by have := HN.out; omega
  obtain ⟨b, off, a1, c1, rfl, bx, rz, hfz, hmz, hF⟩ := hr.at hul
  have hz1 := hm u
  replace HRes := hid (show nullE (es.getD u en0) ⟨KQ, NQ, FQ, ZQ, iq⟩ = RES by have := HRes.out; rwa [decide_eq_true (by omega), Bool.true_and, show u + 1 - 1 = u by omega] at this)
  have HU := hid (show u < n by omega)
  obtain ⟨at1, hat⟩ : ∃ at1, u + 1 = at1 := ⟨_, rfl⟩
  rw [hat] at HKp ⊢
  have h0 : (0 : Int) < (at1 : Int) := by omega
  have h0n : 0 < at1 := by omega
  have h0d : decide (0 < at1) = true := decide_eq_true h0n
  have hwr : IntKind.i64.wrap ((at1 : Int) - 1) = (u : Int) := by
   rw [show (at1 : Int) - 1 = (u : Int) by omega]; simp [IntKind.wrap, IntKind.bits, IntKind.signed]; omega
  have hui : (u : Int) < (n : Int) := by omega
  have hu0 : (0 : Int) ≤ (u : Int) := by omega
  generalize es.getD u en0 = ee at *
  obtain ⟨K, N, F, Z, id⟩ := ee
  simp only at bx rz hz1 hF
  obtain ⟨z, hz⟩ : ∃ z, Z.length = z := ⟨_, rfl⟩
  rw [hz] at bx rz hz1
  have HZ := hid hz
  have HRz := hid rz
  have hstF := fun w a m => run_store Try.prog w a (.float .f64 F) m rfl
  have HBx := hid bx
  have HKq := hid (show ∀ W, Below V.heap.size V W → (W.cell? ⟨p0, 0, none⟩ = some (.pointer (some ⟨g, 0, none⟩)) ∧ W.cell? ⟨p0, 1, none⟩ = some (.int .i64 (at1 : Int))) ∧ (W.cell? ⟨p1, 0, none⟩ = some (.int .i64 KQ) ∧ W.cell? ⟨p1, 1, none⟩ = some (.int .i64 NQ) ∧ W.cell? ⟨p1, 2, none⟩ = some (.float .f64 FQ) ∧ W.cell? ⟨p1, 3, none⟩ = some (.slice aq zq cq) ∧ W.cell? ⟨p1, 4, none⟩ = some (.int .i64 iq)) ∧ (W.cell? ⟨g, 2, none⟩ = some (.slice (some ⟨b, off, none⟩) n c)) ∧ W.cell? ⟨b, off + u * 5, none⟩ = some (.int .i64 K) ∧ W.cell? ⟨b, off + u * 5 + 1, none⟩ = some (.int .i64 N) ∧ W.cell? ⟨b, off + u * 5 + 2, none⟩ = some (.float .f64 F) ∧ W.cell? ⟨b, off + u * 5 + 3, none⟩ = some (.slice a1 z c1) ∧ W.cell? ⟨b, off + u * 5 + 4, none⟩ = some (.int .i64 id) from fun W bb => by
   obtain ⟨k0, k1, k2, k3, k4, k5, k6, k7⟩ := HKp.out W bb
   obtain ⟨y0, y1, y2, y3, y4⟩ := HBx.out.below (HW.out.trans ((HB.out.trans (bb.mono HB.out.size)).mono HW.out.size)) (Nat.le_refl _)
   exact ⟨⟨k0, k1⟩, ⟨k2, k3, k4, k5, k6⟩, k7, y0, y1, y2, y3, y4⟩)
  clear bx rz hz hat hmz hfz HKp hul
  refine region_K 99 (fun W => (W.cell? ⟨p0, 0, none⟩ = some (.pointer (some ⟨g, 0, none⟩)) ∧ W.cell? ⟨p0, 1, none⟩ = some (.int .i64 (at1 : Int))) ∧ (W.cell? ⟨p1, 0, none⟩ = some (.int .i64 KQ) ∧ W.cell? ⟨p1, 1, none⟩ = some (.int .i64 NQ) ∧ W.cell? ⟨p1, 2, none⟩ = some (.float .f64 FQ) ∧ W.cell? ⟨p1, 3, none⟩ = some (.slice aq zq cq) ∧ W.cell? ⟨p1, 4, none⟩ = some (.int .i64 iq)) ∧ (W.cell? ⟨g, 2, none⟩ = some (.slice (some ⟨b, off, none⟩) n c)) ∧ W.cell? ⟨b, off + u * 5, none⟩ = some (.int .i64 K) ∧ W.cell? ⟨b, off + u * 5 + 1, none⟩ = some (.int .i64 N) ∧ W.cell? ⟨b, off + u * 5 + 2, none⟩ = some (.float .f64 F) ∧ W.cell? ⟨b, off + u * 5 + 3, none⟩ = some (.slice a1 z c1) ∧ W.cell? ⟨b, off + u * 5 + 4, none⟩ = some (.int .i64 id)) (by kernel_rfl) (HKq.out _ BC.out) (fun hHeld => ?_)
  generalize V.drew = vd at *
  refine anyK_take2 (i := 0) (v := ?v0_7) rfl (by kernel_rfl) (by kernel_rfl) (by kernel_rfl) (by rfl) (fun _ _ _ h => h) (by rfl) hHeld ?hy0_7 (some 5) (by rfl) ?rest0_7
  case hy0_7 => (intro W hSw; obtain ⟨⟨x0, x1⟩, ⟨x2, x3, x4, x5, x6⟩, x7, x8, x9, x10, x11, x12⟩ := hSw; go_simp; (try with_reducible rfl))
  try simp only [Act.put, List.setIfInBounds_toArray, List.set_cons_succ, List.set_cons_zero]
  refine anyK_take2 (i := 1) (v := ?v1_8) rfl (by kernel_rfl) (by kernel_rfl) (by kernel_rfl) (by rfl) (fun _ _ _ h => h) (by rfl) hHeld ?hy1_8 (some 6) (by rfl) ?rest1_8
  case hy1_8 => (intro W hSw; obtain ⟨⟨x0, x1⟩, ⟨x2, x3, x4, x5, x6⟩, x7, x8, x9, x10, x11, x12⟩ := hSw; go_simp; (try with_reducible rfl))
  try simp only [Act.put, List.setIfInBounds_toArray, List.set_cons_succ, List.set_cons_zero]
  refine anyK_take2 (i := 2) (v := ?v2_9) rfl (by kernel_rfl) (by kernel_rfl) (by kernel_rfl) (by rfl) (fun _ _ _ h => h) (by rfl) hHeld ?hy2_9 (some 7) (by rfl) ?rest2_9
  case hy2_9 => (intro W hSw; obtain ⟨⟨x0, x1⟩, ⟨x2, x3, x4, x5, x6⟩, x7, x8, x9, x10, x11, x12⟩ := hSw; go_simp; (try with_reducible rfl))
  try simp only [Act.put, List.setIfInBounds_toArray, List.set_cons_succ, List.set_cons_zero]
  try rw [h0d]
  refine anyK_take2 (i := 3) (v := ?v3_10) rfl (by kernel_rfl) (by kernel_rfl) (by kernel_rfl) (by rfl) (fun _ _ _ h => h) (by rfl) hHeld ?hy3_10 (some 8) (by rfl) ?rest3_10
  case hy3_10 => (intro W hSw; obtain ⟨⟨x0, x1⟩, ⟨x2, x3, x4, x5, x6⟩, x7, x8, x9, x10, x11, x12⟩ := hSw; go_simp; (try with_reducible rfl))
  try simp only [Act.put, List.setIfInBounds_toArray, List.set_cons_succ, List.set_cons_zero]
  refine anyK_take2 (i := 4) (v := ?v4_11) rfl (by kernel_rfl) (by kernel_rfl) (by kernel_rfl) (by rfl) (fun _ _ _ h => h) (by rfl) hHeld ?hy4_11 (some 9) (by rfl) ?rest4_11
  case hy4_11 => (intro W hSw; obtain ⟨⟨x0, x1⟩, ⟨x2, x3, x4, x5, x6⟩, x7, x8, x9, x10, x11, x12⟩ := hSw; go_simp; (try with_reducible rfl))
  try simp only [Act.put, List.setIfInBounds_toArray, List.set_cons_succ, List.set_cons_zero]
  refine anyK_take2 (i := 5) (v := ?v5_12) rfl (by kernel_rfl) (by kernel_rfl) (by kernel_rfl) (by rfl) (fun _ _ _ h => h) (by rfl) hHeld ?hy5_12 (some 10) (by rfl) ?rest5_12
  case hy5_12 => (intro W hSw; obtain ⟨⟨x0, x1⟩, ⟨x2, x3, x4, x5, x6⟩, x7, x8, x9, x10, x11, x12⟩ := hSw; go_simp; (try with_reducible rfl))
  try simp only [Act.put, List.setIfInBounds_toArray, List.set_cons_succ, List.set_cons_zero]
  refine anyK_take2 (i := 6) (v := ?v6_13) rfl (by kernel_rfl) (by kernel_rfl) (by kernel_rfl) (by rfl) (fun _ _ _ h => h) (by rfl) hHeld ?hy6_13 (some 11) (by rfl) ?rest6_13
  case hy6_13 => (intro W hSw; obtain ⟨⟨x0, x1⟩, ⟨x2, x3, x4, x5, x6⟩, x7, x8, x9, x10, x11, x12⟩ := hSw; go_simp; (try with_reducible rfl))
  try simp only [Act.put, List.setIfInBounds_toArray, List.set_cons_succ, List.set_cons_zero]
  refine anyK_take2 (i := 7) (v := ?v7_14) rfl (by kernel_rfl) (by kernel_rfl) (by kernel_rfl) (by rfl) (fun _ _ _ h => h) (by rfl) hHeld ?hy7_14 (some 12) (by rfl) ?rest7_14
  case hy7_14 => (intro W hSw; obtain ⟨⟨x0, x1⟩, ⟨x2, x3, x4, x5, x6⟩, x7, x8, x9, x10, x11, x12⟩ := hSw; go_simp; (try with_reducible rfl))
  try simp only [Act.put, List.setIfInBounds_toArray, List.set_cons_succ, List.set_cons_zero]
  refine anyK_take2 (i := 8) (v := ?v8_15) rfl (by kernel_rfl) (by kernel_rfl) (by kernel_rfl) (by rfl) (fun _ _ _ h => h) (by rfl) hHeld ?hy8_15 (some 13) (by rfl) ?rest8_15
  case hy8_15 => (intro W hSw; obtain ⟨⟨x0, x1⟩, ⟨x2, x3, x4, x5, x6⟩, x7, x8, x9, x10, x11, x12⟩ := hSw; go_simp; (try with_reducible rfl))
  try simp only [Act.put, List.setIfInBounds_toArray, List.set_cons_succ, List.set_cons_zero]
  refine anyK_take2 (i := 9) (v := ?v9_16) rfl (by kernel_rfl) (by kernel_rfl) (by kernel_rfl) (by rfl) (fun _ _ _ h => h) (by rfl) hHeld ?hy9_16 (some 14) (by rfl) ?rest9_16
  case hy9_16 => (intro W hSw; obtain ⟨⟨x0, x1⟩, ⟨x2, x3, x4, x5, x6⟩, x7, x8, x9, x10, x11, x12⟩ := hSw; go_simp; (try with_reducible rfl))
  try simp only [Act.put, List.setIfInBounds_toArray, List.set_cons_succ, List.set_cons_zero]
  refine anyK_take2 (i := 10) (v := ?v10_17) rfl (by kernel_rfl) (by kernel_rfl) (by kernel_rfl) (by rfl) (fun _ _ _ h => h) (by rfl) hHeld ?hy10_17 (some 15) (by rfl) ?rest10_17
  case hy10_17 => (intro W hSw; obtain ⟨⟨x0, x1⟩, ⟨x2, x3, x4, x5, x6⟩, x7, x8, x9, x10, x11, x12⟩ := hSw; go_simp; (try with_reducible rfl))
  try simp only [Act.put, List.setIfInBounds_toArray, List.set_cons_succ, List.set_cons_zero]
  refine anyK_take2 (i := 11) (v := ?v11_18) rfl (by kernel_rfl) (by kernel_rfl) (by kernel_rfl) (by rfl) (fun _ _ _ h => h) (by rfl) hHeld ?hy11_18 (some 16) (by rfl) ?rest11_18
  case hy11_18 => (intro W hSw; obtain ⟨⟨x0, x1⟩, ⟨x2, x3, x4, x5, x6⟩, x7, x8, x9, x10, x11, x12⟩ := hSw; go_simp; (try with_reducible rfl))
  try simp only [Act.put, List.setIfInBounds_toArray, List.set_cons_succ, List.set_cons_zero]
  refine anyK_take2 (i := 12) (v := ?v12_19) rfl (by kernel_rfl) (by kernel_rfl) (by kernel_rfl) (by rfl) (fun _ _ _ h => h) (by rfl) hHeld ?hy12_19 (some 17) (by rfl) ?rest12_19
  case hy12_19 => (intro W hSw; obtain ⟨⟨x0, x1⟩, ⟨x2, x3, x4, x5, x6⟩, x7, x8, x9, x10, x11, x12⟩ := hSw; go_simp; (try with_reducible rfl))
  try simp only [Act.put, List.setIfInBounds_toArray, List.set_cons_succ, List.set_cons_zero]
  refine anyK_take2 (i := 13) (v := ?v13_20) rfl (by kernel_rfl) (by kernel_rfl) (by kernel_rfl) (by rfl) (fun _ _ _ h => h) (by rfl) hHeld ?hy13_20 (some 18) (by rfl) ?rest13_20
  case hy13_20 => (intro W hSw; obtain ⟨⟨x0, x1⟩, ⟨x2, x3, x4, x5, x6⟩, x7, x8, x9, x10, x11, x12⟩ := hSw; go_simp; (try with_reducible rfl))
  try simp only [Act.put, List.setIfInBounds_toArray, List.set_cons_succ, List.set_cons_zero]
  refine anyK_take2 (i := 14) (v := ?v14_21) rfl (by kernel_rfl) (by kernel_rfl) (by kernel_rfl) (by rfl) (fun _ _ _ h => h) (by rfl) hHeld ?hy14_21 (some 19) (by rfl) ?rest14_21
  case hy14_21 => (intro W hSw; obtain ⟨⟨x0, x1⟩, ⟨x2, x3, x4, x5, x6⟩, x7, x8, x9, x10, x11, x12⟩ := hSw; go_simp; (try with_reducible rfl))
  try simp only [Act.put, List.setIfInBounds_toArray, List.set_cons_succ, List.set_cons_zero]
  refine anyK_step (i := 15) (by kernel_rfl) rfl (fun KP hK => ?_)
  go_simp
  have HWv := hid (HW.out.trans ((HB.out.trans (BC.out.mono HB.out.size)).mono HW.out.size))
  refine (impl_compare K N F c1 id KQ NQ FQ cq iq hF hqq.2.1 (HRz.out.below HWv.out (Nat.le_refl _)) (hq.below HWv.out (Nat.le_refl _)) hz1 hqq.2.2).mono ?_
  rintro e v1 ⟨rfl, b1⟩
  replace BC := hid (BC.out.trans (b1.mono BC.out.size))
  have HE := hid (show nullE ⟨K, N, F, Z, id⟩ ⟨KQ, NQ, FQ, ZQ, iq⟩ = decide (or2 (cmpI K N F z Z KQ NQ FQ zq ZQ) (cmpZ id iq) = 0) by unfold nullE cmpE; simp only [HZ.out, hqq.1])
  generalize or2 (cmpI K N F z Z KQ NQ FQ zq ZQ) (cmpZ id iq) = X at *
  clear b1 hHeld HWv
  go_wp2_with fail
  refine hK.out _ _ (HKq.out _ BC.out) (fun hHeld => ?_)
  clear hK KP
  try simp only [Act.put, List.setIfInBounds_toArray, List.set_cons_succ, List.set_cons_zero]
  refine anyK_take2 (i := 16) (v := ?v16_22) rfl (by kernel_rfl) (by kernel_rfl) (by kernel_rfl) (by rfl) (fun _ _ _ h => h) (by rfl) hHeld ?hy16_22 (some 21) (by rfl) ?rest16_22
  case hy16_22 => (intro W hSw; obtain ⟨⟨x0, x1⟩, ⟨x2, x3, x4, x5, x6⟩, x7, x8, x9, x10, x11, x12⟩ := hSw; go_simp; (try with_reducible rfl))
  try simp only [Act.put, List.setIfInBounds_toArray, List.set_cons_succ, List.set_cons_zero]
  refine anyK_take2 (i := 17) (v := ?v17_23) rfl (by kernel_rfl) (by kernel_rfl) (by kernel_rfl) (by rfl) (fun _ _ _ h => h) (by rfl) hHeld ?hy17_23 (some 22) (by rfl) ?rest17_23
  case hy17_23 => (intro W hSw; obtain ⟨⟨x0, x1⟩, ⟨x2, x3, x4, x5, x6⟩, x7, x8, x9, x10, x11, x12⟩ := hSw; go_simp; (try with_reducible rfl))
  try simp only [Act.put, List.setIfInBounds_toArray, List.set_cons_succ, List.set_cons_zero]
  refine anyK_take2 (i := 18) (v := ?v18_24) rfl (by kernel_rfl) (by kernel_rfl) (by kernel_rfl) (by rfl) (fun _ _ _ h => h) (by rfl) hHeld ?hy18_24 (some 4) (by rfl) ?rest18_24
  case hy18_24 => (intro W hSw; obtain ⟨⟨x0, x1⟩, ⟨x2, x3, x4, x5, x6⟩, x7, x8, x9, x10, x11, x12⟩ := hSw; go_simp; (try with_reducible rfl))
  try simp only [Act.put, List.setIfInBounds_toArray, List.set_cons_succ, List.set_cons_zero]
  refine anyK_done (by kernel_rfl) ?_ _
  clear hHeld
  go_wp2_with fail
  go_ret
  exact ⟨by rw [← HRes.out, HE.out]; rfl, HB.out.trans (BC.out.mono HB.out.size)⟩
end Go.Proofs.Ytphmlndkjgldkaa
