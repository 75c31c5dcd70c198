/- The contract of the specification's l14behind, with its plain meaning. Conditions: texts of at most 2^21 bytes. -/
import Derived.Test.YtjcjoabblafboaaGreatMgj
import Derived.Test.YtjcjoabblafboaaGreatMgg
namespace Go.Proofs.YtjcjoabblafboaaGreat
open Go.RowKit
set_option maxRecDepth 100000
def bhF (ts : List Tk) (d : Nat) (x : Im) (best : Int) (i : Nat) : Int := if i ≠ d ∧ hasM (ts.getD i tk0).ws x = true ∧ (ts.getD i tk0).ended < (ts.getD d tk0).begun ∧ (best < 0 ∨ (ts.getD best.toNat tk0).ended < (ts.getD i tk0).ended) then (i : Int) else best
def bhL (ts : List Tk) (d : Nat) (x : Im) (k : Nat) : Int := (List.range k).foldl (bhF ts d x) (-1)
theorem bhL_succ (ts : List Tk) (d : Nat) (x : Im) (k : Nat) : bhL ts d x (k + 1) = bhF ts d x (bhL ts d x k) k := by
 unfold bhL
 rw [List.range_succ, List.foldl_append]; rfl
theorem bhL_or (ts : List Tk) (d : Nat) (x : Im) : ∀ k, bhL ts d x k = -1 ∨ ∃ q : Nat, bhL ts d x k = (q : Int) ∧ q < k
 | 0 => .inl rfl
 | k + 1 => by
  rw [bhL_succ]
  unfold bhF
  split
  · exact .inr ⟨k, rfl, by omega⟩
  · rcases bhL_or ts d x k with h | ⟨q, h, hq⟩
    · exact .inl h
    · exact .inr ⟨q, h, by omega⟩
set_option maxHeartbeats 25600000 in
theorem spec_l14behind {a : Option Addr} {n : Nat} (c : Nat) {ts : List Tk} (d : Nat) (K N : Int) (F : Nat) {p : Option Addr} {m : Nat} (c0 : Nat) {Z : List Int} {w : World} (h : ReadsV w a ts) (hl : ts.length = n) (hn : n ≤ 100) (hd : d < n) (hsm : smT ts) (hww : ∀ i, i < n → (ts.getD i tk0).ws.length ≤ 200) (hx : Reads w p m Z) (hf : F < 18446744073709551616) (hm : Z.length = m) (hm2 : m ≤ 2097152) :
 Calls Tryz.prog 53 #[.slice a n c, .int .i64 (d : Int), .agg #[.int .i64 K, .int .i64 N, .float .f64 F, .slice p m c0]] w fun e w' => e = .returned (.int .i64 (bhL ts d ⟨K, N, F, Z⟩ n)) ∧ Below w.heap.size w w' := by
 obtain ⟨V, hV⟩ : ∃ V, bhL ts d ⟨K, N, F, Z⟩ n = V := ⟨_, rfl⟩
 rw [hV]
 have HV := hid hV
 have HR := hid h
 have HL := hid hl
 have HSm := hid hsm
 have HWw := hid hww
 have HXr0 := hid hx
 have HXm := hid hm
 have HB := hid (Below.alloc1 w (.cells #[.int .i64 K, .int .i64 N, .float .f64 F, .slice p m c0] 72))
 have HBx := hid (show Box4 (w.alloc (.cells #[.int .i64 K, .int .i64 N, .float .f64 F, .slice p m c0] 72)) w.heap.size 0 K N F (.slice p m c0) from ⟨by rw [cell_of_row _ _ _ _ _ _ (heap_alloc_new w _)]; rfl, by rw [cell_of_row _ _ _ _ _ _ (heap_alloc_new w _)]; rfl, by rw [cell_of_row _ _ _ _ _ _ (heap_alloc_new w _)]; rfl, by rw [cell_of_row _ _ _ _ _ _ (heap_alloc_new w _)]; rfl⟩)
 have HXr := hid (hx.below HB.out (Nat.le_refl _))
 have HR1 := hid (h.below HB.out (Nat.le_refl _))
 clear hV h hl hsm hww hx hm
 go_enter Tryz.func53, Tryz.ntmps53
 go_wp2_with fail
 obtain ⟨w1, hw1⟩ : ∃ w1, w.alloc (.cells #[.int .i64 K, .int .i64 N, .float .f64 F, .slice p m c0] 72) = w1 := ⟨_, rfl⟩
 rw [hw1] at HB HBx HXr HR1
 try rw [hw1]
 clear hw1
 go_loopw [7, 8] (fun s7 s8 wr => ∃ (i : Nat) (l : Int), i ≤ n ∧ s8 = .int .i64 i ∧ s7 = .int .i64 l ∧ Hid (l = bhL ts d ⟨K, N, F, Z⟩ i) ∧ Hid (Below w1.heap.size w1 wr)) (fun _ s _ => n - (intOf s).toNat)
 case atStart => exact ⟨0, -1, Nat.zero_le _, rfl, rfl, hid rfl, hid (Below.refl _ _)⟩
 case round =>
  obtain ⟨i, l, hi, rfl, rfl, HLb, HW⟩ := hrel
  by_cases hlt : i < n
  · have hlt' : (i : Int) < (n : Int) := by omega
    have hi0 : (0 : Int) ≤ (i : Int) := by omega
    have hd' : (d : Int) < (n : Int) := by omega
    have hd0 : (0 : Int) ≤ (d : Int) := by omega
    have hor := bhL_or ts d ⟨K, N, F, Z⟩ i
    rw [← HLb.out] at hor
    obtain ⟨q, hqn0, hQq⟩ : ∃ q, q < n ∧ ∀ qq : Nat, l = (qq : Int) → q = qq := by
     rcases hor with e | ⟨qq, e, hq⟩
     · exact ⟨d, hd, fun z hz => by omega⟩
     · exact ⟨qq, by omega, fun z hz => by omega⟩
    have HQq := hid hQq
    obtain ⟨bb, off, xr, xc, aw, cw, rfl, bi, _, _, rw', _⟩ := HR1.out.at (k := i) (by have := HL.out; omega)
    obtain ⟨bb2, off2, dr, dc, dw, dwc, e2, bd, _, _, _, _⟩ := HR1.out.at (k := d) (by have := HL.out; omega)
    obtain ⟨bb3, off3, qr, qc, qw, qwc, e3, bq, _, _, _, _⟩ := HR1.out.at (k := q) (by have := HL.out; omega)
    obtain ⟨rfl, rfl⟩ : bb = bb2 ∧ off = off2 := by simpa using e2
    obtain ⟨rfl, rfl⟩ : bb = bb3 ∧ off = off3 := by simpa using e3
    have hws := HWw.out i hlt
    have HWs := hid (HSm.out i).2
    have HWr := hid rw'
    obtain ⟨ti, hti⟩ : ∃ t, ts.getD i tk0 = t := ⟨_, rfl⟩
    obtain ⟨td, htd⟩ : ∃ t, ts.getD d tk0 = t := ⟨_, rfl⟩
    obtain ⟨tq, htq⟩ : ∃ t, ts.getD q tk0 = t := ⟨_, rfl⟩
    rw [hti] at bi hws HWs HWr
    rw [htd] at bd
    rw [htq] at bq
    obtain ⟨ws, hws'⟩ : ∃ ws, ti.ws = ws := ⟨_, rfl⟩
    rw [hws'] at bi hws HWs HWr
    obtain ⟨nw, hnw⟩ : ∃ nw, ws.length = nw := ⟨_, rfl⟩
    rw [hnw] at bi hws
    have HWl := hid hnw
    have HTi := hid (show (ts.getD i tk0).ws = ws ∧ (ts.getD i tk0).ended = ti.ended ∧ True by rw [hti]; exact ⟨hws', rfl, trivial⟩)
    have HTd := hid (show (ts.getD d tk0).begun = td.begun by rw [htd])
    have HTq := hid (show (ts.getD q tk0).ended = tq.ended by rw [htq])
    generalize (Value.slice xr ti.rs.length xc) = xw at *
    generalize (Value.slice dr td.rs.length dc) = xd at *
    generalize (Value.slice dw td.ws.length dwc) = yd at *
    generalize (Value.slice qr tq.rs.length qc) = xq at *
    generalize (Value.slice qw tq.ws.length qwc) = yq at *
    have bD := (Below.refl wr.heap.size wr).drew
    have HWD := hid (HW.out.trans (bD.mono HW.out.size))
    have HSD := hid (show (fun W => Box4 W w.heap.size 0 K N F (.slice p m c0) ∧ Box5 W bb (off + i * 5) ti xw (.slice aw nw cw) ∧ Box5 W bb (off + d * 5) td xd yd ∧ Box5 W bb (off + q * 5) tq xq yq) wr.drew from ⟨(HBx.out.below HW.out (Nat.le_refl _)).below bD (Nat.le_refl _), (bi.below HW.out (Nat.le_refl _)).below bD (Nat.le_refl _), (bd.below HW.out (Nat.le_refl _)).below bD (Nat.le_refl _), (bq.below HW.out (Nat.le_refl _)).below bD (Nat.le_refl _)⟩)
    clear bi bd bq rw' e2 e3 hti htd htq hws' hnw bD hQq
    go_wp2
    refine region_K 99 (fun W => Box4 W w.heap.size 0 K N F (.slice p m c0) ∧ Box5 W bb (off + i * 5) ti xw (.slice aw nw cw) ∧ Box5 W bb (off + d * 5) td xd yd ∧ Box5 W bb (off + q * 5) tq xq yq) (by kernel_rfl) ?_ (fun hHeld => ?_)
    · exact HSD.out
    generalize wr.drew = v0 at *
    by_cases hid0 : i = d
    · have hne : ((i : Int) != (d : Int)) = false := by simpa using (show (i : Int) = (d : Int) by omega)
      have HN2 := hid (show l = bhL ts d ⟨K, N, F, Z⟩ (i + 1) by rw [bhL_succ, ← HLb.out]; unfold bhF; rw [if_neg (fun z => z.1 hid0)])
      clear hid0 hor
      refine anyK_take2 (i := 0) (v := ?v0_1) rfl (by kernel_rfl) (by kernel_rfl) (by kernel_rfl) (by rfl) (fun _ _ _ h => h) (by rfl) hHeld ?hy0_1 (some 15) (by rfl) ?rest0_1
      case hy0_1 => (intro W hSw; obtain ⟨⟨x0, x1, x2, x3⟩, ⟨y0, y1, y2, y3, y4⟩, ⟨z0, z1, z2, z3, z4⟩, ⟨v0', v1', v2', v3', v4'⟩⟩ := hSw; go_simp; (try with_reducible rfl))
      try simp only [Act.put, List.setIfInBounds_toArray, List.set_cons_succ, List.set_cons_zero]
      refine anyK_take2 (i := 1) (v := ?v1_2) rfl (by kernel_rfl) (by kernel_rfl) (by kernel_rfl) (by rfl) (fun _ _ _ h => h) (by rfl) hHeld ?hy1_2 (some 16) (by rfl) ?rest1_2
      case hy1_2 => (intro W hSw; obtain ⟨⟨x0, x1, x2, x3⟩, ⟨y0, y1, y2, y3, y4⟩, ⟨z0, z1, z2, z3, z4⟩, ⟨v0', v1', v2', v3', v4'⟩⟩ := hSw; go_simp; (try with_reducible rfl))
      try simp only [Act.put, List.setIfInBounds_toArray, List.set_cons_succ, List.set_cons_zero]
      refine anyK_take2 (i := 2) (v := ?v2_3) rfl (by kernel_rfl) (by kernel_rfl) (by kernel_rfl) (by rfl) (fun _ _ _ h => h) (by rfl) hHeld ?hy2_3 (some 17) (by rfl) ?rest2_3
      case hy2_3 => (intro W hSw; obtain ⟨⟨x0, x1, x2, x3⟩, ⟨y0, y1, y2, y3, y4⟩, ⟨z0, z1, z2, z3, z4⟩, ⟨v0', v1', v2', v3', v4'⟩⟩ := hSw; go_simp; (try with_reducible rfl))
      try simp only [Act.put, List.setIfInBounds_toArray, List.set_cons_succ, List.set_cons_zero]
      refine anyK_take2 (i := 3) (v := ?v3_4) rfl (by kernel_rfl) (by kernel_rfl) (by kernel_rfl) (by rfl) (fun _ _ _ h => h) (by rfl) hHeld ?hy3_4 (some 18) (by rfl) ?rest3_4
      case hy3_4 => (intro W hSw; obtain ⟨⟨x0, x1, x2, x3⟩, ⟨y0, y1, y2, y3, y4⟩, ⟨z0, z1, z2, z3, z4⟩, ⟨v0', v1', v2', v3', v4'⟩⟩ := hSw; go_simp; (try with_reducible rfl))
      try simp only [Act.put, List.setIfInBounds_toArray, List.set_cons_succ, List.set_cons_zero]
      refine anyK_skip (i := 4) rfl (by kernel_rfl) (by kernel_rfl) (by kernel_rfl) (by kernel_rfl) (fun _ _ _ h => h) (by rfl) hHeld (some 19) (by rfl) ?_
      try simp only [Act.put, List.setIfInBounds_toArray, List.set_cons_succ, List.set_cons_zero]
      refine anyK_skip (i := 5) rfl (by kernel_rfl) (by kernel_rfl) (by kernel_rfl) (by kernel_rfl) (fun _ _ _ h => h) (by rfl) hHeld (some 20) (by rfl) ?_
      try simp only [Act.put, List.setIfInBounds_toArray, List.set_cons_succ, List.set_cons_zero]
      refine anyK_skip (i := 6) rfl (by kernel_rfl) (by kernel_rfl) (by kernel_rfl) (by kernel_rfl) (fun _ _ _ h => h) (by rfl) hHeld (some 21) (by rfl) ?_
      try simp only [Act.put, List.setIfInBounds_toArray, List.set_cons_succ, List.set_cons_zero]
      refine anyK_skip (i := 7) rfl (by kernel_rfl) (by kernel_rfl) (by kernel_rfl) (by kernel_rfl) (fun _ _ _ h => h) (by rfl) hHeld (some 22) (by rfl) ?_
      try simp only [Act.put, List.setIfInBounds_toArray, List.set_cons_succ, List.set_cons_zero]
      refine anyK_skip (i := 8) rfl (by kernel_rfl) (by kernel_rfl) (by kernel_rfl) (by kernel_rfl) (fun _ _ _ h => h) (by rfl) hHeld (some 23) (by rfl) ?_
      try simp only [Act.put, List.setIfInBounds_toArray, List.set_cons_succ, List.set_cons_zero]
      refine anyK_skip (i := 9) rfl (by kernel_rfl) (by kernel_rfl) (by kernel_rfl) (by kernel_rfl) (fun _ _ _ h => h) (by rfl) hHeld (some 24) (by rfl) ?_
      try simp only [Act.put, List.setIfInBounds_toArray, List.set_cons_succ, List.set_cons_zero]
      refine anyK_skip (i := 10) rfl (by kernel_rfl) (by kernel_rfl) (by kernel_rfl) (by kernel_rfl) (fun _ _ _ h => h) (by rfl) hHeld (some 25) (by rfl) ?_
      try simp only [Act.put, List.setIfInBounds_toArray, List.set_cons_succ, List.set_cons_zero]
      refine anyK_take2 (i := 11) (v := ?v11_5) rfl (by kernel_rfl) (by kernel_rfl) (by kernel_rfl) (by rfl) (fun _ _ _ h => h) (by rfl) hHeld ?hy11_5 (some 26) (by rfl) ?rest11_5
      case hy11_5 => (intro W hSw; obtain ⟨⟨x0, x1, x2, x3⟩, ⟨y0, y1, y2, y3, y4⟩, ⟨z0, z1, z2, z3, z4⟩, ⟨v0', v1', v2', v3', v4'⟩⟩ := hSw; go_simp; (try with_reducible rfl))
      try simp only [Act.put, List.setIfInBounds_toArray, List.set_cons_succ, List.set_cons_zero]
      refine anyK_take2 (i := 12) (v := ?v12_6) rfl (by kernel_rfl) (by kernel_rfl) (by kernel_rfl) (by rfl) (fun _ _ _ h => h) (by rfl) hHeld ?hy12_6 (some 27) (by rfl) ?rest12_6
      case hy12_6 => (intro W hSw; obtain ⟨⟨x0, x1, x2, x3⟩, ⟨y0, y1, y2, y3, y4⟩, ⟨z0, z1, z2, z3, z4⟩, ⟨v0', v1', v2', v3', v4'⟩⟩ := hSw; go_simp; (try with_reducible rfl))
      try simp only [Act.put, List.setIfInBounds_toArray, List.set_cons_succ, List.set_cons_zero]
      refine anyK_skip (i := 13) rfl (by kernel_rfl) (by kernel_rfl) (by kernel_rfl) (by kernel_rfl) (fun _ _ _ h => h) (by rfl) hHeld (some 28) (by rfl) ?_
      try simp only [Act.put, List.setIfInBounds_toArray, List.set_cons_succ, List.set_cons_zero]
      refine anyK_skip (i := 14) rfl (by kernel_rfl) (by kernel_rfl) (by kernel_rfl) (by kernel_rfl) (fun _ _ _ h => h) (by rfl) hHeld (some 29) (by rfl) ?_
      try simp only [Act.put, List.setIfInBounds_toArray, List.set_cons_succ, List.set_cons_zero]
      refine anyK_skip (i := 15) rfl (by kernel_rfl) (by kernel_rfl) (by kernel_rfl) (by kernel_rfl) (fun _ _ _ h => h) (by rfl) hHeld (some 30) (by rfl) ?_
      try simp only [Act.put, List.setIfInBounds_toArray, List.set_cons_succ, List.set_cons_zero]
      refine anyK_skip (i := 16) rfl (by kernel_rfl) (by kernel_rfl) (by kernel_rfl) (by kernel_rfl) (fun _ _ _ h => h) (by rfl) hHeld (some 31) (by rfl) ?_
      try simp only [Act.put, List.setIfInBounds_toArray, List.set_cons_succ, List.set_cons_zero]
      refine anyK_skip (i := 17) rfl (by kernel_rfl) (by kernel_rfl) (by kernel_rfl) (by kernel_rfl) (fun _ _ _ h => h) (by rfl) hHeld (some 32) (by rfl) ?_
      try simp only [Act.put, List.setIfInBounds_toArray, List.set_cons_succ, List.set_cons_zero]
      refine anyK_skip (i := 18) rfl (by kernel_rfl) (by kernel_rfl) (by kernel_rfl) (by kernel_rfl) (fun _ _ _ h => h) (by rfl) hHeld (some 33) (by rfl) ?_
      try simp only [Act.put, List.setIfInBounds_toArray, List.set_cons_succ, List.set_cons_zero]
      refine anyK_skip (i := 19) rfl (by kernel_rfl) (by kernel_rfl) (by kernel_rfl) (by kernel_rfl) (fun _ _ _ h => h) (by rfl) hHeld (some 34) (by rfl) ?_
      try simp only [Act.put, List.setIfInBounds_toArray, List.set_cons_succ, List.set_cons_zero]
      refine anyK_skip (i := 20) rfl (by kernel_rfl) (by kernel_rfl) (by kernel_rfl) (by kernel_rfl) (fun _ _ _ h => h) (by rfl) hHeld (some 35) (by rfl) ?_
      try simp only [Act.put, List.setIfInBounds_toArray, List.set_cons_succ, List.set_cons_zero]
      refine anyK_skip (i := 21) rfl (by kernel_rfl) (by kernel_rfl) (by kernel_rfl) (by kernel_rfl) (fun _ _ _ h => h) (by rfl) hHeld (some 36) (by rfl) ?_
      try simp only [Act.put, List.setIfInBounds_toArray, List.set_cons_succ, List.set_cons_zero]
      refine anyK_skip (i := 22) rfl (by kernel_rfl) (by kernel_rfl) (by kernel_rfl) (by kernel_rfl) (fun _ _ _ h => h) (by rfl) hHeld (some 37) (by rfl) ?_
      try simp only [Act.put, List.setIfInBounds_toArray, List.set_cons_succ, List.set_cons_zero]
      refine anyK_skip (i := 23) rfl (by kernel_rfl) (by kernel_rfl) (by kernel_rfl) (by kernel_rfl) (fun _ _ _ h => h) (by rfl) hHeld (some 38) (by rfl) ?_
      try simp only [Act.put, List.setIfInBounds_toArray, List.set_cons_succ, List.set_cons_zero]
      refine anyK_take2 (i := 24) (v := ?v24_7) rfl (by kernel_rfl) (by kernel_rfl) (by kernel_rfl) (by rfl) (fun _ _ _ h => h) (by rfl) hHeld ?hy24_7 (some 39) (by rfl) ?rest24_7
      case hy24_7 => (intro W hSw; obtain ⟨⟨x0, x1, x2, x3⟩, ⟨y0, y1, y2, y3, y4⟩, ⟨z0, z1, z2, z3, z4⟩, ⟨v0', v1', v2', v3', v4'⟩⟩ := hSw; go_simp; (try with_reducible rfl))
      try simp only [Act.put, List.setIfInBounds_toArray, List.set_cons_succ, List.set_cons_zero]
      refine anyK_take2 (i := 25) (v := ?v25_8) rfl (by kernel_rfl) (by kernel_rfl) (by kernel_rfl) (by rfl) (fun _ _ _ h => h) (by rfl) hHeld ?hy25_8 (some 40) (by rfl) ?rest25_8
      case hy25_8 => (intro W hSw; obtain ⟨⟨x0, x1, x2, x3⟩, ⟨y0, y1, y2, y3, y4⟩, ⟨z0, z1, z2, z3, z4⟩, ⟨v0', v1', v2', v3', v4'⟩⟩ := hSw; go_simp; (try with_reducible rfl))
      try simp only [Act.put, List.setIfInBounds_toArray, List.set_cons_succ, List.set_cons_zero]
      refine anyK_skip (i := 26) rfl (by kernel_rfl) (by kernel_rfl) (by kernel_rfl) (by kernel_rfl) (fun _ _ _ h => h) (by rfl) hHeld (some 41) (by rfl) ?_
      try simp only [Act.put, List.setIfInBounds_toArray, List.set_cons_succ, List.set_cons_zero]
      refine anyK_skip (i := 27) rfl (by kernel_rfl) (by kernel_rfl) (by kernel_rfl) (by kernel_rfl) (fun _ _ _ h => h) (by rfl) hHeld (some 42) (by rfl) ?_
      try simp only [Act.put, List.setIfInBounds_toArray, List.set_cons_succ, List.set_cons_zero]
      refine anyK_skip (i := 28) rfl (by kernel_rfl) (by kernel_rfl) (by kernel_rfl) (by kernel_rfl) (fun _ _ _ h => h) (by rfl) hHeld (some 43) (by rfl) ?_
      try simp only [Act.put, List.setIfInBounds_toArray, List.set_cons_succ, List.set_cons_zero]
      refine anyK_skip (i := 29) rfl (by kernel_rfl) (by kernel_rfl) (by kernel_rfl) (by kernel_rfl) (fun _ _ _ h => h) (by rfl) hHeld (some 44) (by rfl) ?_
      try simp only [Act.put, List.setIfInBounds_toArray, List.set_cons_succ, List.set_cons_zero]
      refine anyK_skip (i := 30) rfl (by kernel_rfl) (by kernel_rfl) (by kernel_rfl) (by kernel_rfl) (fun _ _ _ h => h) (by rfl) hHeld (some 45) (by rfl) ?_
      try simp only [Act.put, List.setIfInBounds_toArray, List.set_cons_succ, List.set_cons_zero]
      refine anyK_skip (i := 31) rfl (by kernel_rfl) (by kernel_rfl) (by kernel_rfl) (by kernel_rfl) (fun _ _ _ h => h) (by rfl) hHeld (some 46) (by rfl) ?_
      try simp only [Act.put, List.setIfInBounds_toArray, List.set_cons_succ, List.set_cons_zero]
      refine anyK_skip (i := 32) rfl (by kernel_rfl) (by kernel_rfl) (by kernel_rfl) (by kernel_rfl) (fun _ _ _ h => h) (by rfl) hHeld (some 47) (by rfl) ?_
      try simp only [Act.put, List.setIfInBounds_toArray, List.set_cons_succ, List.set_cons_zero]
      refine anyK_skip (i := 33) rfl (by kernel_rfl) (by kernel_rfl) (by kernel_rfl) (by kernel_rfl) (fun _ _ _ h => h) (by rfl) hHeld (some 48) (by rfl) ?_
      try simp only [Act.put, List.setIfInBounds_toArray, List.set_cons_succ, List.set_cons_zero]
      refine anyK_skip (i := 34) rfl (by kernel_rfl) (by kernel_rfl) (by kernel_rfl) (by kernel_rfl) (fun _ _ _ h => h) (by rfl) hHeld (some 49) (by rfl) ?_
      try simp only [Act.put, List.setIfInBounds_toArray, List.set_cons_succ, List.set_cons_zero]
      refine anyK_skip (i := 35) rfl (by kernel_rfl) (by kernel_rfl) (by kernel_rfl) (by kernel_rfl) (fun _ _ _ h => h) (by rfl) hHeld (some 50) (by rfl) ?_
      try simp only [Act.put, List.setIfInBounds_toArray, List.set_cons_succ, List.set_cons_zero]
      refine anyK_skip (i := 36) rfl (by kernel_rfl) (by kernel_rfl) (by kernel_rfl) (by kernel_rfl) (fun _ _ _ h => h) (by rfl) hHeld (some 51) (by rfl) ?_
      try simp only [Act.put, List.setIfInBounds_toArray, List.set_cons_succ, List.set_cons_zero]
      refine anyK_skip (i := 37) rfl (by kernel_rfl) (by kernel_rfl) (by kernel_rfl) (by kernel_rfl) (fun _ _ _ h => h) (by rfl) hHeld (some 52) (by rfl) ?_
      try simp only [Act.put, List.setIfInBounds_toArray, List.set_cons_succ, List.set_cons_zero]
      refine anyK_skip (i := 38) rfl (by kernel_rfl) (by kernel_rfl) (by kernel_rfl) (by kernel_rfl) (fun _ _ _ h => h) (by rfl) hHeld (some 53) (by rfl) ?_
      try simp only [Act.put, List.setIfInBounds_toArray, List.set_cons_succ, List.set_cons_zero]
      refine anyK_skip (i := 39) rfl (by kernel_rfl) (by kernel_rfl) (by kernel_rfl) (by kernel_rfl) (fun _ _ _ h => h) (by rfl) hHeld (some 54) (by rfl) ?_
      try simp only [Act.put, List.setIfInBounds_toArray, List.set_cons_succ, List.set_cons_zero]
      refine anyK_skip (i := 40) rfl (by kernel_rfl) (by kernel_rfl) (by kernel_rfl) (by kernel_rfl) (fun _ _ _ h => h) (by rfl) hHeld (some 55) (by rfl) ?_
      try simp only [Act.put, List.setIfInBounds_toArray, List.set_cons_succ, List.set_cons_zero]
      refine anyK_take2 (i := 41) (v := ?v41_9) rfl (by kernel_rfl) (by kernel_rfl) (by kernel_rfl) (by rfl) (fun _ _ _ h => h) (by rfl) hHeld ?hy41_9 (some 56) (by rfl) ?rest41_9
      case hy41_9 => (intro W hSw; obtain ⟨⟨x0, x1, x2, x3⟩, ⟨y0, y1, y2, y3, y4⟩, ⟨z0, z1, z2, z3, z4⟩, ⟨v0', v1', v2', v3', v4'⟩⟩ := hSw; go_simp; (try with_reducible rfl))
      try simp only [Act.put, List.setIfInBounds_toArray, List.set_cons_succ, List.set_cons_zero]
      refine anyK_done (by kernel_rfl) ?_ _
      clear hHeld
      go_wp2_with fail
      go_roundw
      case rel => exact ⟨i + 1, l, by omega, by go_num, rfl, HN2, HWD⟩
      case measure => simp [intOf]; omega
    · have hne : ((i : Int) != (d : Int)) = true := by simpa using (show ¬ (i : Int) = (d : Int) by omega)
      refine anyK_take2 (i := 0) (v := ?v0_10) rfl (by kernel_rfl) (by kernel_rfl) (by kernel_rfl) (by rfl) (fun _ _ _ h => h) (by rfl) hHeld ?hy0_10 (some 15) (by rfl) ?rest0_10
      case hy0_10 => (intro W hSw; obtain ⟨⟨x0, x1, x2, x3⟩, ⟨y0, y1, y2, y3, y4⟩, ⟨z0, z1, z2, z3, z4⟩, ⟨v0', v1', v2', v3', v4'⟩⟩ := hSw; go_simp; (try with_reducible rfl))
      try simp only [Act.put, List.setIfInBounds_toArray, List.set_cons_succ, List.set_cons_zero]
      refine anyK_take2 (i := 1) (v := ?v1_11) rfl (by kernel_rfl) (by kernel_rfl) (by kernel_rfl) (by rfl) (fun _ _ _ h => h) (by rfl) hHeld ?hy1_11 (some 16) (by rfl) ?rest1_11
      case hy1_11 => (intro W hSw; obtain ⟨⟨x0, x1, x2, x3⟩, ⟨y0, y1, y2, y3, y4⟩, ⟨z0, z1, z2, z3, z4⟩, ⟨v0', v1', v2', v3', v4'⟩⟩ := hSw; go_simp; (try with_reducible rfl))
      try simp only [Act.put, List.setIfInBounds_toArray, List.set_cons_succ, List.set_cons_zero]
      refine anyK_take2 (i := 2) (v := ?v2_12) rfl (by kernel_rfl) (by kernel_rfl) (by kernel_rfl) (by rfl) (fun _ _ _ h => h) (by rfl) hHeld ?hy2_12 (some 17) (by rfl) ?rest2_12
      case hy2_12 => (intro W hSw; obtain ⟨⟨x0, x1, x2, x3⟩, ⟨y0, y1, y2, y3, y4⟩, ⟨z0, z1, z2, z3, z4⟩, ⟨v0', v1', v2', v3', v4'⟩⟩ := hSw; go_simp; (try with_reducible rfl))
      try simp only [Act.put, List.setIfInBounds_toArray, List.set_cons_succ, List.set_cons_zero]
      refine anyK_take2 (i := 3) (v := ?v3_13) rfl (by kernel_rfl) (by kernel_rfl) (by kernel_rfl) (by rfl) (fun _ _ _ h => h) (by rfl) hHeld ?hy3_13 (some 18) (by rfl) ?rest3_13
      case hy3_13 => (intro W hSw; obtain ⟨⟨x0, x1, x2, x3⟩, ⟨y0, y1, y2, y3, y4⟩, ⟨z0, z1, z2, z3, z4⟩, ⟨v0', v1', v2', v3', v4'⟩⟩ := hSw; go_simp; (try with_reducible rfl))
      try simp only [Act.put, List.setIfInBounds_toArray, List.set_cons_succ, List.set_cons_zero]
      refine anyK_take2 (i := 4) (v := ?v4_14) rfl (by kernel_rfl) (by kernel_rfl) (by kernel_rfl) (by rfl) (fun _ _ _ h => h) (by rfl) hHeld ?hy4_14 (some 19) (by rfl) ?rest4_14
      case hy4_14 => (intro W hSw; obtain ⟨⟨x0, x1, x2, x3⟩, ⟨y0, y1, y2, y3, y4⟩, ⟨z0, z1, z2, z3, z4⟩, ⟨v0', v1', v2', v3', v4'⟩⟩ := hSw; go_simp; (try with_reducible rfl))
      try simp only [Act.put, List.setIfInBounds_toArray, List.set_cons_succ, List.set_cons_zero]
      refine anyK_take2 (i := 5) (v := ?v5_15) rfl (by kernel_rfl) (by kernel_rfl) (by kernel_rfl) (by rfl) (fun _ _ _ h => h) (by rfl) hHeld ?hy5_15 (some 20) (by rfl) ?rest5_15
      case hy5_15 => (intro W hSw; obtain ⟨⟨x0, x1, x2, x3⟩, ⟨y0, y1, y2, y3, y4⟩, ⟨z0, z1, z2, z3, z4⟩, ⟨v0', v1', v2', v3', v4'⟩⟩ := hSw; go_simp; (try with_reducible rfl))
      try simp only [Act.put, List.setIfInBounds_toArray, List.set_cons_succ, List.set_cons_zero]
      refine anyK_take2 (i := 6) (v := ?v6_16) rfl (by kernel_rfl) (by kernel_rfl) (by kernel_rfl) (by rfl) (fun _ _ _ h => h) (by rfl) hHeld ?hy6_16 (some 21) (by rfl) ?rest6_16
      case hy6_16 => (intro W hSw; obtain ⟨⟨x0, x1, x2, x3⟩, ⟨y0, y1, y2, y3, y4⟩, ⟨z0, z1, z2, z3, z4⟩, ⟨v0', v1', v2', v3', v4'⟩⟩ := hSw; go_simp; (try with_reducible rfl))
      try simp only [Act.put, List.setIfInBounds_toArray, List.set_cons_succ, List.set_cons_zero]
      refine anyK_take2 (i := 7) (v := ?v7_17) rfl (by kernel_rfl) (by kernel_rfl) (by kernel_rfl) (by rfl) (fun _ _ _ h => h) (by rfl) hHeld ?hy7_17 (some 22) (by rfl) ?rest7_17
      case hy7_17 => (intro W hSw; obtain ⟨⟨x0, x1, x2, x3⟩, ⟨y0, y1, y2, y3, y4⟩, ⟨z0, z1, z2, z3, z4⟩, ⟨v0', v1', v2', v3', v4'⟩⟩ := hSw; go_simp; (try with_reducible rfl))
      try simp only [Act.put, List.setIfInBounds_toArray, List.set_cons_succ, List.set_cons_zero]
      refine anyK_take2 (i := 8) (v := ?v8_18) rfl (by kernel_rfl) (by kernel_rfl) (by kernel_rfl) (by rfl) (fun _ _ _ h => h) (by rfl) hHeld ?hy8_18 (some 23) (by rfl) ?rest8_18
      case hy8_18 => (intro W hSw; obtain ⟨⟨x0, x1, x2, x3⟩, ⟨y0, y1, y2, y3, y4⟩, ⟨z0, z1, z2, z3, z4⟩, ⟨v0', v1', v2', v3', v4'⟩⟩ := hSw; go_simp; (try with_reducible rfl))
      try simp only [Act.put, List.setIfInBounds_toArray, List.set_cons_succ, List.set_cons_zero]
      refine anyK_take2 (i := 9) (v := ?v9_19) rfl (by kernel_rfl) (by kernel_rfl) (by kernel_rfl) (by rfl) (fun _ _ _ h => h) (by rfl) hHeld ?hy9_19 (some 24) (by rfl) ?rest9_19
      case hy9_19 => (intro W hSw; obtain ⟨⟨x0, x1, x2, x3⟩, ⟨y0, y1, y2, y3, y4⟩, ⟨z0, z1, z2, z3, z4⟩, ⟨v0', v1', v2', v3', v4'⟩⟩ := hSw; go_simp; (try with_reducible rfl))
      try simp only [Act.put, List.setIfInBounds_toArray, List.set_cons_succ, List.set_cons_zero]
      refine anyK_step (i := 10) (by kernel_rfl) rfl (fun KP hK => ?_)
      go_simp
      refine (spec_l13has cw c0 (HWr.out.below HWD.out (Nat.le_refl _)) HWl.out (by omega) HXm.out (HXr.out.below HWD.out (Nat.le_refl _)) hf (by omega) HWs.out).mono ?_
      rintro e u1 ⟨rfl, bb1⟩
      have HSE := hid (show (fun W => Box4 W w.heap.size 0 K N F (.slice p m c0) ∧ Box5 W bb (off + i * 5) ti xw (.slice aw nw cw) ∧ Box5 W bb (off + d * 5) td xd yd ∧ Box5 W bb (off + q * 5) tq xq yq) u1 from ⟨HSD.out.1.below bb1 (Nat.le_refl _), HSD.out.2.1.below bb1 (Nat.le_refl _), HSD.out.2.2.1.below bb1 (Nat.le_refl _), HSD.out.2.2.2.below bb1 (Nat.le_refl _)⟩)
      have HWE := hid (HWD.out.trans (bb1.mono HWD.out.size))
      clear bb1
      obtain ⟨H, hH⟩ : ∃ H, hasM ws ⟨K, N, F, Z⟩ = H := ⟨_, rfl⟩
      rw [hH]
      have HH := hid hH
      clear hH
      go_wp2_with fail
      clear hHeld
      refine hK.out _ _ HSE.out (fun hHeld => ?_)
      clear hK KP
      try simp only [Act.put, List.setIfInBounds_toArray, List.set_cons_succ, List.set_cons_zero]
      cases H with
      | false =>
       have HN2 := hid (show l = bhL ts d ⟨K, N, F, Z⟩ (i + 1) by rw [bhL_succ, ← HLb.out]; unfold bhF; rw [if_neg (fun z => by have := z.2.1; rw [HTi.out.1, HH.out] at this; cases this)])
       clear hor
       refine anyK_take2 (i := 11) (v := ?v11_20) rfl (by kernel_rfl) (by kernel_rfl) (by kernel_rfl) (by rfl) (fun _ _ _ h => h) (by rfl) hHeld ?hy11_20 (some 26) (by rfl) ?rest11_20
       case hy11_20 => (intro W hSw; obtain ⟨⟨x0, x1, x2, x3⟩, ⟨y0, y1, y2, y3, y4⟩, ⟨z0, z1, z2, z3, z4⟩, ⟨v0', v1', v2', v3', v4'⟩⟩ := hSw; go_simp; (try with_reducible rfl))
       try simp only [Act.put, List.setIfInBounds_toArray, List.set_cons_succ, List.set_cons_zero]
       refine anyK_take2 (i := 12) (v := ?v12_21) rfl (by kernel_rfl) (by kernel_rfl) (by kernel_rfl) (by rfl) (fun _ _ _ h => h) (by rfl) hHeld ?hy12_21 (some 27) (by rfl) ?rest12_21
       case hy12_21 => (intro W hSw; obtain ⟨⟨x0, x1, x2, x3⟩, ⟨y0, y1, y2, y3, y4⟩, ⟨z0, z1, z2, z3, z4⟩, ⟨v0', v1', v2', v3', v4'⟩⟩ := hSw; go_simp; (try with_reducible rfl))
       try simp only [Act.put, List.setIfInBounds_toArray, List.set_cons_succ, List.set_cons_zero]
       refine anyK_skip (i := 13) rfl (by kernel_rfl) (by kernel_rfl) (by kernel_rfl) (by kernel_rfl) (fun _ _ _ h => h) (by rfl) hHeld (some 28) (by rfl) ?_
       try simp only [Act.put, List.setIfInBounds_toArray, List.set_cons_succ, List.set_cons_zero]
       refine anyK_skip (i := 14) rfl (by kernel_rfl) (by kernel_rfl) (by kernel_rfl) (by kernel_rfl) (fun _ _ _ h => h) (by rfl) hHeld (some 29) (by rfl) ?_
       try simp only [Act.put, List.setIfInBounds_toArray, List.set_cons_succ, List.set_cons_zero]
       refine anyK_skip (i := 15) rfl (by kernel_rfl) (by kernel_rfl) (by kernel_rfl) (by kernel_rfl) (fun _ _ _ h => h) (by rfl) hHeld (some 30) (by rfl) ?_
       try simp only [Act.put, List.setIfInBounds_toArray, List.set_cons_succ, List.set_cons_zero]
       refine anyK_skip (i := 16) rfl (by kernel_rfl) (by kernel_rfl) (by kernel_rfl) (by kernel_rfl) (fun _ _ _ h => h) (by rfl) hHeld (some 31) (by rfl) ?_
       try simp only [Act.put, List.setIfInBounds_toArray, List.set_cons_succ, List.set_cons_zero]
       refine anyK_skip (i := 17) rfl (by kernel_rfl) (by kernel_rfl) (by kernel_rfl) (by kernel_rfl) (fun _ _ _ h => h) (by rfl) hHeld (some 32) (by rfl) ?_
       try simp only [Act.put, List.setIfInBounds_toArray, List.set_cons_succ, List.set_cons_zero]
       refine anyK_skip (i := 18) rfl (by kernel_rfl) (by kernel_rfl) (by kernel_rfl) (by kernel_rfl) (fun _ _ _ h => h) (by rfl) hHeld (some 33) (by rfl) ?_
       try simp only [Act.put, List.setIfInBounds_toArray, List.set_cons_succ, List.set_cons_zero]
       refine anyK_skip (i := 19) rfl (by kernel_rfl) (by kernel_rfl) (by kernel_rfl) (by kernel_rfl) (fun _ _ _ h => h) (by rfl) hHeld (some 34) (by rfl) ?_
       try simp only [Act.put, List.setIfInBounds_toArray, List.set_cons_succ, List.set_cons_zero]
       refine anyK_skip (i := 20) rfl (by kernel_rfl) (by kernel_rfl) (by kernel_rfl) (by kernel_rfl) (fun _ _ _ h => h) (by rfl) hHeld (some 35) (by rfl) ?_
       try simp only [Act.put, List.setIfInBounds_toArray, List.set_cons_succ, List.set_cons_zero]
       refine anyK_skip (i := 21) rfl (by kernel_rfl) (by kernel_rfl) (by kernel_rfl) (by kernel_rfl) (fun _ _ _ h => h) (by rfl) hHeld (some 36) (by rfl) ?_
       try simp only [Act.put, List.setIfInBounds_toArray, List.set_cons_succ, List.set_cons_zero]
       refine anyK_skip (i := 22) rfl (by kernel_rfl) (by kernel_rfl) (by kernel_rfl) (by kernel_rfl) (fun _ _ _ h => h) (by rfl) hHeld (some 37) (by rfl) ?_
       try simp only [Act.put, List.setIfInBounds_toArray, List.set_cons_succ, List.set_cons_zero]
       refine anyK_skip (i := 23) rfl (by kernel_rfl) (by kernel_rfl) (by kernel_rfl) (by kernel_rfl) (fun _ _ _ h => h) (by rfl) hHeld (some 38) (by rfl) ?_
       try simp only [Act.put, List.setIfInBounds_toArray, List.set_cons_succ, List.set_cons_zero]
       refine anyK_take2 (i := 24) (v := ?v24_22) rfl (by kernel_rfl) (by kernel_rfl) (by kernel_rfl) (by rfl) (fun _ _ _ h => h) (by rfl) hHeld ?hy24_22 (some 39) (by rfl) ?rest24_22
       case hy24_22 => (intro W hSw; obtain ⟨⟨x0, x1, x2, x3⟩, ⟨y0, y1, y2, y3, y4⟩, ⟨z0, z1, z2, z3, z4⟩, ⟨v0', v1', v2', v3', v4'⟩⟩ := hSw; go_simp; (try with_reducible rfl))
       try simp only [Act.put, List.setIfInBounds_toArray, List.set_cons_succ, List.set_cons_zero]
       refine anyK_take2 (i := 25) (v := ?v25_23) rfl (by kernel_rfl) (by kernel_rfl) (by kernel_rfl) (by rfl) (fun _ _ _ h => h) (by rfl) hHeld ?hy25_23 (some 40) (by rfl) ?rest25_23
       case hy25_23 => (intro W hSw; obtain ⟨⟨x0, x1, x2, x3⟩, ⟨y0, y1, y2, y3, y4⟩, ⟨z0, z1, z2, z3, z4⟩, ⟨v0', v1', v2', v3', v4'⟩⟩ := hSw; go_simp; (try with_reducible rfl))
       try simp only [Act.put, List.setIfInBounds_toArray, List.set_cons_succ, List.set_cons_zero]
       refine anyK_skip (i := 26) rfl (by kernel_rfl) (by kernel_rfl) (by kernel_rfl) (by kernel_rfl) (fun _ _ _ h => h) (by rfl) hHeld (some 41) (by rfl) ?_
       try simp only [Act.put, List.setIfInBounds_toArray, List.set_cons_succ, List.set_cons_zero]
       refine anyK_skip (i := 27) rfl (by kernel_rfl) (by kernel_rfl) (by kernel_rfl) (by kernel_rfl) (fun _ _ _ h => h) (by rfl) hHeld (some 42) (by rfl) ?_
       try simp only [Act.put, List.setIfInBounds_toArray, List.set_cons_succ, List.set_cons_zero]
       refine anyK_skip (i := 28) rfl (by kernel_rfl) (by kernel_rfl) (by kernel_rfl) (by kernel_rfl) (fun _ _ _ h => h) (by rfl) hHeld (some 43) (by rfl) ?_
       try simp only [Act.put, List.setIfInBounds_toArray, List.set_cons_succ, List.set_cons_zero]
       refine anyK_skip (i := 29) rfl (by kernel_rfl) (by kernel_rfl) (by kernel_rfl) (by kernel_rfl) (fun _ _ _ h => h) (by rfl) hHeld (some 44) (by rfl) ?_
       try simp only [Act.put, List.setIfInBounds_toArray, List.set_cons_succ, List.set_cons_zero]
       refine anyK_skip (i := 30) rfl (by kernel_rfl) (by kernel_rfl) (by kernel_rfl) (by kernel_rfl) (fun _ _ _ h => h) (by rfl) hHeld (some 45) (by rfl) ?_
       try simp only [Act.put, List.setIfInBounds_toArray, List.set_cons_succ, List.set_cons_zero]
       refine anyK_skip (i := 31) rfl (by kernel_rfl) (by kernel_rfl) (by kernel_rfl) (by kernel_rfl) (fun _ _ _ h => h) (by rfl) hHeld (some 46) (by rfl) ?_
       try simp only [Act.put, List.setIfInBounds_toArray, List.set_cons_succ, List.set_cons_zero]
       refine anyK_skip (i := 32) rfl (by kernel_rfl) (by kernel_rfl) (by kernel_rfl) (by kernel_rfl) (fun _ _ _ h => h) (by rfl) hHeld (some 47) (by rfl) ?_
       try simp only [Act.put, List.setIfInBounds_toArray, List.set_cons_succ, List.set_cons_zero]
       refine anyK_skip (i := 33) rfl (by kernel_rfl) (by kernel_rfl) (by kernel_rfl) (by kernel_rfl) (fun _ _ _ h => h) (by rfl) hHeld (some 48) (by rfl) ?_
       try simp only [Act.put, List.setIfInBounds_toArray, List.set_cons_succ, List.set_cons_zero]
       refine anyK_skip (i := 34) rfl (by kernel_rfl) (by kernel_rfl) (by kernel_rfl) (by kernel_rfl) (fun _ _ _ h => h) (by rfl) hHeld (some 49) (by rfl) ?_
       try simp only [Act.put, List.setIfInBounds_toArray, List.set_cons_succ, List.set_cons_zero]
       refine anyK_skip (i := 35) rfl (by kernel_rfl) (by kernel_rfl) (by kernel_rfl) (by kernel_rfl) (fun _ _ _ h => h) (by rfl) hHeld (some 50) (by rfl) ?_
       try simp only [Act.put, List.setIfInBounds_toArray, List.set_cons_succ, List.set_cons_zero]
       refine anyK_skip (i := 36) rfl (by kernel_rfl) (by kernel_rfl) (by kernel_rfl) (by kernel_rfl) (fun _ _ _ h => h) (by rfl) hHeld (some 51) (by rfl) ?_
       try simp only [Act.put, List.setIfInBounds_toArray, List.set_cons_succ, List.set_cons_zero]
       refine anyK_skip (i := 37) rfl (by kernel_rfl) (by kernel_rfl) (by kernel_rfl) (by kernel_rfl) (fun _ _ _ h => h) (by rfl) hHeld (some 52) (by rfl) ?_
       try simp only [Act.put, List.setIfInBounds_toArray, List.set_cons_succ, List.set_cons_zero]
       refine anyK_skip (i := 38) rfl (by kernel_rfl) (by kernel_rfl) (by kernel_rfl) (by kernel_rfl) (fun _ _ _ h => h) (by rfl) hHeld (some 53) (by rfl) ?_
       try simp only [Act.put, List.setIfInBounds_toArray, List.set_cons_succ, List.set_cons_zero]
       refine anyK_skip (i := 39) rfl (by kernel_rfl) (by kernel_rfl) (by kernel_rfl) (by kernel_rfl) (fun _ _ _ h => h) (by rfl) hHeld (some 54) (by rfl) ?_
       try simp only [Act.put, List.setIfInBounds_toArray, List.set_cons_succ, List.set_cons_zero]
       refine anyK_skip (i := 40) rfl (by kernel_rfl) (by kernel_rfl) (by kernel_rfl) (by kernel_rfl) (fun _ _ _ h => h) (by rfl) hHeld (some 55) (by rfl) ?_
       try simp only [Act.put, List.setIfInBounds_toArray, List.set_cons_succ, List.set_cons_zero]
       refine anyK_take2 (i := 41) (v := ?v41_24) rfl (by kernel_rfl) (by kernel_rfl) (by kernel_rfl) (by rfl) (fun _ _ _ h => h) (by rfl) hHeld ?hy41_24 (some 56) (by rfl) ?rest41_24
       case hy41_24 => (intro W hSw; obtain ⟨⟨x0, x1, x2, x3⟩, ⟨y0, y1, y2, y3, y4⟩, ⟨z0, z1, z2, z3, z4⟩, ⟨v0', v1', v2', v3', v4'⟩⟩ := hSw; go_simp; (try with_reducible rfl))
       try simp only [Act.put, List.setIfInBounds_toArray, List.set_cons_succ, List.set_cons_zero]
       refine anyK_done (by kernel_rfl) ?_ _
       clear hHeld
       go_wp2_with fail
       go_roundw
       case rel => exact ⟨i + 1, l, by omega, by go_num, rfl, HN2, HWE⟩
       case measure => simp [intOf]; omega
      | true =>
       by_cases hlt2 : ti.ended < td.begun
       · skip
         refine anyK_take2 (i := 11) (v := ?v11_25) rfl (by kernel_rfl) (by kernel_rfl) (by kernel_rfl) (by rfl) (fun _ _ _ h => h) (by rfl) hHeld ?hy11_25 (some 26) (by rfl) ?rest11_25
         case hy11_25 => (intro W hSw; obtain ⟨⟨x0, x1, x2, x3⟩, ⟨y0, y1, y2, y3, y4⟩, ⟨z0, z1, z2, z3, z4⟩, ⟨v0', v1', v2', v3', v4'⟩⟩ := hSw; go_simp; (try with_reducible rfl))
         try simp only [Act.put, List.setIfInBounds_toArray, List.set_cons_succ, List.set_cons_zero]
         refine anyK_take2 (i := 12) (v := ?v12_26) rfl (by kernel_rfl) (by kernel_rfl) (by kernel_rfl) (by rfl) (fun _ _ _ h => h) (by rfl) hHeld ?hy12_26 (some 27) (by rfl) ?rest12_26
         case hy12_26 => (intro W hSw; obtain ⟨⟨x0, x1, x2, x3⟩, ⟨y0, y1, y2, y3, y4⟩, ⟨z0, z1, z2, z3, z4⟩, ⟨v0', v1', v2', v3', v4'⟩⟩ := hSw; go_simp; (try with_reducible rfl))
         try simp only [Act.put, List.setIfInBounds_toArray, List.set_cons_succ, List.set_cons_zero]
         refine anyK_take2 (i := 13) (v := ?v13_27) rfl (by kernel_rfl) (by kernel_rfl) (by kernel_rfl) (by rfl) (fun _ _ _ h => h) (by rfl) hHeld ?hy13_27 (some 28) (by rfl) ?rest13_27
         case hy13_27 => (intro W hSw; obtain ⟨⟨x0, x1, x2, x3⟩, ⟨y0, y1, y2, y3, y4⟩, ⟨z0, z1, z2, z3, z4⟩, ⟨v0', v1', v2', v3', v4'⟩⟩ := hSw; go_simp; (try with_reducible rfl))
         try simp only [Act.put, List.setIfInBounds_toArray, List.set_cons_succ, List.set_cons_zero]
         refine anyK_take2 (i := 14) (v := ?v14_28) rfl (by kernel_rfl) (by kernel_rfl) (by kernel_rfl) (by rfl) (fun _ _ _ h => h) (by rfl) hHeld ?hy14_28 (some 29) (by rfl) ?rest14_28
         case hy14_28 => (intro W hSw; obtain ⟨⟨x0, x1, x2, x3⟩, ⟨y0, y1, y2, y3, y4⟩, ⟨z0, z1, z2, z3, z4⟩, ⟨v0', v1', v2', v3', v4'⟩⟩ := hSw; go_simp; (try with_reducible rfl))
         try simp only [Act.put, List.setIfInBounds_toArray, List.set_cons_succ, List.set_cons_zero]
         refine anyK_take2 (i := 15) (v := ?v15_29) rfl (by kernel_rfl) (by kernel_rfl) (by kernel_rfl) (by rfl) (fun _ _ _ h => h) (by rfl) hHeld ?hy15_29 (some 30) (by rfl) ?rest15_29
         case hy15_29 => (intro W hSw; obtain ⟨⟨x0, x1, x2, x3⟩, ⟨y0, y1, y2, y3, y4⟩, ⟨z0, z1, z2, z3, z4⟩, ⟨v0', v1', v2', v3', v4'⟩⟩ := hSw; go_simp; (try with_reducible rfl))
         try simp only [Act.put, List.setIfInBounds_toArray, List.set_cons_succ, List.set_cons_zero]
         refine anyK_take2 (i := 16) (v := ?v16_30) rfl (by kernel_rfl) (by kernel_rfl) (by kernel_rfl) (by rfl) (fun _ _ _ h => h) (by rfl) hHeld ?hy16_30 (some 31) (by rfl) ?rest16_30
         case hy16_30 => (intro W hSw; obtain ⟨⟨x0, x1, x2, x3⟩, ⟨y0, y1, y2, y3, y4⟩, ⟨z0, z1, z2, z3, z4⟩, ⟨v0', v1', v2', v3', v4'⟩⟩ := hSw; go_simp; (try with_reducible rfl))
         try simp only [Act.put, List.setIfInBounds_toArray, List.set_cons_succ, List.set_cons_zero]
         refine anyK_take2 (i := 17) (v := ?v17_31) rfl (by kernel_rfl) (by kernel_rfl) (by kernel_rfl) (by rfl) (fun _ _ _ h => h) (by rfl) hHeld ?hy17_31 (some 32) (by rfl) ?rest17_31
         case hy17_31 => (intro W hSw; obtain ⟨⟨x0, x1, x2, x3⟩, ⟨y0, y1, y2, y3, y4⟩, ⟨z0, z1, z2, z3, z4⟩, ⟨v0', v1', v2', v3', v4'⟩⟩ := hSw; go_simp; (try with_reducible rfl))
         try simp only [Act.put, List.setIfInBounds_toArray, List.set_cons_succ, List.set_cons_zero]
         refine anyK_take2 (i := 18) (v := ?v18_32) rfl (by kernel_rfl) (by kernel_rfl) (by kernel_rfl) (by rfl) (fun _ _ _ h => h) (by rfl) hHeld ?hy18_32 (some 33) (by rfl) ?rest18_32
         case hy18_32 => (intro W hSw; obtain ⟨⟨x0, x1, x2, x3⟩, ⟨y0, y1, y2, y3, y4⟩, ⟨z0, z1, z2, z3, z4⟩, ⟨v0', v1', v2', v3', v4'⟩⟩ := hSw; go_simp; (try with_reducible rfl))
         try simp only [Act.put, List.setIfInBounds_toArray, List.set_cons_succ, List.set_cons_zero]
         refine anyK_take2 (i := 19) (v := ?v19_33) rfl (by kernel_rfl) (by kernel_rfl) (by kernel_rfl) (by rfl) (fun _ _ _ h => h) (by rfl) hHeld ?hy19_33 (some 34) (by rfl) ?rest19_33
         case hy19_33 => (intro W hSw; obtain ⟨⟨x0, x1, x2, x3⟩, ⟨y0, y1, y2, y3, y4⟩, ⟨z0, z1, z2, z3, z4⟩, ⟨v0', v1', v2', v3', v4'⟩⟩ := hSw; go_simp; (try with_reducible rfl))
         try simp only [Act.put, List.setIfInBounds_toArray, List.set_cons_succ, List.set_cons_zero]
         refine anyK_take2 (i := 20) (v := ?v20_34) rfl (by kernel_rfl) (by kernel_rfl) (by kernel_rfl) (by rfl) (fun _ _ _ h => h) (by rfl) hHeld ?hy20_34 (some 35) (by rfl) ?rest20_34
         case hy20_34 => (intro W hSw; obtain ⟨⟨x0, x1, x2, x3⟩, ⟨y0, y1, y2, y3, y4⟩, ⟨z0, z1, z2, z3, z4⟩, ⟨v0', v1', v2', v3', v4'⟩⟩ := hSw; go_simp; (try with_reducible rfl))
         try simp only [Act.put, List.setIfInBounds_toArray, List.set_cons_succ, List.set_cons_zero]
         refine anyK_take2 (i := 21) (v := ?v21_35) rfl (by kernel_rfl) (by kernel_rfl) (by kernel_rfl) (by rfl) (fun _ _ _ h => h) (by rfl) hHeld ?hy21_35 (some 36) (by rfl) ?rest21_35
         case hy21_35 => (intro W hSw; obtain ⟨⟨x0, x1, x2, x3⟩, ⟨y0, y1, y2, y3, y4⟩, ⟨z0, z1, z2, z3, z4⟩, ⟨v0', v1', v2', v3', v4'⟩⟩ := hSw; go_simp; (try with_reducible rfl))
         try simp only [Act.put, List.setIfInBounds_toArray, List.set_cons_succ, List.set_cons_zero]
         refine anyK_take2 (i := 22) (v := ?v22_36) rfl (by kernel_rfl) (by kernel_rfl) (by kernel_rfl) (by rfl) (fun _ _ _ h => h) (by rfl) hHeld ?hy22_36 (some 37) (by rfl) ?rest22_36
         case hy22_36 => (intro W hSw; obtain ⟨⟨x0, x1, x2, x3⟩, ⟨y0, y1, y2, y3, y4⟩, ⟨z0, z1, z2, z3, z4⟩, ⟨v0', v1', v2', v3', v4'⟩⟩ := hSw; go_simp; (try with_reducible rfl))
         try simp only [Act.put, List.setIfInBounds_toArray, List.set_cons_succ, List.set_cons_zero]
         refine anyK_take2 (i := 23) (v := ?v23_37) rfl (by kernel_rfl) (by kernel_rfl) (by kernel_rfl) (by rfl) (fun _ _ _ h => h) (by rfl) hHeld ?hy23_37 (some 38) (by rfl) ?rest23_37
         case hy23_37 => (intro W hSw; obtain ⟨⟨x0, x1, x2, x3⟩, ⟨y0, y1, y2, y3, y4⟩, ⟨z0, z1, z2, z3, z4⟩, ⟨v0', v1', v2', v3', v4'⟩⟩ := hSw; go_simp; (try with_reducible rfl))
         try simp only [Act.put, List.setIfInBounds_toArray, List.set_cons_succ, List.set_cons_zero]
         refine anyK_take2 (i := 24) (v := ?v24_38) rfl (by kernel_rfl) (by kernel_rfl) (by kernel_rfl) (by rfl) (fun _ _ _ h => h) (by rfl) hHeld ?hy24_38 (some 39) (by rfl) ?rest24_38
         case hy24_38 => (intro W hSw; obtain ⟨⟨x0, x1, x2, x3⟩, ⟨y0, y1, y2, y3, y4⟩, ⟨z0, z1, z2, z3, z4⟩, ⟨v0', v1', v2', v3', v4'⟩⟩ := hSw; go_simp; (try with_reducible rfl))
         try simp only [Act.put, List.setIfInBounds_toArray, List.set_cons_succ, List.set_cons_zero]
         refine anyK_take2 (i := 25) (v := ?v25_39) rfl (by kernel_rfl) (by kernel_rfl) (by kernel_rfl) (by rfl) (fun _ _ _ h => h) (by rfl) hHeld ?hy25_39 (some 40) (by rfl) ?rest25_39
         case hy25_39 => (intro W hSw; obtain ⟨⟨x0, x1, x2, x3⟩, ⟨y0, y1, y2, y3, y4⟩, ⟨z0, z1, z2, z3, z4⟩, ⟨v0', v1', v2', v3', v4'⟩⟩ := hSw; go_simp; (try with_reducible rfl))
         try simp only [Act.put, List.setIfInBounds_toArray, List.set_cons_succ, List.set_cons_zero]
         rcases hor with hl | ⟨qq, hl, hqn⟩
         · have HN2 := hid (show (i : Int) = bhL ts d ⟨K, N, F, Z⟩ (i + 1) by rw [bhL_succ, ← HLb.out]; unfold bhF; rw [if_pos ⟨hid0, by rw [HTi.out.1, HH.out], by rw [HTi.out.2.1, HTd.out]; exact hlt2, .inl (by omega)⟩])
           have hb0 : l < 0 := by omega
           subst hl
           refine anyK_take2 (i := 26) (v := ?v26_40) rfl (by kernel_rfl) (by kernel_rfl) (by kernel_rfl) (by rfl) (fun _ _ _ h => h) (by rfl) hHeld ?hy26_40 (some 41) (by rfl) ?rest26_40
           case hy26_40 => (intro W hSw; obtain ⟨⟨x0, x1, x2, x3⟩, ⟨y0, y1, y2, y3, y4⟩, ⟨z0, z1, z2, z3, z4⟩, ⟨v0', v1', v2', v3', v4'⟩⟩ := hSw; go_simp; (try with_reducible rfl))
           try simp only [Act.put, List.setIfInBounds_toArray, List.set_cons_succ, List.set_cons_zero]
           refine anyK_take2 (i := 27) (v := ?v27_41) rfl (by kernel_rfl) (by kernel_rfl) (by kernel_rfl) (by rfl) (fun _ _ _ h => h) (by rfl) hHeld ?hy27_41 (some 42) (by rfl) ?rest27_41
           case hy27_41 => (intro W hSw; obtain ⟨⟨x0, x1, x2, x3⟩, ⟨y0, y1, y2, y3, y4⟩, ⟨z0, z1, z2, z3, z4⟩, ⟨v0', v1', v2', v3', v4'⟩⟩ := hSw; go_simp; (try with_reducible rfl))
           try simp only [Act.put, List.setIfInBounds_toArray, List.set_cons_succ, List.set_cons_zero]
           refine anyK_take2 (i := 28) (v := ?v28_42) rfl (by kernel_rfl) (by kernel_rfl) (by kernel_rfl) (by rfl) (fun _ _ _ h => h) (by rfl) hHeld ?hy28_42 (some 43) (by rfl) ?rest28_42
           case hy28_42 => (intro W hSw; obtain ⟨⟨x0, x1, x2, x3⟩, ⟨y0, y1, y2, y3, y4⟩, ⟨z0, z1, z2, z3, z4⟩, ⟨v0', v1', v2', v3', v4'⟩⟩ := hSw; go_simp; (try with_reducible rfl))
           try simp only [Act.put, List.setIfInBounds_toArray, List.set_cons_succ, List.set_cons_zero]
           refine anyK_skip (i := 29) rfl (by kernel_rfl) (by kernel_rfl) (by kernel_rfl) (by kernel_rfl) (fun _ _ _ h => h) (by rfl) hHeld (some 44) (by rfl) ?_
           try simp only [Act.put, List.setIfInBounds_toArray, List.set_cons_succ, List.set_cons_zero]
           refine anyK_skip (i := 30) rfl (by kernel_rfl) (by kernel_rfl) (by kernel_rfl) (by kernel_rfl) (fun _ _ _ h => h) (by rfl) hHeld (some 45) (by rfl) ?_
           try simp only [Act.put, List.setIfInBounds_toArray, List.set_cons_succ, List.set_cons_zero]
           refine anyK_skip (i := 31) rfl (by kernel_rfl) (by kernel_rfl) (by kernel_rfl) (by kernel_rfl) (fun _ _ _ h => h) (by rfl) hHeld (some 46) (by rfl) ?_
           try simp only [Act.put, List.setIfInBounds_toArray, List.set_cons_succ, List.set_cons_zero]
           refine anyK_skip (i := 32) rfl (by kernel_rfl) (by kernel_rfl) (by kernel_rfl) (by kernel_rfl) (fun _ _ _ h => h) (by rfl) hHeld (some 47) (by rfl) ?_
           try simp only [Act.put, List.setIfInBounds_toArray, List.set_cons_succ, List.set_cons_zero]
           refine anyK_skip (i := 33) rfl (by kernel_rfl) (by kernel_rfl) (by kernel_rfl) (by kernel_rfl) (fun _ _ _ h => h) (by rfl) hHeld (some 48) (by rfl) ?_
           try simp only [Act.put, List.setIfInBounds_toArray, List.set_cons_succ, List.set_cons_zero]
           refine anyK_skip (i := 34) rfl (by kernel_rfl) (by kernel_rfl) (by kernel_rfl) (by kernel_rfl) (fun _ _ _ h => h) (by rfl) hHeld (some 49) (by rfl) ?_
           try simp only [Act.put, List.setIfInBounds_toArray, List.set_cons_succ, List.set_cons_zero]
           refine anyK_skip (i := 35) rfl (by kernel_rfl) (by kernel_rfl) (by kernel_rfl) (by kernel_rfl) (fun _ _ _ h => h) (by rfl) hHeld (some 50) (by rfl) ?_
           try simp only [Act.put, List.setIfInBounds_toArray, List.set_cons_succ, List.set_cons_zero]
           refine anyK_skip (i := 36) rfl (by kernel_rfl) (by kernel_rfl) (by kernel_rfl) (by kernel_rfl) (fun _ _ _ h => h) (by rfl) hHeld (some 51) (by rfl) ?_
           try simp only [Act.put, List.setIfInBounds_toArray, List.set_cons_succ, List.set_cons_zero]
           refine anyK_skip (i := 37) rfl (by kernel_rfl) (by kernel_rfl) (by kernel_rfl) (by kernel_rfl) (fun _ _ _ h => h) (by rfl) hHeld (some 52) (by rfl) ?_
           try simp only [Act.put, List.setIfInBounds_toArray, List.set_cons_succ, List.set_cons_zero]
           refine anyK_skip (i := 38) rfl (by kernel_rfl) (by kernel_rfl) (by kernel_rfl) (by kernel_rfl) (fun _ _ _ h => h) (by rfl) hHeld (some 53) (by rfl) ?_
           try simp only [Act.put, List.setIfInBounds_toArray, List.set_cons_succ, List.set_cons_zero]
           refine anyK_skip (i := 39) rfl (by kernel_rfl) (by kernel_rfl) (by kernel_rfl) (by kernel_rfl) (fun _ _ _ h => h) (by rfl) hHeld (some 54) (by rfl) ?_
           try simp only [Act.put, List.setIfInBounds_toArray, List.set_cons_succ, List.set_cons_zero]
           refine anyK_take2 (i := 40) (v := ?v40_43) rfl (by kernel_rfl) (by kernel_rfl) (by kernel_rfl) (by rfl) (fun _ _ _ h => h) (by rfl) hHeld ?hy40_43 (some 55) (by rfl) ?rest40_43
           case hy40_43 => (intro W hSw; obtain ⟨⟨x0, x1, x2, x3⟩, ⟨y0, y1, y2, y3, y4⟩, ⟨z0, z1, z2, z3, z4⟩, ⟨v0', v1', v2', v3', v4'⟩⟩ := hSw; go_simp; (try with_reducible rfl))
           try simp only [Act.put, List.setIfInBounds_toArray, List.set_cons_succ, List.set_cons_zero]
           refine anyK_take2 (i := 41) (v := ?v41_44) rfl (by kernel_rfl) (by kernel_rfl) (by kernel_rfl) (by rfl) (fun _ _ _ h => h) (by rfl) hHeld ?hy41_44 (some 56) (by rfl) ?rest41_44
           case hy41_44 => (intro W hSw; obtain ⟨⟨x0, x1, x2, x3⟩, ⟨y0, y1, y2, y3, y4⟩, ⟨z0, z1, z2, z3, z4⟩, ⟨v0', v1', v2', v3', v4'⟩⟩ := hSw; go_simp; (try with_reducible rfl))
           try simp only [Act.put, List.setIfInBounds_toArray, List.set_cons_succ, List.set_cons_zero]
           refine anyK_done (by kernel_rfl) ?_ _
           clear hHeld
           go_wp2_with fail
           go_roundw
           case rel => exact ⟨i + 1, i, by omega, by go_num, rfl, HN2, HWE⟩
           case measure => simp [intOf]; omega
         · subst hl
           obtain rfl : q = qq := by have := HQq.out qq rfl; omega
           have hb0 : ¬ (q : Int) < 0 := by omega
           have hb0' : decide ((q : Int) < 0) = false := decide_eq_false hb0
           have hqn' : (q : Int) < (n : Int) := by omega
           have hq0 : (0 : Int) ≤ (q : Int) := by omega
           clear hb0
           by_cases hgt : tq.ended < ti.ended
           · have HN2 := hid (show (i : Int) = bhL ts d ⟨K, N, F, Z⟩ (i + 1) by rw [bhL_succ, ← HLb.out]; unfold bhF; rw [if_pos ⟨hid0, by rw [HTi.out.1, HH.out], by rw [HTi.out.2.1, HTd.out]; exact hlt2, .inr (by rw [Int.toNat_natCast, HTq.out, HTi.out.2.1]; exact hgt)⟩])
             refine anyK_take2 (i := 26) (v := ?v26_45) rfl (by kernel_rfl) (by kernel_rfl) (by kernel_rfl) (by rfl) (fun _ _ _ h => h) (by rfl) hHeld ?hy26_45 (some 41) (by rfl) ?rest26_45
             case hy26_45 => (intro W hSw; obtain ⟨⟨x0, x1, x2, x3⟩, ⟨y0, y1, y2, y3, y4⟩, ⟨z0, z1, z2, z3, z4⟩, ⟨v0', v1', v2', v3', v4'⟩⟩ := hSw; go_simp; (try with_reducible rfl))
             try simp only [Act.put, List.setIfInBounds_toArray, List.set_cons_succ, List.set_cons_zero]
             refine anyK_take2 (i := 27) (v := ?v27_46) rfl (by kernel_rfl) (by kernel_rfl) (by kernel_rfl) (by rfl) (fun _ _ _ h => h) (by rfl) hHeld ?hy27_46 (some 42) (by rfl) ?rest27_46
             case hy27_46 => (intro W hSw; obtain ⟨⟨x0, x1, x2, x3⟩, ⟨y0, y1, y2, y3, y4⟩, ⟨z0, z1, z2, z3, z4⟩, ⟨v0', v1', v2', v3', v4'⟩⟩ := hSw; go_simp; (try with_reducible rfl))
             try simp only [Act.put, List.setIfInBounds_toArray, List.set_cons_succ, List.set_cons_zero]
             refine anyK_take2 (i := 28) (v := ?v28_47) rfl (by kernel_rfl) (by kernel_rfl) (by kernel_rfl) (by rfl) (fun _ _ _ h => h) (by rfl) hHeld ?hy28_47 (some 43) (by rfl) ?rest28_47
             case hy28_47 => (intro W hSw; obtain ⟨⟨x0, x1, x2, x3⟩, ⟨y0, y1, y2, y3, y4⟩, ⟨z0, z1, z2, z3, z4⟩, ⟨v0', v1', v2', v3', v4'⟩⟩ := hSw; go_simp; (try with_reducible rfl))
             try simp only [Act.put, List.setIfInBounds_toArray, List.set_cons_succ, List.set_cons_zero]
             refine anyK_take2 (i := 29) (v := ?v29_48) rfl (by kernel_rfl) (by kernel_rfl) (by kernel_rfl) (by rfl) (fun _ _ _ h => h) (by rfl) hHeld ?hy29_48 (some 44) (by rfl) ?rest29_48
             case hy29_48 => (intro W hSw; obtain ⟨⟨x0, x1, x2, x3⟩, ⟨y0, y1, y2, y3, y4⟩, ⟨z0, z1, z2, z3, z4⟩, ⟨v0', v1', v2', v3', v4'⟩⟩ := hSw; go_simp; (try with_reducible rfl))
             try simp only [Act.put, List.setIfInBounds_toArray, List.set_cons_succ, List.set_cons_zero]
             refine anyK_take2 (i := 30) (v := ?v30_49) rfl (by kernel_rfl) (by kernel_rfl) (by kernel_rfl) (by rfl) (fun _ _ _ h => h) (by rfl) hHeld ?hy30_49 (some 45) (by rfl) ?rest30_49
             case hy30_49 => (intro W hSw; obtain ⟨⟨x0, x1, x2, x3⟩, ⟨y0, y1, y2, y3, y4⟩, ⟨z0, z1, z2, z3, z4⟩, ⟨v0', v1', v2', v3', v4'⟩⟩ := hSw; go_simp; (try with_reducible rfl))
             try simp only [Act.put, List.setIfInBounds_toArray, List.set_cons_succ, List.set_cons_zero]
             refine anyK_take2 (i := 31) (v := ?v31_50) rfl (by kernel_rfl) (by kernel_rfl) (by kernel_rfl) (by rfl) (fun _ _ _ h => h) (by rfl) hHeld ?hy31_50 (some 46) (by rfl) ?rest31_50
             case hy31_50 => (intro W hSw; obtain ⟨⟨x0, x1, x2, x3⟩, ⟨y0, y1, y2, y3, y4⟩, ⟨z0, z1, z2, z3, z4⟩, ⟨v0', v1', v2', v3', v4'⟩⟩ := hSw; go_simp; (try with_reducible rfl))
             try simp only [Act.put, List.setIfInBounds_toArray, List.set_cons_succ, List.set_cons_zero]
             refine anyK_take2 (i := 32) (v := ?v32_51) rfl (by kernel_rfl) (by kernel_rfl) (by kernel_rfl) (by rfl) (fun _ _ _ h => h) (by rfl) hHeld ?hy32_51 (some 47) (by rfl) ?rest32_51
             case hy32_51 => (intro W hSw; obtain ⟨⟨x0, x1, x2, x3⟩, ⟨y0, y1, y2, y3, y4⟩, ⟨z0, z1, z2, z3, z4⟩, ⟨v0', v1', v2', v3', v4'⟩⟩ := hSw; go_simp; (try with_reducible rfl))
             try simp only [Act.put, List.setIfInBounds_toArray, List.set_cons_succ, List.set_cons_zero]
             refine anyK_take2 (i := 33) (v := ?v33_52) rfl (by kernel_rfl) (by kernel_rfl) (by kernel_rfl) (by rfl) (fun _ _ _ h => h) (by rfl) hHeld ?hy33_52 (some 48) (by rfl) ?rest33_52
             case hy33_52 => (intro W hSw; obtain ⟨⟨x0, x1, x2, x3⟩, ⟨y0, y1, y2, y3, y4⟩, ⟨z0, z1, z2, z3, z4⟩, ⟨v0', v1', v2', v3', v4'⟩⟩ := hSw; go_simp; (try with_reducible rfl))
             try simp only [Act.put, List.setIfInBounds_toArray, List.set_cons_succ, List.set_cons_zero]
             refine anyK_take2 (i := 34) (v := ?v34_53) rfl (by kernel_rfl) (by kernel_rfl) (by kernel_rfl) (by rfl) (fun _ _ _ h => h) (by rfl) hHeld ?hy34_53 (some 49) (by rfl) ?rest34_53
             case hy34_53 => (intro W hSw; obtain ⟨⟨x0, x1, x2, x3⟩, ⟨y0, y1, y2, y3, y4⟩, ⟨z0, z1, z2, z3, z4⟩, ⟨v0', v1', v2', v3', v4'⟩⟩ := hSw; go_simp; (try with_reducible rfl))
             try simp only [Act.put, List.setIfInBounds_toArray, List.set_cons_succ, List.set_cons_zero]
             refine anyK_take2 (i := 35) (v := ?v35_54) rfl (by kernel_rfl) (by kernel_rfl) (by kernel_rfl) (by rfl) (fun _ _ _ h => h) (by rfl) hHeld ?hy35_54 (some 50) (by rfl) ?rest35_54
             case hy35_54 => (intro W hSw; obtain ⟨⟨x0, x1, x2, x3⟩, ⟨y0, y1, y2, y3, y4⟩, ⟨z0, z1, z2, z3, z4⟩, ⟨v0', v1', v2', v3', v4'⟩⟩ := hSw; go_simp; (try with_reducible rfl))
             try simp only [Act.put, List.setIfInBounds_toArray, List.set_cons_succ, List.set_cons_zero]
             refine anyK_take2 (i := 36) (v := ?v36_55) rfl (by kernel_rfl) (by kernel_rfl) (by kernel_rfl) (by rfl) (fun _ _ _ h => h) (by rfl) hHeld ?hy36_55 (some 51) (by rfl) ?rest36_55
             case hy36_55 => (intro W hSw; obtain ⟨⟨x0, x1, x2, x3⟩, ⟨y0, y1, y2, y3, y4⟩, ⟨z0, z1, z2, z3, z4⟩, ⟨v0', v1', v2', v3', v4'⟩⟩ := hSw; go_simp; (try with_reducible rfl))
             try simp only [Act.put, List.setIfInBounds_toArray, List.set_cons_succ, List.set_cons_zero]
             refine anyK_take2 (i := 37) (v := ?v37_56) rfl (by kernel_rfl) (by kernel_rfl) (by kernel_rfl) (by rfl) (fun _ _ _ h => h) (by rfl) hHeld ?hy37_56 (some 52) (by rfl) ?rest37_56
             case hy37_56 => (intro W hSw; obtain ⟨⟨x0, x1, x2, x3⟩, ⟨y0, y1, y2, y3, y4⟩, ⟨z0, z1, z2, z3, z4⟩, ⟨v0', v1', v2', v3', v4'⟩⟩ := hSw; go_simp; (try with_reducible rfl))
             try simp only [Act.put, List.setIfInBounds_toArray, List.set_cons_succ, List.set_cons_zero]
             refine anyK_take2 (i := 38) (v := ?v38_57) rfl (by kernel_rfl) (by kernel_rfl) (by kernel_rfl) (by rfl) (fun _ _ _ h => h) (by rfl) hHeld ?hy38_57 (some 53) (by rfl) ?rest38_57
             case hy38_57 => (intro W hSw; obtain ⟨⟨x0, x1, x2, x3⟩, ⟨y0, y1, y2, y3, y4⟩, ⟨z0, z1, z2, z3, z4⟩, ⟨v0', v1', v2', v3', v4'⟩⟩ := hSw; go_simp; (try with_reducible rfl))
             try simp only [Act.put, List.setIfInBounds_toArray, List.set_cons_succ, List.set_cons_zero]
             refine anyK_take2 (i := 39) (v := ?v39_58) rfl (by kernel_rfl) (by kernel_rfl) (by kernel_rfl) (by rfl) (fun _ _ _ h => h) (by rfl) hHeld ?hy39_58 (some 54) (by rfl) ?rest39_58
             case hy39_58 => (intro W hSw; obtain ⟨⟨x0, x1, x2, x3⟩, ⟨y0, y1, y2, y3, y4⟩, ⟨z0, z1, z2, z3, z4⟩, ⟨v0', v1', v2', v3', v4'⟩⟩ := hSw; go_simp; (try with_reducible rfl))
             try simp only [Act.put, List.setIfInBounds_toArray, List.set_cons_succ, List.set_cons_zero]
             refine anyK_take2 (i := 40) (v := ?v40_59) rfl (by kernel_rfl) (by kernel_rfl) (by kernel_rfl) (by rfl) (fun _ _ _ h => h) (by rfl) hHeld ?hy40_59 (some 55) (by rfl) ?rest40_59
             case hy40_59 => (intro W hSw; obtain ⟨⟨x0, x1, x2, x3⟩, ⟨y0, y1, y2, y3, y4⟩, ⟨z0, z1, z2, z3, z4⟩, ⟨v0', v1', v2', v3', v4'⟩⟩ := hSw; go_simp; (try with_reducible rfl))
             try simp only [Act.put, List.setIfInBounds_toArray, List.set_cons_succ, List.set_cons_zero]
             refine anyK_take2 (i := 41) (v := ?v41_60) rfl (by kernel_rfl) (by kernel_rfl) (by kernel_rfl) (by rfl) (fun _ _ _ h => h) (by rfl) hHeld ?hy41_60 (some 56) (by rfl) ?rest41_60
             case hy41_60 => (intro W hSw; obtain ⟨⟨x0, x1, x2, x3⟩, ⟨y0, y1, y2, y3, y4⟩, ⟨z0, z1, z2, z3, z4⟩, ⟨v0', v1', v2', v3', v4'⟩⟩ := hSw; go_simp; (try with_reducible rfl))
             try simp only [Act.put, List.setIfInBounds_toArray, List.set_cons_succ, List.set_cons_zero]
             refine anyK_done (by kernel_rfl) ?_ _
             clear hHeld
             go_wp2_with fail
             go_roundw
             case rel => exact ⟨i + 1, i, by omega, by go_num, rfl, HN2, HWE⟩
             case measure => simp [intOf]; omega
           · have HN2 := hid (show (q : Int) = bhL ts d ⟨K, N, F, Z⟩ (i + 1) by rw [bhL_succ, ← HLb.out]; unfold bhF; rw [if_neg (fun z => by rcases z.2.2.2 with z | z; omega; rw [Int.toNat_natCast, HTq.out, HTi.out.2.1] at z; exact hgt z)])
             have hgt' : decide (tq.ended < ti.ended) = false := decide_eq_false hgt
             clear hgt
             refine anyK_take2 (i := 26) (v := ?v26_61) rfl (by kernel_rfl) (by kernel_rfl) (by kernel_rfl) (by rfl) (fun _ _ _ h => h) (by rfl) hHeld ?hy26_61 (some 41) (by rfl) ?rest26_61
             case hy26_61 => (intro W hSw; obtain ⟨⟨x0, x1, x2, x3⟩, ⟨y0, y1, y2, y3, y4⟩, ⟨z0, z1, z2, z3, z4⟩, ⟨v0', v1', v2', v3', v4'⟩⟩ := hSw; go_simp; (try with_reducible rfl))
             try simp only [Act.put, List.setIfInBounds_toArray, List.set_cons_succ, List.set_cons_zero]
             refine anyK_take2 (i := 27) (v := ?v27_62) rfl (by kernel_rfl) (by kernel_rfl) (by kernel_rfl) (by rfl) (fun _ _ _ h => h) (by rfl) hHeld ?hy27_62 (some 42) (by rfl) ?rest27_62
             case hy27_62 => (intro W hSw; obtain ⟨⟨x0, x1, x2, x3⟩, ⟨y0, y1, y2, y3, y4⟩, ⟨z0, z1, z2, z3, z4⟩, ⟨v0', v1', v2', v3', v4'⟩⟩ := hSw; go_simp; (try with_reducible rfl))
             try simp only [Act.put, List.setIfInBounds_toArray, List.set_cons_succ, List.set_cons_zero]
             refine anyK_take2 (i := 28) (v := ?v28_63) rfl (by kernel_rfl) (by kernel_rfl) (by kernel_rfl) (by rfl) (fun _ _ _ h => h) (by rfl) hHeld ?hy28_63 (some 43) (by rfl) ?rest28_63
             case hy28_63 => (intro W hSw; obtain ⟨⟨x0, x1, x2, x3⟩, ⟨y0, y1, y2, y3, y4⟩, ⟨z0, z1, z2, z3, z4⟩, ⟨v0', v1', v2', v3', v4'⟩⟩ := hSw; go_simp; (try with_reducible rfl))
             try simp only [Act.put, List.setIfInBounds_toArray, List.set_cons_succ, List.set_cons_zero]
             refine anyK_take2 (i := 29) (v := ?v29_64) rfl (by kernel_rfl) (by kernel_rfl) (by kernel_rfl) (by rfl) (fun _ _ _ h => h) (by rfl) hHeld ?hy29_64 (some 44) (by rfl) ?rest29_64
             case hy29_64 => (intro W hSw; obtain ⟨⟨x0, x1, x2, x3⟩, ⟨y0, y1, y2, y3, y4⟩, ⟨z0, z1, z2, z3, z4⟩, ⟨v0', v1', v2', v3', v4'⟩⟩ := hSw; go_simp; (try with_reducible rfl))
             try simp only [Act.put, List.setIfInBounds_toArray, List.set_cons_succ, List.set_cons_zero]
             refine anyK_take2 (i := 30) (v := ?v30_65) rfl (by kernel_rfl) (by kernel_rfl) (by kernel_rfl) (by rfl) (fun _ _ _ h => h) (by rfl) hHeld ?hy30_65 (some 45) (by rfl) ?rest30_65
             case hy30_65 => (intro W hSw; obtain ⟨⟨x0, x1, x2, x3⟩, ⟨y0, y1, y2, y3, y4⟩, ⟨z0, z1, z2, z3, z4⟩, ⟨v0', v1', v2', v3', v4'⟩⟩ := hSw; go_simp; (try with_reducible rfl))
             try simp only [Act.put, List.setIfInBounds_toArray, List.set_cons_succ, List.set_cons_zero]
             refine anyK_take2 (i := 31) (v := ?v31_66) rfl (by kernel_rfl) (by kernel_rfl) (by kernel_rfl) (by rfl) (fun _ _ _ h => h) (by rfl) hHeld ?hy31_66 (some 46) (by rfl) ?rest31_66
             case hy31_66 => (intro W hSw; obtain ⟨⟨x0, x1, x2, x3⟩, ⟨y0, y1, y2, y3, y4⟩, ⟨z0, z1, z2, z3, z4⟩, ⟨v0', v1', v2', v3', v4'⟩⟩ := hSw; go_simp; (try with_reducible rfl))
             try simp only [Act.put, List.setIfInBounds_toArray, List.set_cons_succ, List.set_cons_zero]
             refine anyK_take2 (i := 32) (v := ?v32_67) rfl (by kernel_rfl) (by kernel_rfl) (by kernel_rfl) (by rfl) (fun _ _ _ h => h) (by rfl) hHeld ?hy32_67 (some 47) (by rfl) ?rest32_67
             case hy32_67 => (intro W hSw; obtain ⟨⟨x0, x1, x2, x3⟩, ⟨y0, y1, y2, y3, y4⟩, ⟨z0, z1, z2, z3, z4⟩, ⟨v0', v1', v2', v3', v4'⟩⟩ := hSw; go_simp; (try with_reducible rfl))
             try simp only [Act.put, List.setIfInBounds_toArray, List.set_cons_succ, List.set_cons_zero]
             refine anyK_take2 (i := 33) (v := ?v33_68) rfl (by kernel_rfl) (by kernel_rfl) (by kernel_rfl) (by rfl) (fun _ _ _ h => h) (by rfl) hHeld ?hy33_68 (some 48) (by rfl) ?rest33_68
             case hy33_68 => (intro W hSw; obtain ⟨⟨x0, x1, x2, x3⟩, ⟨y0, y1, y2, y3, y4⟩, ⟨z0, z1, z2, z3, z4⟩, ⟨v0', v1', v2', v3', v4'⟩⟩ := hSw; go_simp; (try with_reducible rfl))
             try simp only [Act.put, List.setIfInBounds_toArray, List.set_cons_succ, List.set_cons_zero]
             refine anyK_take2 (i := 34) (v := ?v34_69) rfl (by kernel_rfl) (by kernel_rfl) (by kernel_rfl) (by rfl) (fun _ _ _ h => h) (by rfl) hHeld ?hy34_69 (some 49) (by rfl) ?rest34_69
             case hy34_69 => (intro W hSw; obtain ⟨⟨x0, x1, x2, x3⟩, ⟨y0, y1, y2, y3, y4⟩, ⟨z0, z1, z2, z3, z4⟩, ⟨v0', v1', v2', v3', v4'⟩⟩ := hSw; go_simp; (try with_reducible rfl))
             try simp only [Act.put, List.setIfInBounds_toArray, List.set_cons_succ, List.set_cons_zero]
             refine anyK_take2 (i := 35) (v := ?v35_70) rfl (by kernel_rfl) (by kernel_rfl) (by kernel_rfl) (by rfl) (fun _ _ _ h => h) (by rfl) hHeld ?hy35_70 (some 50) (by rfl) ?rest35_70
             case hy35_70 => (intro W hSw; obtain ⟨⟨x0, x1, x2, x3⟩, ⟨y0, y1, y2, y3, y4⟩, ⟨z0, z1, z2, z3, z4⟩, ⟨v0', v1', v2', v3', v4'⟩⟩ := hSw; go_simp; (try with_reducible rfl))
             try simp only [Act.put, List.setIfInBounds_toArray, List.set_cons_succ, List.set_cons_zero]
             refine anyK_take2 (i := 36) (v := ?v36_71) rfl (by kernel_rfl) (by kernel_rfl) (by kernel_rfl) (by rfl) (fun _ _ _ h => h) (by rfl) hHeld ?hy36_71 (some 51) (by rfl) ?rest36_71
             case hy36_71 => (intro W hSw; obtain ⟨⟨x0, x1, x2, x3⟩, ⟨y0, y1, y2, y3, y4⟩, ⟨z0, z1, z2, z3, z4⟩, ⟨v0', v1', v2', v3', v4'⟩⟩ := hSw; go_simp; (try with_reducible rfl))
             try simp only [Act.put, List.setIfInBounds_toArray, List.set_cons_succ, List.set_cons_zero]
             refine anyK_take2 (i := 37) (v := ?v37_72) rfl (by kernel_rfl) (by kernel_rfl) (by kernel_rfl) (by rfl) (fun _ _ _ h => h) (by rfl) hHeld ?hy37_72 (some 52) (by rfl) ?rest37_72
             case hy37_72 => (intro W hSw; obtain ⟨⟨x0, x1, x2, x3⟩, ⟨y0, y1, y2, y3, y4⟩, ⟨z0, z1, z2, z3, z4⟩, ⟨v0', v1', v2', v3', v4'⟩⟩ := hSw; go_simp; (try with_reducible rfl))
             try simp only [Act.put, List.setIfInBounds_toArray, List.set_cons_succ, List.set_cons_zero]
             refine anyK_take2 (i := 38) (v := ?v38_73) rfl (by kernel_rfl) (by kernel_rfl) (by kernel_rfl) (by rfl) (fun _ _ _ h => h) (by rfl) hHeld ?hy38_73 (some 53) (by rfl) ?rest38_73
             case hy38_73 => (intro W hSw; obtain ⟨⟨x0, x1, x2, x3⟩, ⟨y0, y1, y2, y3, y4⟩, ⟨z0, z1, z2, z3, z4⟩, ⟨v0', v1', v2', v3', v4'⟩⟩ := hSw; go_simp; (try with_reducible rfl))
             try simp only [Act.put, List.setIfInBounds_toArray, List.set_cons_succ, List.set_cons_zero]
             refine anyK_take2 (i := 39) (v := ?v39_74) rfl (by kernel_rfl) (by kernel_rfl) (by kernel_rfl) (by rfl) (fun _ _ _ h => h) (by rfl) hHeld ?hy39_74 (some 54) (by rfl) ?rest39_74
             case hy39_74 => (intro W hSw; obtain ⟨⟨x0, x1, x2, x3⟩, ⟨y0, y1, y2, y3, y4⟩, ⟨z0, z1, z2, z3, z4⟩, ⟨v0', v1', v2', v3', v4'⟩⟩ := hSw; go_simp; (try with_reducible rfl))
             try simp only [Act.put, List.setIfInBounds_toArray, List.set_cons_succ, List.set_cons_zero]
             refine anyK_take2 (i := 40) (v := ?v40_75) rfl (by kernel_rfl) (by kernel_rfl) (by kernel_rfl) (by rfl) (fun _ _ _ h => h) (by rfl) hHeld ?hy40_75 (some 55) (by rfl) ?rest40_75
             case hy40_75 => (intro W hSw; obtain ⟨⟨x0, x1, x2, x3⟩, ⟨y0, y1, y2, y3, y4⟩, ⟨z0, z1, z2, z3, z4⟩, ⟨v0', v1', v2', v3', v4'⟩⟩ := hSw; go_simp; (try with_reducible rfl))
             try simp only [Act.put, List.setIfInBounds_toArray, List.set_cons_succ, List.set_cons_zero]
             refine anyK_take2 (i := 41) (v := ?v41_76) rfl (by kernel_rfl) (by kernel_rfl) (by kernel_rfl) (by rfl) (fun _ _ _ h => h) (by rfl) hHeld ?hy41_76 (some 56) (by rfl) ?rest41_76
             case hy41_76 => (intro W hSw; obtain ⟨⟨x0, x1, x2, x3⟩, ⟨y0, y1, y2, y3, y4⟩, ⟨z0, z1, z2, z3, z4⟩, ⟨v0', v1', v2', v3', v4'⟩⟩ := hSw; go_simp; (try with_reducible rfl))
             try simp only [Act.put, List.setIfInBounds_toArray, List.set_cons_succ, List.set_cons_zero]
             refine anyK_done (by kernel_rfl) ?_ _
             clear hHeld
             go_wp2_with fail
             go_roundw
             case rel => exact ⟨i + 1, q, by omega, by go_num, rfl, HN2, HWE⟩
             case measure => simp [intOf]; omega
       · have HN2 := hid (show l = bhL ts d ⟨K, N, F, Z⟩ (i + 1) by rw [bhL_succ, ← HLb.out]; unfold bhF; rw [if_neg (fun z => by have := z.2.2.1; rw [HTi.out.2.1, HTd.out] at this; exact hlt2 this)])
         have hlt3 : decide (ti.ended < td.begun) = false := decide_eq_false hlt2
         clear hor hlt2
         refine anyK_take2 (i := 11) (v := ?v11_77) rfl (by kernel_rfl) (by kernel_rfl) (by kernel_rfl) (by rfl) (fun _ _ _ h => h) (by rfl) hHeld ?hy11_77 (some 26) (by rfl) ?rest11_77
         case hy11_77 => (intro W hSw; obtain ⟨⟨x0, x1, x2, x3⟩, ⟨y0, y1, y2, y3, y4⟩, ⟨z0, z1, z2, z3, z4⟩, ⟨v0', v1', v2', v3', v4'⟩⟩ := hSw; go_simp; (try with_reducible rfl))
         try simp only [Act.put, List.setIfInBounds_toArray, List.set_cons_succ, List.set_cons_zero]
         refine anyK_take2 (i := 12) (v := ?v12_78) rfl (by kernel_rfl) (by kernel_rfl) (by kernel_rfl) (by rfl) (fun _ _ _ h => h) (by rfl) hHeld ?hy12_78 (some 27) (by rfl) ?rest12_78
         case hy12_78 => (intro W hSw; obtain ⟨⟨x0, x1, x2, x3⟩, ⟨y0, y1, y2, y3, y4⟩, ⟨z0, z1, z2, z3, z4⟩, ⟨v0', v1', v2', v3', v4'⟩⟩ := hSw; go_simp; (try with_reducible rfl))
         try simp only [Act.put, List.setIfInBounds_toArray, List.set_cons_succ, List.set_cons_zero]
         refine anyK_take2 (i := 13) (v := ?v13_79) rfl (by kernel_rfl) (by kernel_rfl) (by kernel_rfl) (by rfl) (fun _ _ _ h => h) (by rfl) hHeld ?hy13_79 (some 28) (by rfl) ?rest13_79
         case hy13_79 => (intro W hSw; obtain ⟨⟨x0, x1, x2, x3⟩, ⟨y0, y1, y2, y3, y4⟩, ⟨z0, z1, z2, z3, z4⟩, ⟨v0', v1', v2', v3', v4'⟩⟩ := hSw; go_simp; (try with_reducible rfl))
         try simp only [Act.put, List.setIfInBounds_toArray, List.set_cons_succ, List.set_cons_zero]
         refine anyK_take2 (i := 14) (v := ?v14_80) rfl (by kernel_rfl) (by kernel_rfl) (by kernel_rfl) (by rfl) (fun _ _ _ h => h) (by rfl) hHeld ?hy14_80 (some 29) (by rfl) ?rest14_80
         case hy14_80 => (intro W hSw; obtain ⟨⟨x0, x1, x2, x3⟩, ⟨y0, y1, y2, y3, y4⟩, ⟨z0, z1, z2, z3, z4⟩, ⟨v0', v1', v2', v3', v4'⟩⟩ := hSw; go_simp; (try with_reducible rfl))
         try simp only [Act.put, List.setIfInBounds_toArray, List.set_cons_succ, List.set_cons_zero]
         refine anyK_take2 (i := 15) (v := ?v15_81) rfl (by kernel_rfl) (by kernel_rfl) (by kernel_rfl) (by rfl) (fun _ _ _ h => h) (by rfl) hHeld ?hy15_81 (some 30) (by rfl) ?rest15_81
         case hy15_81 => (intro W hSw; obtain ⟨⟨x0, x1, x2, x3⟩, ⟨y0, y1, y2, y3, y4⟩, ⟨z0, z1, z2, z3, z4⟩, ⟨v0', v1', v2', v3', v4'⟩⟩ := hSw; go_simp; (try with_reducible rfl))
         try simp only [Act.put, List.setIfInBounds_toArray, List.set_cons_succ, List.set_cons_zero]
         refine anyK_take2 (i := 16) (v := ?v16_82) rfl (by kernel_rfl) (by kernel_rfl) (by kernel_rfl) (by rfl) (fun _ _ _ h => h) (by rfl) hHeld ?hy16_82 (some 31) (by rfl) ?rest16_82
         case hy16_82 => (intro W hSw; obtain ⟨⟨x0, x1, x2, x3⟩, ⟨y0, y1, y2, y3, y4⟩, ⟨z0, z1, z2, z3, z4⟩, ⟨v0', v1', v2', v3', v4'⟩⟩ := hSw; go_simp; (try with_reducible rfl))
         try simp only [Act.put, List.setIfInBounds_toArray, List.set_cons_succ, List.set_cons_zero]
         refine anyK_take2 (i := 17) (v := ?v17_83) rfl (by kernel_rfl) (by kernel_rfl) (by kernel_rfl) (by rfl) (fun _ _ _ h => h) (by rfl) hHeld ?hy17_83 (some 32) (by rfl) ?rest17_83
         case hy17_83 => (intro W hSw; obtain ⟨⟨x0, x1, x2, x3⟩, ⟨y0, y1, y2, y3, y4⟩, ⟨z0, z1, z2, z3, z4⟩, ⟨v0', v1', v2', v3', v4'⟩⟩ := hSw; go_simp; (try with_reducible rfl))
         try simp only [Act.put, List.setIfInBounds_toArray, List.set_cons_succ, List.set_cons_zero]
         refine anyK_take2 (i := 18) (v := ?v18_84) rfl (by kernel_rfl) (by kernel_rfl) (by kernel_rfl) (by rfl) (fun _ _ _ h => h) (by rfl) hHeld ?hy18_84 (some 33) (by rfl) ?rest18_84
         case hy18_84 => (intro W hSw; obtain ⟨⟨x0, x1, x2, x3⟩, ⟨y0, y1, y2, y3, y4⟩, ⟨z0, z1, z2, z3, z4⟩, ⟨v0', v1', v2', v3', v4'⟩⟩ := hSw; go_simp; (try with_reducible rfl))
         try simp only [Act.put, List.setIfInBounds_toArray, List.set_cons_succ, List.set_cons_zero]
         refine anyK_take2 (i := 19) (v := ?v19_85) rfl (by kernel_rfl) (by kernel_rfl) (by kernel_rfl) (by rfl) (fun _ _ _ h => h) (by rfl) hHeld ?hy19_85 (some 34) (by rfl) ?rest19_85
         case hy19_85 => (intro W hSw; obtain ⟨⟨x0, x1, x2, x3⟩, ⟨y0, y1, y2, y3, y4⟩, ⟨z0, z1, z2, z3, z4⟩, ⟨v0', v1', v2', v3', v4'⟩⟩ := hSw; go_simp; (try with_reducible rfl))
         try simp only [Act.put, List.setIfInBounds_toArray, List.set_cons_succ, List.set_cons_zero]
         refine anyK_take2 (i := 20) (v := ?v20_86) rfl (by kernel_rfl) (by kernel_rfl) (by kernel_rfl) (by rfl) (fun _ _ _ h => h) (by rfl) hHeld ?hy20_86 (some 35) (by rfl) ?rest20_86
         case hy20_86 => (intro W hSw; obtain ⟨⟨x0, x1, x2, x3⟩, ⟨y0, y1, y2, y3, y4⟩, ⟨z0, z1, z2, z3, z4⟩, ⟨v0', v1', v2', v3', v4'⟩⟩ := hSw; go_simp; (try with_reducible rfl))
         try simp only [Act.put, List.setIfInBounds_toArray, List.set_cons_succ, List.set_cons_zero]
         refine anyK_take2 (i := 21) (v := ?v21_87) rfl (by kernel_rfl) (by kernel_rfl) (by kernel_rfl) (by rfl) (fun _ _ _ h => h) (by rfl) hHeld ?hy21_87 (some 36) (by rfl) ?rest21_87
         case hy21_87 => (intro W hSw; obtain ⟨⟨x0, x1, x2, x3⟩, ⟨y0, y1, y2, y3, y4⟩, ⟨z0, z1, z2, z3, z4⟩, ⟨v0', v1', v2', v3', v4'⟩⟩ := hSw; go_simp; (try with_reducible rfl))
         try simp only [Act.put, List.setIfInBounds_toArray, List.set_cons_succ, List.set_cons_zero]
         refine anyK_take2 (i := 22) (v := ?v22_88) rfl (by kernel_rfl) (by kernel_rfl) (by kernel_rfl) (by rfl) (fun _ _ _ h => h) (by rfl) hHeld ?hy22_88 (some 37) (by rfl) ?rest22_88
         case hy22_88 => (intro W hSw; obtain ⟨⟨x0, x1, x2, x3⟩, ⟨y0, y1, y2, y3, y4⟩, ⟨z0, z1, z2, z3, z4⟩, ⟨v0', v1', v2', v3', v4'⟩⟩ := hSw; go_simp; (try with_reducible rfl))
         try simp only [Act.put, List.setIfInBounds_toArray, List.set_cons_succ, List.set_cons_zero]
         refine anyK_take2 (i := 23) (v := ?v23_89) rfl (by kernel_rfl) (by kernel_rfl) (by kernel_rfl) (by rfl) (fun _ _ _ h => h) (by rfl) hHeld ?hy23_89 (some 38) (by rfl) ?rest23_89
         case hy23_89 => (intro W hSw; obtain ⟨⟨x0, x1, x2, x3⟩, ⟨y0, y1, y2, y3, y4⟩, ⟨z0, z1, z2, z3, z4⟩, ⟨v0', v1', v2', v3', v4'⟩⟩ := hSw; go_simp; (try with_reducible rfl))
         try simp only [Act.put, List.setIfInBounds_toArray, List.set_cons_succ, List.set_cons_zero]
         refine anyK_take2 (i := 24) (v := ?v24_90) rfl (by kernel_rfl) (by kernel_rfl) (by kernel_rfl) (by rfl) (fun _ _ _ h => h) (by rfl) hHeld ?hy24_90 (some 39) (by rfl) ?rest24_90
         case hy24_90 => (intro W hSw; obtain ⟨⟨x0, x1, x2, x3⟩, ⟨y0, y1, y2, y3, y4⟩, ⟨z0, z1, z2, z3, z4⟩, ⟨v0', v1', v2', v3', v4'⟩⟩ := hSw; go_simp; (try with_reducible rfl))
         try simp only [Act.put, List.setIfInBounds_toArray, List.set_cons_succ, List.set_cons_zero]
         refine anyK_take2 (i := 25) (v := ?v25_91) rfl (by kernel_rfl) (by kernel_rfl) (by kernel_rfl) (by rfl) (fun _ _ _ h => h) (by rfl) hHeld ?hy25_91 (some 40) (by rfl) ?rest25_91
         case hy25_91 => (intro W hSw; obtain ⟨⟨x0, x1, x2, x3⟩, ⟨y0, y1, y2, y3, y4⟩, ⟨z0, z1, z2, z3, z4⟩, ⟨v0', v1', v2', v3', v4'⟩⟩ := hSw; go_simp; (try with_reducible rfl))
         try simp only [Act.put, List.setIfInBounds_toArray, List.set_cons_succ, List.set_cons_zero]
         refine anyK_skip (i := 26) rfl (by kernel_rfl) (by kernel_rfl) (by kernel_rfl) (by kernel_rfl) (fun _ _ _ h => h) (by rfl) hHeld (some 41) (by rfl) ?_
         try simp only [Act.put, List.setIfInBounds_toArray, List.set_cons_succ, List.set_cons_zero]
         refine anyK_skip (i := 27) rfl (by kernel_rfl) (by kernel_rfl) (by kernel_rfl) (by kernel_rfl) (fun _ _ _ h => h) (by rfl) hHeld (some 42) (by rfl) ?_
         try simp only [Act.put, List.setIfInBounds_toArray, List.set_cons_succ, List.set_cons_zero]
         refine anyK_skip (i := 28) rfl (by kernel_rfl) (by kernel_rfl) (by kernel_rfl) (by kernel_rfl) (fun _ _ _ h => h) (by rfl) hHeld (some 43) (by rfl) ?_
         try simp only [Act.put, List.setIfInBounds_toArray, List.set_cons_succ, List.set_cons_zero]
         refine anyK_skip (i := 29) rfl (by kernel_rfl) (by kernel_rfl) (by kernel_rfl) (by kernel_rfl) (fun _ _ _ h => h) (by rfl) hHeld (some 44) (by rfl) ?_
         try simp only [Act.put, List.setIfInBounds_toArray, List.set_cons_succ, List.set_cons_zero]
         refine anyK_skip (i := 30) rfl (by kernel_rfl) (by kernel_rfl) (by kernel_rfl) (by kernel_rfl) (fun _ _ _ h => h) (by rfl) hHeld (some 45) (by rfl) ?_
         try simp only [Act.put, List.setIfInBounds_toArray, List.set_cons_succ, List.set_cons_zero]
         refine anyK_skip (i := 31) rfl (by kernel_rfl) (by kernel_rfl) (by kernel_rfl) (by kernel_rfl) (fun _ _ _ h => h) (by rfl) hHeld (some 46) (by rfl) ?_
         try simp only [Act.put, List.setIfInBounds_toArray, List.set_cons_succ, List.set_cons_zero]
         refine anyK_skip (i := 32) rfl (by kernel_rfl) (by kernel_rfl) (by kernel_rfl) (by kernel_rfl) (fun _ _ _ h => h) (by rfl) hHeld (some 47) (by rfl) ?_
         try simp only [Act.put, List.setIfInBounds_toArray, List.set_cons_succ, List.set_cons_zero]
         refine anyK_skip (i := 33) rfl (by kernel_rfl) (by kernel_rfl) (by kernel_rfl) (by kernel_rfl) (fun _ _ _ h => h) (by rfl) hHeld (some 48) (by rfl) ?_
         try simp only [Act.put, List.setIfInBounds_toArray, List.set_cons_succ, List.set_cons_zero]
         refine anyK_skip (i := 34) rfl (by kernel_rfl) (by kernel_rfl) (by kernel_rfl) (by kernel_rfl) (fun _ _ _ h => h) (by rfl) hHeld (some 49) (by rfl) ?_
         try simp only [Act.put, List.setIfInBounds_toArray, List.set_cons_succ, List.set_cons_zero]
         refine anyK_skip (i := 35) rfl (by kernel_rfl) (by kernel_rfl) (by kernel_rfl) (by kernel_rfl) (fun _ _ _ h => h) (by rfl) hHeld (some 50) (by rfl) ?_
         try simp only [Act.put, List.setIfInBounds_toArray, List.set_cons_succ, List.set_cons_zero]
         refine anyK_skip (i := 36) rfl (by kernel_rfl) (by kernel_rfl) (by kernel_rfl) (by kernel_rfl) (fun _ _ _ h => h) (by rfl) hHeld (some 51) (by rfl) ?_
         try simp only [Act.put, List.setIfInBounds_toArray, List.set_cons_succ, List.set_cons_zero]
         refine anyK_skip (i := 37) rfl (by kernel_rfl) (by kernel_rfl) (by kernel_rfl) (by kernel_rfl) (fun _ _ _ h => h) (by rfl) hHeld (some 52) (by rfl) ?_
         try simp only [Act.put, List.setIfInBounds_toArray, List.set_cons_succ, List.set_cons_zero]
         refine anyK_skip (i := 38) rfl (by kernel_rfl) (by kernel_rfl) (by kernel_rfl) (by kernel_rfl) (fun _ _ _ h => h) (by rfl) hHeld (some 53) (by rfl) ?_
         try simp only [Act.put, List.setIfInBounds_toArray, List.set_cons_succ, List.set_cons_zero]
         refine anyK_skip (i := 39) rfl (by kernel_rfl) (by kernel_rfl) (by kernel_rfl) (by kernel_rfl) (fun _ _ _ h => h) (by rfl) hHeld (some 54) (by rfl) ?_
         try simp only [Act.put, List.setIfInBounds_toArray, List.set_cons_succ, List.set_cons_zero]
         refine anyK_skip (i := 40) rfl (by kernel_rfl) (by kernel_rfl) (by kernel_rfl) (by kernel_rfl) (fun _ _ _ h => h) (by rfl) hHeld (some 55) (by rfl) ?_
         try simp only [Act.put, List.setIfInBounds_toArray, List.set_cons_succ, List.set_cons_zero]
         refine anyK_take2 (i := 41) (v := ?v41_92) rfl (by kernel_rfl) (by kernel_rfl) (by kernel_rfl) (by rfl) (fun _ _ _ h => h) (by rfl) hHeld ?hy41_92 (some 56) (by rfl) ?rest41_92
         case hy41_92 => (intro W hSw; obtain ⟨⟨x0, x1, x2, x3⟩, ⟨y0, y1, y2, y3, y4⟩, ⟨z0, z1, z2, z3, z4⟩, ⟨v0', v1', v2', v3', v4'⟩⟩ := hSw; go_simp; (try with_reducible rfl))
         try simp only [Act.put, List.setIfInBounds_toArray, List.set_cons_succ, List.set_cons_zero]
         refine anyK_done (by kernel_rfl) ?_ _
         clear hHeld
         go_wp2_with fail
         go_roundw
         case rel => exact ⟨i + 1, l, by omega, by go_num, rfl, HN2, HWE⟩
         case measure => simp [intOf]; omega
  · have hlt' : ¬ (i : Int) < (n : Int) := by omega
    obtain rfl : i = n := by omega
    have HE := hid (show V = l by rw [← HV.out, HLb.out])
    go_wp2_with fail
    go_ret
    exact ⟨by rw [HE.out]; rfl, HB.out.trans (HW.out.mono HB.out.size)⟩
end Go.Proofs.YtjcjoabblafboaaGreat
