/- Texts of this proof in one: Hl14 Hm14 Hn14. -/
import Derived.Test.YtjcjoabblafboaaGreatMge
/- slices.BinarySearchFunc over ascending keys. Conditions: at most 2^20 keys, all right, the one that is looked for too. -/

namespace Go.Proofs.YtjcjoabblafboaaGreat
open Go.RowKit
set_option maxRecDepth 100000
structure LB (ks : List Im) (x : Im) (i : Nat) : Prop where
 le : i ≤ ks.length
 lt : ∀ j, j < i → cmpM (ks.getD j im0) x < 0
 ge : ∀ j, i ≤ j → j < ks.length → 0 ≤ cmpM (ks.getD j im0) x
theorem asc_at {ks : List Im} (h : ks.Pairwise (fun x y => cmpM x y < 0)) {i j : Nat} (hij : i < j) (hj : j < ks.length) : cmpM (ks.getD i im0) (ks.getD j im0) < 0 := by
 have := (List.pairwise_iff_getElem.1 h) i j (by omega) hj hij
 simpa [List.getD, hj, show i < ks.length by omega] using this
theorem ok_at {ks : List Im} (h : ∀ x ∈ ks, okM x = true) {i : Nat} (hi : i < ks.length) : okM (ks.getD i im0) = true := by
 rw [show ks.getD i im0 = ks[i] by simp [List.getD, hi]]; exact h _ (List.getElem_mem hi)
theorem lb_low {ks : List Im} {x : Im} (ok : ∀ x ∈ ks, okM x = true) (hx : okM x = true) (h : ks.Pairwise (fun x y => cmpM x y < 0)) {k : Nat} (hk : k < ks.length) (hc : cmpM (ks.getD k im0) x < 0) : ∀ j, j < k + 1 → cmpM (ks.getD j im0) x < 0 := by
 intro j hj
 by_cases e : j = k
 · subst e; exact hc
 · exact cmpM_trans (ok_at ok (by omega)) (ok_at ok hk) hx (asc_at h (by omega) hk) hc
theorem lb_high {ks : List Im} {x : Im} (ok : ∀ x ∈ ks, okM x = true) (hx : okM x = true) (h : ks.Pairwise (fun x y => cmpM x y < 0)) {k : Nat} (hk : k < ks.length) (hc : ¬ cmpM (ks.getD k im0) x < 0) : ∀ j, k ≤ j → j < ks.length → 0 ≤ cmpM (ks.getD j im0) x := by
 intro j hj hjl
 by_cases e : j = k
 · subst e; omega
 · by_cases q : cmpM (ks.getD j im0) x < 0
   · exact absurd (cmpM_trans (ok_at ok hk) (ok_at ok hjl) hx (asc_at h (by omega) hjl) q) hc
   · omega
theorem half (i j : Nat) (hi : i ≤ 1048576) (hj : j ≤ 1048576) : IntKind.i64.wrap ((i : Int) + (j : Int)) = ((i + j : Nat) : Int) := by simp [IntKind.wrap, IntKind.bits, IntKind.signed]; omega
set_option maxHeartbeats 6400000 in
theorem search_items {a : Option Addr} {n : Nat} (c : Nat) {ks : List Im} (K N : Int) (F : Nat) {p : Option Addr} {m : Nat} (d : Nat) {Z : List Int} {w : World} (h : ReadsM w a ks) (hl : ks.length = n) (hn : n ≤ 1048576) (ok : ∀ x ∈ ks, okM x = true) (asc : ks.Pairwise (fun x y => cmpM x y < 0)) (hx : Reads w p m Z) (hf : F < 18446744073709551616) (hm : Z.length = m) (okx : okM ⟨K, N, F, Z⟩ = true) :
 Calls Tryz.prog 149 #[.slice a n c, .agg #[.int .i64 K, .int .i64 N, .float .f64 F, .slice p m d], .func (.func 73) #[] #[]] w fun e w' => ∃ i : Nat, e = .returned (.tuple #[.int .i64 i, .bool (decide (i < n ∧ cmpM (ks.getD i im0) ⟨K, N, F, Z⟩ = 0))]) ∧ LB ks ⟨K, N, F, Z⟩ i ∧ Below w.heap.size w w' := by
 have HRM := hid h
 have HL := hid hl
 have HOK := hid ok
 have HAs := hid asc
 have HXr := hid hx
 have HXm := hid hm
 have HXo := hid okx
 have hm2 : m ≤ 40 := by have := okM_len okx; simp only at this; omega
 have HB := hid (Below.alloc1 w (.cells #[.int .i64 K, .int .i64 N, .float .f64 F, .slice p m d] 72))
 have HBx := hid (show Box4 (w.alloc (.cells #[.int .i64 K, .int .i64 N, .float .f64 F, .slice p m d] 72)) w.heap.size 0 K N F (.slice p m d) from ⟨by rw [cell_of_row _ _ _ _ _ _ (heap_alloc_new w _)]; rfl, by rw [cell_of_row _ _ _ _ _ _ (heap_alloc_new w _)]; rfl, by rw [cell_of_row _ _ _ _ _ _ (heap_alloc_new w _)]; rfl, by rw [cell_of_row _ _ _ _ _ _ (heap_alloc_new w _)]; rfl⟩)
 have HZ := hid (alloc_size w (.cells #[.int .i64 K, .int .i64 N, .float .f64 F, .slice p m d] 72))
 clear h hl ok asc hx hm okx
 go_enter Tryz.func149, Tryz.ntmps149
 go_wp2_with fail
 obtain ⟨w1, hw1⟩ : ∃ w1, w.alloc (.cells #[.int .i64 K, .int .i64 N, .float .f64 F, .slice p m d] 72) = w1 := ⟨_, rfl⟩
 rw [hw1] at HB HBx HZ
 try rw [hw1]
 clear hw1
 go_loopw [9, 10] (fun s9 s10 wr => ∃ i j : Nat, s9 = .int .i64 i ∧ s10 = .int .i64 j ∧ i ≤ j ∧ j ≤ n ∧ Hid (∀ t, t < i → cmpM (ks.getD t im0) ⟨K, N, F, Z⟩ < 0) ∧ Hid (∀ t, j ≤ t → t < ks.length → 0 ≤ cmpM (ks.getD t im0) ⟨K, N, F, Z⟩) ∧ Hid (Below w1.heap.size w1 wr)) (fun i j _ => (intOf j).toNat - (intOf i).toNat)
 case atStart => exact ⟨0, n, rfl, rfl, Nat.zero_le _, Nat.le_refl _, hid (fun t ht => by omega), hid (fun t h1 h2 => by have := HL.out; omega), hid (Below.refl _ _)⟩
 case round =>
  obtain ⟨i, j, rfl, rfl, hij, hjn, HLo, HHi, HW⟩ := hrel
  by_cases hlt : i < j
  · have hlt' : (i : Int) < (j : Int) := by omega
    obtain ⟨z, hz⟩ : ∃ z, (i + j) / 2 = z := ⟨_, rfl⟩
    have hzi : i ≤ z ∧ z < j := by omega
    have hzn : (z : Int) < (n : Int) := by omega
    have hz0 : (0 : Int) ≤ (z : Int) := by omega
    have hw1 : IntKind.i64.wrap ((i : Int) + (j : Int)) = ((i + j : Nat) : Int) := half i j (by omega) (by omega)
    have hw2 : IntKind.u64.wrap ((i + j : Nat) : Int) = ((i + j : Nat) : Int) := by simp [IntKind.wrap, IntKind.bits, IntKind.signed]; omega
    have hzz : ((i : Int) + (j : Int)) / 2 = (z : Int) := by omega
    clear hw1 hw2 hz
    obtain ⟨bk, off, p', b', rfl, bx, gr1, _, _, gf1⟩ := HRM.out.at (k := z) (by have := HL.out; omega)
    have HLow := hid (fun (q : cmpM (ks.getD z im0) ⟨K, N, F, Z⟩ < 0) => lb_low HOK.out HXo.out HAs.out (k := z) (by have := HL.out; omega) q)
    have HHig := hid (fun (q : ¬ cmpM (ks.getD z im0) ⟨K, N, F, Z⟩ < 0) => lb_high HOK.out HXo.out HAs.out (k := z) (by have := HL.out; omega) q)
    have hzk := okM_len (ok_at HOK.out (i := z) (by have := HL.out; omega))
    have HCm := hid (show cmpM (ks.getD z im0) ⟨K, N, F, Z⟩ = cmpI (ks.getD z im0).K (ks.getD z im0).N (ks.getD z im0).F (ks.getD z im0).Z.length (ks.getD z im0).Z K N F m Z by unfold cmpM; simp only [HXm.out])
    generalize ks.getD z im0 = e0 at bx gr1 gf1 hzk HCm HLow HHig
    obtain ⟨K', N', F', Z'⟩ := e0
    simp only at bx gr1 gf1 hzk HCm
    obtain ⟨m', hm'⟩ : ∃ m, Z'.length = m := ⟨_, rfl⟩
    rw [hm'] at bx gr1 hzk HCm
    clear hm'
    have bD := (Below.refl wr.heap.size wr).drew
    have HBW := hid (HB.out.trans (HW.out.mono HB.out.size))
    have HSD := hid (show (fun W => Box4 W bk (off + z * 4) K' N' F' (.slice p' m' b') ∧ Box4 W w.heap.size 0 K N F (.slice p m d)) wr.drew from ⟨(bx.below HBW.out (Nat.le_refl _)).below bD (Nat.le_refl _), (HBx.out.below HW.out (Nat.le_refl _)).below bD (Nat.le_refl _)⟩)
    have HR1 := hid ((gr1.below HBW.out (Nat.le_refl _)).below bD (Nat.le_refl _))
    have HR2 := hid ((HXr.out.below HBW.out (Nat.le_refl _)).below bD (Nat.le_refl _))
    have HWD := hid (HW.out.trans (bD.mono HW.out.size))
    clear bx gr1 bD HBW
    go_wp2
    refine region_K 99 (fun W => Box4 W bk (off + z * 4) K' N' F' (.slice p' m' b') ∧ Box4 W w.heap.size 0 K N F (.slice p m d)) (by kernel_rfl) ?_ (fun hHeld => ?_)
    · exact HSD.out
    generalize wr.drew = v0 at *
    refine anyK_take2 (i := 0) (v := ?v0_1) rfl (by kernel_rfl) (by kernel_rfl) (by kernel_rfl) (by rfl) (fun _ _ _ h => h) (by rfl) hHeld ?hy0_1 (some 24) (by rfl) ?rest0_1
    case hy0_1 => (intro W hSw; obtain ⟨⟨x0, x1, x2, x3⟩, x4, x5, x6, x7⟩ := hSw; go_simp; (try with_reducible rfl))
    try simp only [Act.put, List.setIfInBounds_toArray, List.set_cons_succ, List.set_cons_zero]
    refine anyK_take2 (i := 1) (v := ?v1_2) rfl (by kernel_rfl) (by kernel_rfl) (by kernel_rfl) (by rfl) (fun _ _ _ h => h) (by rfl) hHeld ?hy1_2 (some 25) (by rfl) ?rest1_2
    case hy1_2 => (intro W hSw; obtain ⟨⟨x0, x1, x2, x3⟩, x4, x5, x6, x7⟩ := hSw; go_simp; (try with_reducible rfl))
    try simp only [Act.put, List.setIfInBounds_toArray, List.set_cons_succ, List.set_cons_zero]
    refine anyK_take2 (i := 2) (v := ?v2_3) rfl (by kernel_rfl) (by kernel_rfl) (by kernel_rfl) (by rfl) (fun _ _ _ h => h) (by rfl) hHeld ?hy2_3 (some 26) (by rfl) ?rest2_3
    case hy2_3 => (intro W hSw; obtain ⟨⟨x0, x1, x2, x3⟩, x4, x5, x6, x7⟩ := hSw; go_simp; (try with_reducible rfl))
    try simp only [Act.put, List.setIfInBounds_toArray, List.set_cons_succ, List.set_cons_zero]
    refine anyK_take2 (i := 3) (v := ?v3_4) rfl (by kernel_rfl) (by kernel_rfl) (by kernel_rfl) (by rfl) (fun _ _ _ h => h) (by rfl) hHeld ?hy3_4 (some 27) (by rfl) ?rest3_4
    case hy3_4 => (intro W hSw; obtain ⟨⟨x0, x1, x2, x3⟩, x4, x5, x6, x7⟩ := hSw; go_simp; (try with_reducible rfl))
    try simp only [Act.put, List.setIfInBounds_toArray, List.set_cons_succ, List.set_cons_zero]
    refine anyK_take2 (i := 4) (v := ?v4_5) rfl (by kernel_rfl) (by kernel_rfl) (by kernel_rfl) (by rfl) (fun _ _ _ h => h) (by rfl) hHeld ?hy4_5 (some 28) (by rfl) ?rest4_5
    case hy4_5 => (intro W hSw; obtain ⟨⟨x0, x1, x2, x3⟩, x4, x5, x6, x7⟩ := hSw; go_simp; (try with_reducible rfl))
    try simp only [Act.put, List.setIfInBounds_toArray, List.set_cons_succ, List.set_cons_zero]
    refine anyK_take2 (i := 5) (v := ?v5_6) rfl (by kernel_rfl) (by kernel_rfl) (by kernel_rfl) (by rfl) (fun _ _ _ h => h) (by rfl) hHeld ?hy5_6 (some 29) (by rfl) ?rest5_6
    case hy5_6 => (intro W hSw; obtain ⟨⟨x0, x1, x2, x3⟩, x4, x5, x6, x7⟩ := hSw; go_simp; (try with_reducible rfl))
    try simp only [Act.put, List.setIfInBounds_toArray, List.set_cons_succ, List.set_cons_zero]
    refine anyK_step (i := 6) (by kernel_rfl) rfl (fun KP hK => ?_)
    go_simp
    refine (impl_ItemCompare K' N' K N F' F b' d gf1 hf HR1.out HR2.out (by omega) (by omega)).mono ?_
    rintro e u1 ⟨rfl, bb⟩
    have HSE := hid (show (fun W => Box4 W bk (off + z * 4) K' N' F' (.slice p' m' b') ∧ Box4 W w.heap.size 0 K N F (.slice p m d)) u1 from ⟨HSD.out.1.below bb (Nat.le_refl _), HSD.out.2.below bb (Nat.le_refl _)⟩)
    have HWE := hid (HWD.out.trans (bb.mono HWD.out.size))
    clear bb
    generalize cmpI K' N' F' m' Z' K N F m Z = v at *
    go_wp2_with fail
    clear hHeld
    refine hK.out _ _ HSE.out (fun hHeld => ?_)
    clear hK KP
    try simp only [Act.put, List.setIfInBounds_toArray, List.set_cons_succ, List.set_cons_zero]
    by_cases hv : v < 0
    · have HF := hid (HLow.out (by rw [HCm.out]; exact hv))
      refine anyK_take2 (i := 7) (v := ?v7_7) rfl (by kernel_rfl) (by kernel_rfl) (by kernel_rfl) (by rfl) (fun _ _ _ h => h) (by rfl) hHeld ?hy7_7 (some 31) (by rfl) ?rest7_7
      case hy7_7 => (intro W hSw; obtain ⟨⟨x0, x1, x2, x3⟩, x4, x5, x6, x7⟩ := hSw; go_simp; (try with_reducible rfl))
      try simp only [Act.put, List.setIfInBounds_toArray, List.set_cons_succ, List.set_cons_zero]
      refine anyK_done (by kernel_rfl) ?_ _
      clear hHeld
      go_wp2_with fail
      go_roundw
      case rel => exact ⟨z + 1, j, by go_num, rfl, by omega, by omega, HF, HHi, HWE⟩
      case measure => simp [intOf]; omega
    · have HF := hid (HHig.out (by have := HCm.out; omega))
      have hv' : decide (v < 0) = false := decide_eq_false hv
      clear hv
      refine anyK_take2 (i := 7) (v := ?v7_8) rfl (by kernel_rfl) (by kernel_rfl) (by kernel_rfl) (by rfl) (fun _ _ _ h => h) (by rfl) hHeld ?hy7_8 (some 31) (by rfl) ?rest7_8
      case hy7_8 => (intro W hSw; obtain ⟨⟨x0, x1, x2, x3⟩, x4, x5, x6, x7⟩ := hSw; go_simp; (try with_reducible rfl))
      try simp only [Act.put, List.setIfInBounds_toArray, List.set_cons_succ, List.set_cons_zero]
      refine anyK_done (by kernel_rfl) ?_ _
      clear hHeld
      go_wp2_with fail
      go_roundw
      case rel => exact ⟨i, z, rfl, rfl, by omega, by omega, HLo, HF, HWE⟩
      case measure => simp [intOf]; omega
  · have hlt' : ¬ (i : Int) < (j : Int) := by omega
    obtain rfl : i = j := by omega
    have HLB := hid (show LB ks ⟨K, N, F, Z⟩ i from ⟨by have := HL.out; omega, HLo.out, HHi.out⟩)
    clear HLo HHi
    by_cases hin : i < n
    · have hin' : (i : Int) < (n : Int) := by omega
      have hi0 : (0 : Int) ≤ (i : Int) := by omega
      obtain ⟨z, hz⟩ : ∃ z, i = z := ⟨_, rfl⟩
      obtain ⟨bk, off, p', b', rfl, bx, gr1, _, _, gf1⟩ := HRM.out.at (k := i) (by have := HL.out; omega)
      have hzk := okM_len (ok_at HOK.out (i := i) (by have := HL.out; omega))
      obtain ⟨V, hV⟩ : ∃ V, decide (i < n ∧ cmpM (ks.getD i im0) ⟨K, N, F, Z⟩ = 0) = V := ⟨_, rfl⟩
      have HV := hid (show V = decide (cmpM (ks.getD i im0) ⟨K, N, F, Z⟩ = 0) by
       rw [← hV]
       by_cases q : cmpM (ks.getD i im0) ⟨K, N, F, Z⟩ = 0
       · rw [decide_eq_true q, decide_eq_true ⟨hin, q⟩]
       · rw [decide_eq_false q, decide_eq_false (fun x => q x.2)])
      have HVV := hid hV
      clear hV
      subst hz
      have HCm := hid (show cmpM (ks.getD i im0) ⟨K, N, F, Z⟩ = cmpI (ks.getD i im0).K (ks.getD i im0).N (ks.getD i im0).F (ks.getD i im0).Z.length (ks.getD i im0).Z K N F m Z by unfold cmpM; simp only [HXm.out])
      generalize ks.getD i im0 = e0 at bx gr1 gf1 hzk HCm HV
      obtain ⟨K', N', F', Z'⟩ := e0
      simp only at bx gr1 gf1 hzk HCm
      obtain ⟨m', hm'⟩ : ∃ m, Z'.length = m := ⟨_, rfl⟩
      rw [hm'] at bx gr1 hzk HCm
      clear hm'
      have bD := (Below.refl wr.heap.size wr).drew
      have HBW := hid (HB.out.trans (HW.out.mono HB.out.size))
      have HSD := hid (show (fun W => Box4 W bk (off + i * 4) K' N' F' (.slice p' m' b') ∧ Box4 W w.heap.size 0 K N F (.slice p m d)) wr.drew from ⟨(bx.below HBW.out (Nat.le_refl _)).below bD (Nat.le_refl _), (HBx.out.below HW.out (Nat.le_refl _)).below bD (Nat.le_refl _)⟩)
      have HR1 := hid ((gr1.below HBW.out (Nat.le_refl _)).below bD (Nat.le_refl _))
      have HR2 := hid ((HXr.out.below HBW.out (Nat.le_refl _)).below bD (Nat.le_refl _))
      have HWD := hid (HW.out.trans (bD.mono HW.out.size))
      clear bx gr1 bD HBW
      go_wp2
      refine region_K 99 (fun W => Box4 W bk (off + i * 4) K' N' F' (.slice p' m' b') ∧ Box4 W w.heap.size 0 K N F (.slice p m d)) (by kernel_rfl) ?_ (fun hHeld => ?_)
      · exact HSD.out
      generalize wr.drew = v0 at *
      refine anyK_take2 (i := 0) (v := ?v0_9) rfl (by kernel_rfl) (by kernel_rfl) (by kernel_rfl) (by rfl) (fun _ _ _ h => h) (by rfl) hHeld ?hy0_9 (some 35) (by rfl) ?rest0_9
      case hy0_9 => (intro W hSw; obtain ⟨⟨x0, x1, x2, x3⟩, x4, x5, x6, x7⟩ := hSw; go_simp; (try with_reducible rfl))
      try simp only [Act.put, List.setIfInBounds_toArray, List.set_cons_succ, List.set_cons_zero]
      refine anyK_take2 (i := 1) (v := ?v1_10) rfl (by kernel_rfl) (by kernel_rfl) (by kernel_rfl) (by rfl) (fun _ _ _ h => h) (by rfl) hHeld ?hy1_10 (some 36) (by rfl) ?rest1_10
      case hy1_10 => (intro W hSw; obtain ⟨⟨x0, x1, x2, x3⟩, x4, x5, x6, x7⟩ := hSw; go_simp; (try with_reducible rfl))
      try simp only [Act.put, List.setIfInBounds_toArray, List.set_cons_succ, List.set_cons_zero]
      refine anyK_take2 (i := 2) (v := ?v2_11) rfl (by kernel_rfl) (by kernel_rfl) (by kernel_rfl) (by rfl) (fun _ _ _ h => h) (by rfl) hHeld ?hy2_11 (some 37) (by rfl) ?rest2_11
      case hy2_11 => (intro W hSw; obtain ⟨⟨x0, x1, x2, x3⟩, x4, x5, x6, x7⟩ := hSw; go_simp; (try with_reducible rfl))
      try simp only [Act.put, List.setIfInBounds_toArray, List.set_cons_succ, List.set_cons_zero]
      refine anyK_take2 (i := 3) (v := ?v3_12) rfl (by kernel_rfl) (by kernel_rfl) (by kernel_rfl) (by rfl) (fun _ _ _ h => h) (by rfl) hHeld ?hy3_12 (some 38) (by rfl) ?rest3_12
      case hy3_12 => (intro W hSw; obtain ⟨⟨x0, x1, x2, x3⟩, x4, x5, x6, x7⟩ := hSw; go_simp; (try with_reducible rfl))
      try simp only [Act.put, List.setIfInBounds_toArray, List.set_cons_succ, List.set_cons_zero]
      refine anyK_take2 (i := 4) (v := ?v4_13) rfl (by kernel_rfl) (by kernel_rfl) (by kernel_rfl) (by rfl) (fun _ _ _ h => h) (by rfl) hHeld ?hy4_13 (some 39) (by rfl) ?rest4_13
      case hy4_13 => (intro W hSw; obtain ⟨⟨x0, x1, x2, x3⟩, x4, x5, x6, x7⟩ := hSw; go_simp; (try with_reducible rfl))
      try simp only [Act.put, List.setIfInBounds_toArray, List.set_cons_succ, List.set_cons_zero]
      refine anyK_take2 (i := 5) (v := ?v5_14) rfl (by kernel_rfl) (by kernel_rfl) (by kernel_rfl) (by rfl) (fun _ _ _ h => h) (by rfl) hHeld ?hy5_14 (some 40) (by rfl) ?rest5_14
      case hy5_14 => (intro W hSw; obtain ⟨⟨x0, x1, x2, x3⟩, x4, x5, x6, x7⟩ := hSw; go_simp; (try with_reducible rfl))
      try simp only [Act.put, List.setIfInBounds_toArray, List.set_cons_succ, List.set_cons_zero]
      refine anyK_take2 (i := 6) (v := ?v6_15) rfl (by kernel_rfl) (by kernel_rfl) (by kernel_rfl) (by rfl) (fun _ _ _ h => h) (by rfl) hHeld ?hy6_15 (some 41) (by rfl) ?rest6_15
      case hy6_15 => (intro W hSw; obtain ⟨⟨x0, x1, x2, x3⟩, x4, x5, x6, x7⟩ := hSw; go_simp; (try with_reducible rfl))
      try simp only [Act.put, List.setIfInBounds_toArray, List.set_cons_succ, List.set_cons_zero]
      refine anyK_take2 (i := 7) (v := ?v7_16) rfl (by kernel_rfl) (by kernel_rfl) (by kernel_rfl) (by rfl) (fun _ _ _ h => h) (by rfl) hHeld ?hy7_16 (some 42) (by rfl) ?rest7_16
      case hy7_16 => (intro W hSw; obtain ⟨⟨x0, x1, x2, x3⟩, x4, x5, x6, x7⟩ := hSw; go_simp; (try with_reducible rfl))
      try simp only [Act.put, List.setIfInBounds_toArray, List.set_cons_succ, List.set_cons_zero]
      refine anyK_take2 (i := 8) (v := ?v8_17) rfl (by kernel_rfl) (by kernel_rfl) (by kernel_rfl) (by rfl) (fun _ _ _ h => h) (by rfl) hHeld ?hy8_17 (some 43) (by rfl) ?rest8_17
      case hy8_17 => (intro W hSw; obtain ⟨⟨x0, x1, x2, x3⟩, x4, x5, x6, x7⟩ := hSw; go_simp; (try with_reducible rfl))
      try simp only [Act.put, List.setIfInBounds_toArray, List.set_cons_succ, List.set_cons_zero]
      refine anyK_take2 (i := 9) (v := ?v9_18) rfl (by kernel_rfl) (by kernel_rfl) (by kernel_rfl) (by rfl) (fun _ _ _ h => h) (by rfl) hHeld ?hy9_18 (some 44) (by rfl) ?rest9_18
      case hy9_18 => (intro W hSw; obtain ⟨⟨x0, x1, x2, x3⟩, x4, x5, x6, x7⟩ := hSw; go_simp; (try with_reducible rfl))
      try simp only [Act.put, List.setIfInBounds_toArray, List.set_cons_succ, List.set_cons_zero]
      refine anyK_take2 (i := 10) (v := ?v10_19) rfl (by kernel_rfl) (by kernel_rfl) (by kernel_rfl) (by rfl) (fun _ _ _ h => h) (by rfl) hHeld ?hy10_19 (some 45) (by rfl) ?rest10_19
      case hy10_19 => (intro W hSw; obtain ⟨⟨x0, x1, x2, x3⟩, x4, x5, x6, x7⟩ := hSw; go_simp; (try with_reducible rfl))
      try simp only [Act.put, List.setIfInBounds_toArray, List.set_cons_succ, List.set_cons_zero]
      refine anyK_step (i := 11) (by kernel_rfl) rfl (fun KP hK => ?_)
      go_simp
      refine (impl_ItemCompare K' N' K N F' F b' d gf1 hf HR1.out HR2.out (by omega) (by omega)).mono ?_
      rintro e u1 ⟨rfl, bb⟩
      have HSE := hid (show (fun W => Box4 W bk (off + i * 4) K' N' F' (.slice p' m' b') ∧ Box4 W w.heap.size 0 K N F (.slice p m d)) u1 from ⟨HSD.out.1.below bb (Nat.le_refl _), HSD.out.2.below bb (Nat.le_refl _)⟩)
      have HWE := hid (HWD.out.trans (bb.mono HWD.out.size))
      clear bb
      generalize cmpI K' N' F' m' Z' K N F m Z = v at *
      go_wp2_with fail
      clear hHeld
      refine hK.out _ _ HSE.out (fun hHeld => ?_)
      clear hK KP
      try simp only [Act.put, List.setIfInBounds_toArray, List.set_cons_succ, List.set_cons_zero]
      by_cases hv : v = 0
      · have hq : (v == 0) = true := by simpa using hv
        have HF := hid (show decide (i < n ∧ cmpM (ks.getD i im0) ⟨K, N, F, Z⟩ = 0) = true by rw [HVV.out, HV.out, HCm.out, decide_eq_true hv])
        clear hv
        refine anyK_take2 (i := 12) (v := ?v12_20) rfl (by kernel_rfl) (by kernel_rfl) (by kernel_rfl) (by rfl) (fun _ _ _ h => h) (by rfl) hHeld ?hy12_20 (some 47) (by rfl) ?rest12_20
        case hy12_20 => (intro W hSw; obtain ⟨⟨x0, x1, x2, x3⟩, x4, x5, x6, x7⟩ := hSw; go_simp; (try with_reducible rfl))
        try simp only [Act.put, List.setIfInBounds_toArray, List.set_cons_succ, List.set_cons_zero]
        refine anyK_take2 (i := 13) (v := ?v13_21) rfl (by kernel_rfl) (by kernel_rfl) (by kernel_rfl) (by rfl) (fun _ _ _ h => h) (by rfl) hHeld ?hy13_21 (some 48) (by rfl) ?rest13_21
        case hy13_21 => (intro W hSw; obtain ⟨⟨x0, x1, x2, x3⟩, x4, x5, x6, x7⟩ := hSw; go_simp; (try with_reducible rfl))
        try simp only [Act.put, List.setIfInBounds_toArray, List.set_cons_succ, List.set_cons_zero]
        refine anyK_take2 (i := 14) (v := ?v14_22) rfl (by kernel_rfl) (by kernel_rfl) (by kernel_rfl) (by rfl) (fun _ _ _ h => h) (by rfl) hHeld ?hy14_22 (some 6) (by rfl) ?rest14_22
        case hy14_22 => (intro W hSw; obtain ⟨⟨x0, x1, x2, x3⟩, x4, x5, x6, x7⟩ := hSw; go_simp; (try with_reducible rfl))
        try simp only [Act.put, List.setIfInBounds_toArray, List.set_cons_succ, List.set_cons_zero]
        refine anyK_take2 (i := 15) (v := ?v15_23) rfl (by kernel_rfl) (by kernel_rfl) (by kernel_rfl) (by rfl) (fun _ _ _ h => h) (by rfl) hHeld ?hy15_23 (some 7) (by rfl) ?rest15_23
        case hy15_23 => (intro W hSw; obtain ⟨⟨x0, x1, x2, x3⟩, x4, x5, x6, x7⟩ := hSw; go_simp; (try with_reducible rfl))
        try simp only [Act.put, List.setIfInBounds_toArray, List.set_cons_succ, List.set_cons_zero]
        refine anyK_done (by kernel_rfl) ?_ _
        clear hHeld
        go_wp2_with fail
        go_ret2
        exact ⟨i, by rw [HF.out]; rfl, HLB.out, HB.out.trans (HWE.out.mono HB.out.size)⟩
      · have hq : (v == 0) = false := by simpa using hv
        have HF := hid (show decide (i < n ∧ cmpM (ks.getD i im0) ⟨K, N, F, Z⟩ = 0) = false by rw [HVV.out, HV.out, HCm.out, decide_eq_false hv])
        clear hv
        refine anyK_take2 (i := 12) (v := ?v12_24) rfl (by kernel_rfl) (by kernel_rfl) (by kernel_rfl) (by rfl) (fun _ _ _ h => h) (by rfl) hHeld ?hy12_24 (some 47) (by rfl) ?rest12_24
        case hy12_24 => (intro W hSw; obtain ⟨⟨x0, x1, x2, x3⟩, x4, x5, x6, x7⟩ := hSw; go_simp; (try with_reducible rfl))
        try simp only [Act.put, List.setIfInBounds_toArray, List.set_cons_succ, List.set_cons_zero]
        refine anyK_take2 (i := 13) (v := ?v13_25) rfl (by kernel_rfl) (by kernel_rfl) (by kernel_rfl) (by rfl) (fun _ _ _ h => h) (by rfl) hHeld ?hy13_25 (some 48) (by rfl) ?rest13_25
        case hy13_25 => (intro W hSw; obtain ⟨⟨x0, x1, x2, x3⟩, x4, x5, x6, x7⟩ := hSw; go_simp; (try with_reducible rfl))
        try simp only [Act.put, List.setIfInBounds_toArray, List.set_cons_succ, List.set_cons_zero]
        refine anyK_take2 (i := 14) (v := ?v14_26) rfl (by kernel_rfl) (by kernel_rfl) (by kernel_rfl) (by rfl) (fun _ _ _ h => h) (by rfl) hHeld ?hy14_26 (some 6) (by rfl) ?rest14_26
        case hy14_26 => (intro W hSw; obtain ⟨⟨x0, x1, x2, x3⟩, x4, x5, x6, x7⟩ := hSw; go_simp; (try with_reducible rfl))
        try simp only [Act.put, List.setIfInBounds_toArray, List.set_cons_succ, List.set_cons_zero]
        refine anyK_take2 (i := 15) (v := ?v15_27) rfl (by kernel_rfl) (by kernel_rfl) (by kernel_rfl) (by rfl) (fun _ _ _ h => h) (by rfl) hHeld ?hy15_27 (some 7) (by rfl) ?rest15_27
        case hy15_27 => (intro W hSw; obtain ⟨⟨x0, x1, x2, x3⟩, x4, x5, x6, x7⟩ := hSw; go_simp; (try with_reducible rfl))
        try simp only [Act.put, List.setIfInBounds_toArray, List.set_cons_succ, List.set_cons_zero]
        refine anyK_done (by kernel_rfl) ?_ _
        clear hHeld
        go_wp2_with fail
        go_ret2
        exact ⟨i, by rw [HF.out]; rfl, HLB.out, HB.out.trans (HWE.out.mono HB.out.size)⟩
    · have hin' : decide ((i : Int) < (n : Int)) = false := decide_eq_false (by omega)
      have hin2 : decide (i < n) = false := decide_eq_false hin
      have HF := hid (show decide (i < n ∧ cmpM (ks.getD i im0) ⟨K, N, F, Z⟩ = 0) = false from decide_eq_false (fun q => hin q.1))
      clear hin hlt'
      have bD := (Below.refl wr.heap.size wr).drew
      have HWE := hid (HW.out.trans (bD.mono HW.out.size))
      clear bD
      go_wp2
      refine region_K 99 (fun _ => True) (by kernel_rfl) ?_ (fun hHeld => ?_)
      · trivial
      generalize wr.drew = v0 at *
      refine anyK_take2 (i := 0) (v := ?v0_28) rfl (by kernel_rfl) (by kernel_rfl) (by kernel_rfl) (by rfl) (fun _ _ _ h => h) (by rfl) hHeld ?hy0_28 (some 35) (by rfl) ?rest0_28
      case hy0_28 => (intro W hSw; obtain _ := hSw; go_simp; (try with_reducible rfl))
      try simp only [Act.put, List.setIfInBounds_toArray, List.set_cons_succ, List.set_cons_zero]
      refine anyK_take2 (i := 1) (v := ?v1_29) rfl (by kernel_rfl) (by kernel_rfl) (by kernel_rfl) (by rfl) (fun _ _ _ h => h) (by rfl) hHeld ?hy1_29 (some 36) (by rfl) ?rest1_29
      case hy1_29 => (intro W hSw; obtain _ := hSw; go_simp; (try with_reducible rfl))
      try simp only [Act.put, List.setIfInBounds_toArray, List.set_cons_succ, List.set_cons_zero]
      refine anyK_take2 (i := 2) (v := ?v2_30) rfl (by kernel_rfl) (by kernel_rfl) (by kernel_rfl) (by rfl) (fun _ _ _ h => h) (by rfl) hHeld ?hy2_30 (some 37) (by rfl) ?rest2_30
      case hy2_30 => (intro W hSw; obtain _ := hSw; go_simp; (try with_reducible rfl))
      try simp only [Act.put, List.setIfInBounds_toArray, List.set_cons_succ, List.set_cons_zero]
      refine anyK_take2 (i := 3) (v := ?v3_31) rfl (by kernel_rfl) (by kernel_rfl) (by kernel_rfl) (by rfl) (fun _ _ _ h => h) (by rfl) hHeld ?hy3_31 (some 38) (by rfl) ?rest3_31
      case hy3_31 => (intro W hSw; obtain _ := hSw; go_simp; (try with_reducible rfl))
      try simp only [Act.put, List.setIfInBounds_toArray, List.set_cons_succ, List.set_cons_zero]
      refine anyK_take2 (i := 4) (v := ?v4_32) rfl (by kernel_rfl) (by kernel_rfl) (by kernel_rfl) (by rfl) (fun _ _ _ h => h) (by rfl) hHeld ?hy4_32 (some 39) (by rfl) ?rest4_32
      case hy4_32 => (intro W hSw; obtain _ := hSw; go_simp; (try with_reducible rfl))
      try simp only [Act.put, List.setIfInBounds_toArray, List.set_cons_succ, List.set_cons_zero]
      refine anyK_skip (i := 5) rfl (by kernel_rfl) (by kernel_rfl) (by kernel_rfl) (by kernel_rfl) (fun _ _ _ h => h) (by rfl) hHeld (some 40) (by rfl) ?_
      try simp only [Act.put, List.setIfInBounds_toArray, List.set_cons_succ, List.set_cons_zero]
      refine anyK_skip (i := 6) rfl (by kernel_rfl) (by kernel_rfl) (by kernel_rfl) (by kernel_rfl) (fun _ _ _ h => h) (by rfl) hHeld (some 41) (by rfl) ?_
      try simp only [Act.put, List.setIfInBounds_toArray, List.set_cons_succ, List.set_cons_zero]
      refine anyK_skip (i := 7) rfl (by kernel_rfl) (by kernel_rfl) (by kernel_rfl) (by kernel_rfl) (fun _ _ _ h => h) (by rfl) hHeld (some 42) (by rfl) ?_
      try simp only [Act.put, List.setIfInBounds_toArray, List.set_cons_succ, List.set_cons_zero]
      refine anyK_skip (i := 8) rfl (by kernel_rfl) (by kernel_rfl) (by kernel_rfl) (by kernel_rfl) (fun _ _ _ h => h) (by rfl) hHeld (some 43) (by rfl) ?_
      try simp only [Act.put, List.setIfInBounds_toArray, List.set_cons_succ, List.set_cons_zero]
      refine anyK_skip (i := 9) rfl (by kernel_rfl) (by kernel_rfl) (by kernel_rfl) (by kernel_rfl) (fun _ _ _ h => h) (by rfl) hHeld (some 44) (by rfl) ?_
      try simp only [Act.put, List.setIfInBounds_toArray, List.set_cons_succ, List.set_cons_zero]
      refine anyK_skip (i := 10) rfl (by kernel_rfl) (by kernel_rfl) (by kernel_rfl) (by kernel_rfl) (fun _ _ _ h => h) (by rfl) hHeld (some 45) (by rfl) ?_
      try simp only [Act.put, List.setIfInBounds_toArray, List.set_cons_succ, List.set_cons_zero]
      refine anyK_skip (i := 11) rfl (by kernel_rfl) (by kernel_rfl) (by kernel_rfl) (by kernel_rfl) (fun _ _ _ h => h) (by rfl) hHeld (some 46) (by rfl) ?_
      try simp only [Act.put, List.setIfInBounds_toArray, List.set_cons_succ, List.set_cons_zero]
      refine anyK_skip (i := 12) rfl (by kernel_rfl) (by kernel_rfl) (by kernel_rfl) (by kernel_rfl) (fun _ _ _ h => h) (by rfl) hHeld (some 47) (by rfl) ?_
      try simp only [Act.put, List.setIfInBounds_toArray, List.set_cons_succ, List.set_cons_zero]
      refine anyK_take2 (i := 13) (v := ?v13_33) rfl (by kernel_rfl) (by kernel_rfl) (by kernel_rfl) (by rfl) (fun _ _ _ h => h) (by rfl) hHeld ?hy13_33 (some 48) (by rfl) ?rest13_33
      case hy13_33 => (intro W hSw; obtain _ := hSw; go_simp; (try with_reducible rfl))
      try simp only [Act.put, List.setIfInBounds_toArray, List.set_cons_succ, List.set_cons_zero]
      refine anyK_take2 (i := 14) (v := ?v14_34) rfl (by kernel_rfl) (by kernel_rfl) (by kernel_rfl) (by rfl) (fun _ _ _ h => h) (by rfl) hHeld ?hy14_34 (some 6) (by rfl) ?rest14_34
      case hy14_34 => (intro W hSw; obtain _ := hSw; go_simp; (try with_reducible rfl))
      try simp only [Act.put, List.setIfInBounds_toArray, List.set_cons_succ, List.set_cons_zero]
      refine anyK_take2 (i := 15) (v := ?v15_35) rfl (by kernel_rfl) (by kernel_rfl) (by kernel_rfl) (by rfl) (fun _ _ _ h => h) (by rfl) hHeld ?hy15_35 (some 7) (by rfl) ?rest15_35
      case hy15_35 => (intro W hSw; obtain _ := hSw; go_simp; (try with_reducible rfl))
      try simp only [Act.put, List.setIfInBounds_toArray, List.set_cons_succ, List.set_cons_zero]
      refine anyK_done (by kernel_rfl) ?_ _
      clear hHeld
      go_wp2_with fail
      go_ret2
      exact ⟨i, by rw [HF.out]; rfl, HLB.out, HB.out.trans (HWE.out.mono HB.out.size)⟩
end Go.Proofs.YtjcjoabblafboaaGreat
/- The contracts of slices.Clone over spans and of the program's singleSpans. Conditions: at most 2^20 of them. -/

namespace Go.Proofs.YtjcjoabblafboaaGreat
open Go.RowKit
set_option maxRecDepth 100000
theorem Tryz.infoSp14 : (Tryz.prog.info? 74).map (fun i => (i.zero, i.size, i.bytes)) = some (some (.agg #[.int .i64 0, .int .i64 0, .float .f64 0, .slice none 0 0, .int .i64 0, .int .i64 0, .float .f64 0, .slice none 0 0]), 8, 96) := by kernel_rfl
theorem eqlS_none (c : Nat) (w : World) : (binOp .eql 65 (.slice none 0 c) (.slice none 0 0)).run Tryz.prog w = .ok (.bool true) w := by kernel_rfl
theorem eqlS_some (a : Addr) (n c : Nat) (w : World) : (binOp .eql 65 (.slice (some a) n c) (.slice none 0 0)).run Tryz.prog w = .ok (.bool false) w := by kernel_rfl
def pr2 : List Qi → List Qsp
 | a :: b :: r => (a, b) :: pr2 r
 | _ => []
def fS (l : List Qsp) : List Value := l.flatMap encS
theorem fS_app (a b : List Qsp) : fS (a ++ b) = fS a ++ fS b := by simp [fS]
theorem fS_len (l : List Qsp) : (fS l).length = l.length * 8 := flat_len encS 8 encS_len l
theorem fS_one (l : List Qsp) : ∀ u ∈ fS l, u.oneCell' = true := by
 intro u hu
 obtain ⟨q, _, hq⟩ := List.mem_flatMap.1 hu
 exact encS_one q u hq
def spE (s : Qsp) : Im × Im := (s.1.e, s.2.e)
def un2 (l : List Qsp) : List Qi := l.flatMap (fun s => [s.1, s.2])
theorem fS_un2 : ∀ l : List Qsp, fS l = fQ (un2 l)
 | [] => rfl
 | s :: r => by
  have := fS_un2 r
  unfold fS fQ un2 at *
  simp only [List.flatMap_cons, this, encS, List.flatMap_append, List.flatMap_nil, List.append_nil]
theorem un2_e : ∀ l : List Qsp, (un2 l).map (·.e) = fl2 (l.map spE)
 | [] => rfl
 | s :: r => by
  have := un2_e r
  unfold un2 at *
  rw [List.flatMap_cons, List.map_append, this]
  rfl
theorem un2_len (l : List Qsp) : (un2 l).length = l.length * 2 := by
 induction l with
 | nil => rfl
 | cons s r ih => unfold un2 at *; rw [List.flatMap_cons, List.length_append, ih, List.length_cons]; simp; omega
theorem mem_un2 {l : List Qsp} {q : Qi} : q ∈ un2 l ↔ ∃ s ∈ l, q = s.1 ∨ q = s.2 := by
 unfold un2
 simp [List.mem_flatMap]
theorem un2_pr2 : ∀ (rs : List (Im × Im)) (qs : List Qi), qs.map (·.e) = fl2 rs → un2 (pr2 qs) = qs ∧ (pr2 qs).map spE = rs
 | [], qs, h => by
  have : qs = [] := by simpa [fl2] using h
  subst this; exact ⟨rfl, rfl⟩
 | p :: r, [], h => by simp [fl2] at h
 | p :: r, [a], h => by simp [fl2] at h
 | p :: r, a :: b :: q, h => by
  rw [fl2] at h
  simp only [List.map_cons, List.cons.injEq] at h
  obtain ⟨h1, h2, h3⟩ := h
  have ih := un2_pr2 r q h3
  refine ⟨?_, ?_⟩
  · show un2 ((a, b) :: pr2 q) = _
    unfold un2
    rw [List.flatMap_cons]
    have := ih.1
    unfold un2 at this
    rw [this]; rfl
  · show ((a, b) :: pr2 q).map spE = _
    rw [List.map_cons, ih.2]
    unfold spE
    rw [h1, h2]
theorem infoSp : ∃ i, Tryz.prog.info? 74 = some i ∧ i.zero = some (.agg #[.int .i64 0, .int .i64 0, .float .f64 0, .slice none 0 0, .int .i64 0, .int .i64 0, .float .f64 0, .slice none 0 0]) ∧ i.size = 8 ∧ i.bytes = 96 := by
 have := Tryz.infoSp14
 cases hh : Tryz.prog.info? 74 with
 | none => rw [hh] at this; cases this
 | some i => rw [hh] at this; simp at this; exact ⟨i, rfl, this.1, this.2.1, this.2.2⟩
set_option maxHeartbeats 3200000 in
theorem clone_spans {a : Option Addr} {n : Nat} (c : Nat) {rs : List (Im × Im)} {w : World} (h : ReadsM w a (fl2 rs)) (hl : rs.length = n) (hn : n ≤ 1048576) :
 Calls Tryz.prog 146 #[.slice a n c] w fun e w' => ∃ (b : Option Addr) (c' : Nat) (ss : List Qsp), e = .returned (.slice b n c') ∧ ss.map spE = rs ∧ (∀ q ∈ un2 ss, RdQ w q) ∧ w'.ownsRow w.heap.size 74 8 (.slice b n c') n (fS ss) ∧ Below w.heap.size w w' := by
 cases a with
 | none =>
  have h0 := readsM_nil h
  rw [fl2_len] at h0
  obtain rfl : n = 0 := by omega
  obtain rfl : rs = [] := List.length_eq_zero_iff.1 hl
  have e1 := eqlS_none c
  go_enter Tryz.func146, Tryz.ntmps146
  go_wp2_with fail
  go_ret
  exact ⟨none, 0, [], rfl, rfl, (fun q hq => by cases hq), World.ownsRow_nil _ _ _ _, Below.refl _ _⟩
 | some ad =>
  obtain ⟨i0, hinf, hz0, hz1, hz2⟩ := infoSp
  obtain ⟨qs, hqs, hqr, hqc⟩ := h.qs
  obtain ⟨hu1, hu2⟩ := un2_pr2 rs qs hqs
  have hlen : (pr2 qs).length = n := by rw [← hl, ← hu2, List.length_map]
  have e1 := eqlS_some ad n c
  have bA := Below.alloc1 w (.cells #[] 74)
  have HBA := hid bA
  have OA := hid (show (w.alloc (.cells #[] 74)).ownsRow w.heap.size 74 8 (.slice (some ⟨w.heap.size, 0, none⟩) 0 0) 0 [] from ⟨rfl, .inr ⟨w.heap.size, 0, #[], rfl, Nat.le_refl _, heap_alloc_new w _, Nat.le_refl _, Nat.zero_le _, rfl, rfl⟩⟩)
  have HNw := hid (show (some ad = none ∧ c = 0) ∨ ∃ p, some ad = some p ∧ ∀ j u, (fS (pr2 qs))[j]? = some u → (w.alloc (.cells #[] 74)).cell? (p.add j) = some u by
   refine .inr ⟨ad, rfl, fun j u hu => ?_⟩
   rw [fS_un2, hu1] at hu
   rcases hqc with h0 | ⟨b', off', e', hc⟩
   · have : fQ qs = [] := by
      have := fQ_len qs
      rw [show qs.length = 0 by rw [← h0, ← hqs, List.length_map]] at this
      exact List.length_eq_zero_iff.1 (by omega)
     rw [this] at hu; cases hu
   · obtain rfl := Option.some.inj e'
     have hcell := hc j u hu
     have ea : (⟨b', off', none⟩ : Addr).add j = ⟨b', off' + j, none⟩ := by simp [Addr.add]
     rw [ea]
     exact (bA.cell (p := ⟨b', off' + j, none⟩) (World.block_lt_of_cell? w _ hcell)).trans hcell)
  have HLn := hid hlen
  have HQ := hid (And.intro hu2 (show ∀ q ∈ un2 (pr2 qs), RdQ w q by rw [hu1]; exact hqr))
  clear hqs hqr hqc hu1 hu2 hlen bA h hl
  go_enter Tryz.func146, Tryz.ntmps146
  go_wp2_with (at_builtin; refine wpList_append_row rfl _ _ 65 rfl w.heap.size 74 i0 (.agg #[.int .i64 0, .int .i64 0, .float .f64 0, .slice none 0 0, .int .i64 0, .int .i64 0, .float .f64 0, .slice none 0 0]) 8 96 Tryz.underlying65 hinf hz0 hz1 hz2 rfl (by decide) _ 0 [] rfl OA.out (some ad) n c (fS (pr2 qs)) rfl ?k0 HNw.out (fun e => by cases e) (fS_one _) ?k2 ?k3 ?k4 ?_)
  case k0 => rw [fS_len, HLn.out]
  case k2 => unfold maxLen; omega
  case k3 => omega
  case k4 => exact HBA.out.size
  intro a5 c5 w5 o5 hg5
  have O5 := hid o5
  have B5 := hid (HBA.out.grown hg5 HBA.out.size (fun r e => (OA.out.lt r e).1))
  clear o5 hg5
  go_wp2_with fail
  go_ret
  exact ⟨a5, c5, pr2 qs, rfl, HQ.out.1, HQ.out.2, O5.out, B5.out⟩
theorem take_im (ws : List Im) {k : Nat} (h : k < ws.length) : ws.take (k + 1) = ws.take k ++ [ws.getD k im0] := by
 rw [List.take_succ_eq_append_getElem h]; simp [List.getD, h]
def dup2 (Q : List Qi) : List Qsp := Q.map (fun q => (q, q))
theorem mem_dup2 {Q : List Qi} {q : Qi} (h : q ∈ un2 (dup2 Q)) : q ∈ Q := by
 obtain ⟨s, hs, e⟩ := mem_un2.1 h
 obtain ⟨x, hx, rfl⟩ := List.mem_map.1 hs
 rcases e with rfl | rfl <;> exact hx
set_option maxHeartbeats 6400000 in
theorem impl_singleSpans {a : Option Addr} {n : Nat} (c : Nat) {ws : List Im} {w : World} (h : ReadsM w a ws) (hl : ws.length = n) (hn : n ≤ 1048576) :
 Calls Tryz.prog 106 #[.slice a n c] w fun e w' => ∃ (b : Option Addr) (c' : Nat) (ss : List Qsp), e = .returned (.slice b n c') ∧ ss.map spE = ws.map (fun x => (x, x)) ∧ (∀ q ∈ un2 ss, RdQ w q) ∧ w'.ownsRow w.heap.size 74 8 (.slice b n c') n (fS ss) ∧ Below w.heap.size w w' := by
 have HR := hid h
 have HL := hid hl
 clear h hl
 obtain ⟨i0, hinf, hz0, hz1, hz2⟩ := infoSp
 go_enter Tryz.func106, Tryz.ntmps106
 go_wp2_with fail
 go_loopw [3, 8] (fun s3 s8 wr => ∃ (k : Nat) (b : Option Addr) (c' : Nat) (Q : List Qi), k ≤ n ∧ s8 = .int .i64 k ∧ s3 = .slice b k c' ∧ Hid (Q.map (·.e) = ws.take k) ∧ Hid (∀ q ∈ Q, RdQ w q) ∧ Hid (wr.ownsRow w.heap.size 74 8 (.slice b k c') k (fS (dup2 Q))) ∧ Hid (Below w.heap.size w wr)) (fun _ i _ => n - (intOf i).toNat)
 case atStart => exact ⟨0, none, 0, [], Nat.zero_le _, rfl, rfl, hid (by simp), hid (fun q hq => by cases hq), hid (World.ownsRow_nil _ _ _ _), hid (Below.refl _ _)⟩
 case round =>
  obtain ⟨k, b, c', Q, hk, rfl, rfl, HQm, HQr, HO, HB⟩ := hrel
  by_cases hlt : k < n
  · have hlt' : (k : Int) < (n : Int) := by omega
    have hk0 : (0 : Int) ≤ (k : Int) := by omega
    obtain ⟨bb, off, p, d, rfl, bx, rp, hnl, hmx, hf⟩ := HR.out.at (k := k) (by have := HL.out; omega)
    have HTk := hid (take_im ws (k := k) (by have := HL.out; omega))
    generalize ws.getD k im0 = e0 at *
    obtain ⟨K, N, F, Z⟩ := e0
    simp only at bx rp hmx hf
    have HNq := hid (show RdQ w ⟨⟨K, N, F, Z⟩, p, d⟩ from ⟨rp, hf, hnl, hmx⟩)
    obtain ⟨m, hm⟩ : ∃ m, Z.length = m := ⟨_, rfl⟩
    have HMz := hid hm
    rw [hm] at bx
    obtain ⟨x0, x1, x2, x3⟩ := bx.below HB.out (Nat.le_refl _)
    have hst := fun w a m => run_store Tryz.prog w a (.float .f64 F) m rfl
    have tr := two_rows13 wr (.cells #[.int .i64 K, .int .i64 N, .float .f64 F, .slice p m d] 72) (.cells #[.int .i64 K, .int .i64 N, .float .f64 F, .slice p m d, .int .i64 K, .int .i64 N, .float .f64 F, .slice p m d] 74)
    have bA := two wr (.cells #[.int .i64 K, .int .i64 N, .float .f64 F, .slice p m d] 72) (.cells #[.int .i64 K, .int .i64 N, .float .f64 F, .slice p m d, .int .i64 K, .int .i64 N, .float .f64 F, .slice p m d] 74)
    have HBA := hid (HB.out.trans (bA.mono HB.out.size))
    have OA := hid (owns_below bA (Nat.le_refl _) HO.out)
    have HNw := hid tr.2.1
    clear bx rp hnl hmx hm tr bA HO
    go_wp2_with (at_builtin; refine wpList_append_row rfl _ _ 65 rfl w.heap.size 74 i0 (.agg #[.int .i64 0, .int .i64 0, .float .f64 0, .slice none 0 0, .int .i64 0, .int .i64 0, .float .f64 0, .slice none 0 0]) 8 96 Tryz.underlying65 hinf hz0 hz1 hz2 rfl (by decide) _ k (fS (dup2 Q)) rfl OA.out (some ⟨wr.heap.size + 1, 0, none⟩) 1 1 [.int .i64 K, .int .i64 N, .float .f64 F, .slice p m d, .int .i64 K, .int .i64 N, .float .f64 F, .slice p m d] rfl rfl (.inr ⟨_, rfl, World.news_of_block HNw.out⟩) (fun e => by cases e) ?k1 ?k2 ?k3 ?k4 ?_)
    case k1 => simp [Value.oneCell']
    case k2 => unfold maxLen; omega
    case k3 => omega
    case k4 => exact HBA.out.size
    intro a5 c5 w5 o5 hg5
    have O5 := hid (show w5.ownsRow w.heap.size 74 8 (.slice a5 (k + 1) c5) (k + 1) (fS (dup2 (Q ++ [⟨⟨K, N, F, Z⟩, p, d⟩]))) by
     unfold dup2
     rw [List.map_append, fS_app]
     have e : fS (List.map (fun q => (q, q)) [(⟨⟨K, N, F, Z⟩, p, d⟩ : Qi)]) = [.int .i64 K, .int .i64 N, .float .f64 F, .slice p m d, .int .i64 K, .int .i64 N, .float .f64 F, .slice p m d] := by simp [fS, encS, encQ, HMz.out]
     rw [e]; exact o5)
    have B5 := hid (HBA.out.grown hg5 HBA.out.size (fun r e => (OA.out.lt r e).1))
    clear o5 hg5 x0 x1 x2 x3
    go_wp2_with fail
    go_roundw
    case rel =>
     refine ⟨k + 1, a5, c5, Q ++ [⟨⟨K, N, F, Z⟩, p, d⟩], by omega, by go_num, rfl, hid ?_, hid ?_, O5, B5⟩
     · rw [List.map_append, HQm.out, HTk.out]; rfl
     · intro q hq
       rcases List.mem_append.1 hq with hq | hq
       · exact HQr.out q hq
       · obtain rfl : q = _ := by simpa using hq
         exact HNq.out
    case measure => simp [intOf]; omega
  · have hlt' : ¬ (k : Int) < (n : Int) := by omega
    obtain rfl : k = n := by omega
    have HQ2 := hid (show (dup2 Q).map spE = ws.map (fun x => (x, x)) by
     have h1 := HQm.out
     rw [List.take_of_length_le (by have := HL.out; omega)] at h1
     rw [← h1]
     unfold dup2
     rw [List.map_map, List.map_map]
     rfl)
    go_wp2_with fail
    go_ret
    exact ⟨b, c', rfl, dup2 Q, HQ2.out, fun q hq => HQr.out q (mem_dup2 hq), HO.out, HB.out⟩
end Go.Proofs.YtjcjoabblafboaaGreat
/- Where keys stand that are in some of the spans: plain. No program; the keys ascend, all are right. -/


namespace Go.Proofs.YtjcjoabblafboaaGreat
open Go.RowKit
set_option maxRecDepth 100000
structure SpanAt (ks : List Im) (p : Im × Im) (f e : Nat) : Prop where
 fe : f ≤ e
 en : e ≤ ks.length
 lo : ∀ i, i < f → cmpM (ks.getD i im0) p.1 < 0
 hi : ∀ i, f ≤ i → i < ks.length → 0 ≤ cmpM (ks.getD i im0) p.1
 is : ∀ i, i < ks.length → (inM p (ks.getD i im0) = true ↔ f ≤ i ∧ i < e)
theorem span_at {ks : List Im} {p : Im × Im} (ok : ∀ x ∈ ks, okM x = true) (asc : ks.Pairwise (fun x y => cmpM x y < 0)) (hp : spB p = true) {f i2 e : Nat} (h1 : LB ks p.1 f) (h2 : LB ks p.2 i2) (he : e = if i2 < ks.length ∧ cmpM (ks.getD i2 im0) p.2 = 0 then i2 + 1 else i2) : SpanAt ks p f e := by
 obtain ⟨o1, o2, o12⟩ := spB_ok hp
 have hlt : ∀ i, i < ks.length → (i < e ↔ cmpM (ks.getD i im0) p.2 ≤ 0) := by
  intro i hi
  have oi := ok_at ok hi
  by_cases q : i2 < ks.length ∧ cmpM (ks.getD i2 im0) p.2 = 0
  · rw [if_pos q] at he
    subst he
    constructor
    · intro h
      by_cases e : i = i2
      · subst e; omega
      · have := h2.lt i (by omega); omega
    · intro h
      by_cases r : i < i2 + 1
      · exact r
      · have a1 := asc_at asc (i := i2) (j := i) (by omega) hi
        have a2 := cmpM_lt_le (ok_at ok q.1) oi o2 a1 h
        omega
  · rw [if_neg q] at he
    rw [he]
    constructor
    · intro h; have := h2.lt i h; omega
    · intro h
      by_cases r : i < i2
      · exact r
      · by_cases e : i = i2
        · subst e
          have := h2.ge i (Nat.le_refl _) hi
          exact absurd ⟨hi, by omega⟩ q
        · have hi2 : i2 < ks.length := by omega
          have a1 := asc_at asc (i := i2) (j := i) (by omega) hi
          have a2 := cmpM_lt_le (ok_at ok hi2) oi o2 a1 h
          have := h2.ge i2 (Nat.le_refl _) hi2
          omega
 have hen : e ≤ ks.length := by
  have := h2.le
  rw [he]
  split
  · rename_i q; omega
  · omega
 refine ⟨?_, hen, h1.lt, h1.ge, ?_⟩
 · by_cases q : f ≤ e
   · exact q
   · have hf := h1.le
     have a1 := h1.lt e (by omega)
     have a2 := cmpM_lt_le (ok_at ok (i := e) (by omega)) o1 o2 a1 o12
     have := (hlt e (by omega)).2 (by omega)
     omega
 · intro i hi
   have oi := ok_at ok hi
   rw [inM_iff o1 o2 oi, decide_eq_true_iff, ← hlt i hi]
   have han := cmpM_anti oi o1
   constructor
   · rintro ⟨b1, b2⟩
     refine ⟨?_, b2⟩
     by_cases q : f ≤ i
     · exact q
     · have := h1.lt i (by omega); omega
   · rintro ⟨b1, b2⟩
     have := h1.ge i b1 hi
     exact ⟨by omega, b2⟩
theorem span_mono {ks : List Im} {p q : Im × Im} {f e f' e' : Nat} (ok : ∀ x ∈ ks, okM x = true) (op : okM p.1 = true) (oq : okM q.1 = true) (h : SpanAt ks p f e) (h' : SpanAt ks q f' e') (hle : cmpM p.1 q.1 ≤ 0) : f ≤ f' := by
 by_cases r : f ≤ f'
 · exact r
 · have hl : f' < ks.length := by have := h.en; have := h.fe; omega
   have a1 := h.lo f' (by omega)
   have a2 := h'.hi f' (Nat.le_refl _) hl
   have := cmpM_lt_le (ok_at ok hl) op oq a1 hle
   omega
def anyS (rs : List (Im × Im)) (x : Im) : Bool := rs.any (fun p => inM p x)
def plS (ks : List Im) (rs : List (Im × Im)) : List Nat := (List.range ks.length).filter (fun i => anyS rs (ks.getD i im0))
def nI (P : List Nat) : List Int := P.map (fun i : Nat => (i : Int))
theorem nI_app (a b : List Nat) : nI (a ++ b) = nI a ++ nI b := by simp [nI]
theorem nI_len (a : List Nat) : (nI a).length = a.length := by simp [nI]
theorem anyS_snoc (R : List (Im × Im)) {j : Nat} (hj : j < R.length) (x : Im) : anyS (R.take (j + 1)) x = (anyS (R.take j) x || inM (R.getD j sp0) x) := by
 unfold anyS
 rw [List.take_succ_eq_append_getElem hj, List.any_append]
 simp [List.getD, hj]
theorem anyS_perm {a b : List (Im × Im)} (h : a.Perm b) (x : Im) : anyS a x = anyS b x := by
 unfold anyS
 rw [Bool.eq_iff_iff, List.any_eq_true, List.any_eq_true]
 exact ⟨fun ⟨p, hp, q⟩ => ⟨p, h.mem_iff.1 hp, q⟩, fun ⟨p, hp, q⟩ => ⟨p, h.mem_iff.2 hp, q⟩⟩
structure Far (ks : List Im) (R : List (Im × Im)) (j nx : Nat) (P : List Nat) : Prop where
 le : nx ≤ ks.length
 pl : P = (List.range nx).filter (fun i => anyS (R.take j) (ks.getD i im0))
 no : ∀ i, nx ≤ i → i < ks.length → anyS (R.take j) (ks.getD i im0) = false
 at' : nx = 0 ∨ ∃ j', j' < j ∧ ∃ f, SpanAt ks (R.getD j' sp0) f nx
theorem Far.start (ks : List Im) (R : List (Im × Im)) : Far ks R 0 0 [] := ⟨Nat.zero_le _, by simp, fun i _ _ => by simp [anyS], .inl rfl⟩
theorem filter_range' (q : Nat → Bool) (a m : Nat) : (List.range (a + m)).filter q = (List.range a).filter q ++ (List.range' a m).filter q := by
 rw [List.range_eq_range', List.range_eq_range', ← List.filter_append]
 congr 1
 rw [← List.range'_append_1]; simp
theorem Far.step {ks : List Im} {R : List (Im × Im)} {j nx : Nat} {P : List Nat} (h : Far ks R j nx P) (hj : j < R.length) (ok : ∀ x ∈ ks, okM x = true) (oR : ∀ p ∈ R, spB p = true) (sR : R.Pairwise (fun x y => cmpM x.1 y.1 ≤ 0)) {f e : Nat} (hs : SpanAt ks (R.getD j sp0) f e) :
 (e ≤ max nx f → Far ks R (j + 1) (max nx f) P) ∧ (max nx f < e → Far ks R (j + 1) e (P ++ List.range' (max nx f) (e - max nx f))) := by
 have rj : R.getD j sp0 = R[j] := by simp [List.getD, hj]
 have oj : spB (R.getD j sp0) = true := by rw [rj]; exact oR _ (List.getElem_mem hj)
 have hold : ∀ i, i < nx → f ≤ i → anyS (R.take j) (ks.getD i im0) = true := by
  intro i hi hf
  rcases h.at' with h0 | ⟨j', hj', f', hs'⟩
  · omega
  · have rj' : R.getD j' sp0 = R[j'] := by simp [List.getD, show j' < R.length by omega]
    have oj' : spB (R.getD j' sp0) = true := by rw [rj']; exact oR _ (List.getElem_mem (by omega))
    have hle : cmpM (R.getD j' sp0).1 (R.getD j sp0).1 ≤ 0 := by rw [rj, rj']; exact (List.pairwise_iff_getElem.1 sR) j' j (by omega) hj hj'
    have := span_mono ok (spB_ok oj').1 (spB_ok oj).1 hs' hs hle
    unfold anyS
    rw [List.any_eq_true]
    refine ⟨R[j'], List.mem_take_iff_getElem.2 ⟨j', by omega, rfl⟩, ?_⟩
    rw [← rj']
    exact (hs'.is i (by have := h.le; omega)).2 ⟨by omega, hi⟩
 have hsm : ∀ i, i < nx → anyS (R.take (j + 1)) (ks.getD i im0) = anyS (R.take j) (ks.getD i im0) := by
  intro i hi
  rw [anyS_snoc R hj]
  cases hq : inM (R.getD j sp0) (ks.getD i im0) with
  | false => rw [Bool.or_false]
  | true =>
   rw [hold i hi ((hs.is i (by have := h.le; omega)).1 hq).1]; rfl
 have hfil : (List.range nx).filter (fun i => anyS (R.take (j + 1)) (ks.getD i im0)) = P := by
  rw [h.pl]
  exact List.filter_congr (fun i hi => hsm i (List.mem_range.1 hi))
 have hbe : ∀ i, nx ≤ i → i < ks.length → anyS (R.take (j + 1)) (ks.getD i im0) = decide (f ≤ i ∧ i < e) := by
  intro i h1 h2
  rw [anyS_snoc R hj, h.no i h1 h2, Bool.false_or, Bool.eq_iff_iff, decide_eq_true_iff]
  exact hs.is i h2
 have hen := hs.en
 have hfe := hs.fe
 constructor
 · intro hle
   have hmx : max nx f = nx ∨ max nx f = f := by omega
   have hnx : e ≤ nx ∨ (nx < f ∧ f = e) := by omega
   rcases hnx with hnx | ⟨h1, h2⟩
   · have e1 : max nx f = nx := by omega
     rw [e1]
     refine ⟨h.le, hfil.symm, fun i h1 h2 => ?_, ?_⟩
     · rw [hbe i h1 h2, decide_eq_false (by omega)]
     · rcases h.at' with h0 | ⟨j', hj', q⟩
       · exact .inl h0
       · exact .inr ⟨j', by omega, q⟩
   · have e1 : max nx f = e := by omega
     rw [e1]
     refine ⟨hen, ?_, fun i h3 h4 => ?_, .inr ⟨j, by omega, f, hs⟩⟩
     · obtain ⟨m, hm⟩ : ∃ m, e = nx + m := ⟨e - nx, by omega⟩
       rw [hm, filter_range', hfil]
       rw [show (List.range' nx m).filter (fun i => anyS (R.take (j + 1)) (ks.getD i im0)) = [] from ?_, List.append_nil]
       rw [List.filter_eq_nil_iff]
       intro i hi
       rw [List.mem_range'_1] at hi
       rw [hbe i hi.1 (by omega), decide_eq_false (by omega)]
       simp
     · rw [hbe i (by omega) h4, decide_eq_false (by omega)]
 · intro hlt
   refine ⟨hen, ?_, fun i h3 h4 => ?_, .inr ⟨j, by omega, f, hs⟩⟩
   · obtain ⟨m, hm⟩ : ∃ m, max nx f = nx + m := ⟨max nx f - nx, by omega⟩
     obtain ⟨r, hr⟩ : ∃ r, e = max nx f + r := ⟨e - max nx f, by omega⟩
     rw [show e - max nx f = r by omega]
     conv => rhs; rw [hr, filter_range', hm, filter_range', hfil]
     rw [hm]
     rw [show (List.range' nx m).filter (fun i => anyS (R.take (j + 1)) (ks.getD i im0)) = [] from ?_, List.append_nil]
     · congr 1
       symm
       rw [List.filter_eq_self]
       intro i hi
       rw [List.mem_range'_1] at hi
       rw [hbe i (by omega) (by omega), decide_eq_true (by omega)]
     · rw [List.filter_eq_nil_iff]
       intro i hi
       rw [List.mem_range'_1] at hi
       rw [hbe i hi.1 (by omega), decide_eq_false (by omega)]
       simp
   · rw [hbe i (by omega) h4, decide_eq_false (by omega)]
theorem Far.done {ks : List Im} {R rs : List (Im × Im)} {nx : Nat} {P : List Nat} (h : Far ks R R.length nx P) (hp : R.Perm rs) : P = plS ks rs := by
 unfold plS
 obtain ⟨m, hm⟩ : ∃ m, ks.length = nx + m := ⟨ks.length - nx, by have := h.le; omega⟩
 have hno := h.no
 have hpl := h.pl
 rw [List.take_length] at hno hpl
 rw [show (fun i => anyS rs (ks.getD i im0)) = (fun i => anyS R (ks.getD i im0)) from funext (fun i => (anyS_perm hp _).symm), hm, filter_range', ← hpl]
 rw [show (List.range' nx m).filter (fun i => anyS R (ks.getD i im0)) = [] from ?_, List.append_nil]
 rw [List.filter_eq_nil_iff]
 intro i hi
 rw [List.mem_range'_1] at hi
 rw [hno i hi.1 (by omega)]
 simp
end Go.Proofs.YtjcjoabblafboaaGreat
