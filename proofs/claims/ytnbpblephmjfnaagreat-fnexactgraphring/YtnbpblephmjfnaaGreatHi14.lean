/- slices.CompactFunc over a row of keys of the call's own: the walk. Conditions: at most 2^20 keys. -/
import Derived.Test.YtnbpblephmjfnaaGreatHh14
namespace Go.Proofs.YtnbpblephmjfnaaGreat
open Go.RowKit
set_option maxRecDepth 100000
theorem own_two {w : World} {g : Nat} {d : List Qi} {rest : List Value} {ty : TypeId} (h : w.heap[g]? = some (.cells (fQ d ++ rest).toArray ty)) {i : Nat} (hi : i < d.length) : Box4 w g (i * 4) (d.getD i qi0).e.K (d.getD i qi0).e.N (d.getD i qi0).e.F (.slice (d.getD i qi0).a (d.getD i qi0).e.Z.length (d.getD i qi0).c) := by
 have e : fQ d = fQ (d.take i) ++ (encQ (d.getD i qi0) ++ fQ (d.drop (i + 1))) := by
  rw [← fQ_cons, ← getD_cons14 hi, ← fQ_app, List.take_append_drop]
 rw [e, List.append_assoc, List.append_assoc] at h
 exact mid4 h (by rw [fQ_len, List.length_take]; omega)
theorem zeros_len14 (n : Nat) : (Builtin.zeroCells (Value.agg #[.int .i64 0, .int .i64 0, .float .f64 0, .slice none 0 0]).cells n).toList.length = n * 4 := by
 rw [Array.length_toList, size_zeroCells]; rfl
theorem zeros_one14 (n : Nat) : ∀ v ∈ (Builtin.zeroCells (Value.agg #[.int .i64 0, .int .i64 0, .float .f64 0, .slice none 0 0]).cells n).toList, v.oneCell' = true := by
 intro v hv
 rw [Array.mem_toList_iff] at hv
 unfold Builtin.zeroCells at hv
 rw [Array.mem_map] at hv
 obtain ⟨i, _, rfl⟩ := hv
 have : i % 4 < 4 := Nat.mod_lt _ (by omega)
 show Value.oneCell' (#[.int .i64 0, .int .i64 0, .float .f64 0, .slice none 0 0][i % 4]!) = true
 generalize i % 4 = j at this
 rcases j with _ | _ | _ | _ | j
 · rfl
 · rfl
 · rfl
 · rfl
 · omega
set_option maxHeartbeats 12800000 in
theorem compact_items {base g c n : Nat} (d : List Qi) (hd : d.length = n) {w : World} (own : w.ownsRow base 72 4 (.slice (some ⟨g, 0, none⟩) n c) n (fQ d)) (hg : ∀ i, i < n → GoodQ w g (d.getD i qi0)) (hn : n ≤ 1048576) :
 Calls Tryz.prog 144 #[.slice (some ⟨g, 0, none⟩) n c, .func (.func 145) #[] #[]] w fun e w' => ∃ k, e = .returned (.slice (some ⟨g, 0, none⟩) k c) ∧ (cpQ d n).length = k ∧ w'.ownsRow base 72 4 (.slice (some ⟨g, 0, none⟩) k c) k (fQ (cpQ d n)) ∧ Keeps (fun b => b = g) w w' := by
 have HO := hid own
 have HG := hid hg
 have HD := hid hd
 clear own hg hd
 by_cases h2 : n < 2
 · have h2' : (n : Int) < 2 := by omega
   have HE := hid (show cpQ d n = d by
    have := HD.out
    match d, this with
    | [], e => subst e; rfl
    | [x], e => subst e; rfl
    | _ :: _ :: _, e => simp at e; omega)
   go_enter Tryz.func144, Tryz.ntmps144
   go_wp2_with fail
   go_ret
   exact ⟨n, rfl, by rw [HE.out]; exact HD.out, by rw [HE.out]; exact HO.out, Keeps.refl _ _⟩
 have h2' : ¬ (n : Int) < 2 := by omega
 obtain ⟨rest, hrow, hrl, hcn, hcm, hbg⟩ := owns_blk HO.out
 have HRW := hid hrow
 have HRL := hid hrl
 have HCM := hid hcm
 have hgw : g < w.heap.size := (Array.getElem?_eq_some_iff.1 hrow).1
 clear hrow hrl hcm
 go_enter Tryz.func144, Tryz.ntmps144
 go_wp2_with fail
 go_loopw [5] (fun i wr => ∃ j : Nat, j + 1 ≤ n ∧ i = .int .i64 ((j : Int) + 1) ∧ Hid (cpQ d (j + 1) = d.take (j + 1)) ∧ Hid (Below w.heap.size w wr)) (fun i _ => n - (intOf i).toNat)
 case atStart => exact ⟨0, by omega, rfl, hid (by rw [take_q (by have := HD.out; omega)]; rfl), hid (Below.refl _ _)⟩
 case round =>
  obtain ⟨j, hj, rfl, HCp, HB⟩ := hrel
  by_cases hlt : j + 1 < n
  · have hlt' : (j : Int) + 1 < (n : Int) := by omega
    have hj0 : (0 : Int) ≤ (j : Int) + 1 := by omega
    have hj1 : (j : Int) < (n : Int) := by omega
    have hj2 : (0 : Int) ≤ (j : Int) := by omega
    have hw1 : IntKind.i64.wrap (j : Int) = (j : Int) := by simp [IntKind.wrap, IntKind.bits, IntKind.signed]; omega
    have hrow := (HB.out.block g hgw).trans HRW.out
    have bx := own_two hrow (i := j + 1) (by have := HD.out; omega)
    have by' := own_two hrow (i := j) (by have := HD.out; omega)
    have gx := (HG.out (j + 1) (by omega)).keep (Keeps.of_below HB.out)
    have gy := (HG.out j (by omega)).keep (Keeps.of_below HB.out)
    have lx := okM_len gx.ok
    have ly := okM_len gy.ok
    have gr1 := gx.rd
    have gr2 := gy.rd
    have gf1 := gx.fl
    have gf2 := gy.fl
    have HS := hid (cpQ_succ d (j + 1))
    have HKp := hid (show kpQ d (j + 1) = decide (cmpM (d.getD (j + 1) qi0).e (d.getD j qi0).e ≠ 0) by unfold kpQ; simp)
    have HTk := hid (take_q (d := d) (j := j + 1) (by have := HD.out; omega))
    generalize d.getD (j + 1) qi0 = qx at *
    generalize d.getD j qi0 = qy at *
    clear gx gy hrow
    obtain ⟨⟨K, N, F, Z⟩, p, b⟩ := qx
    obtain ⟨⟨K', N', F', Z'⟩, p', b'⟩ := qy
    simp only at bx by' gr1 gr2 gf1 gf2 lx ly
    obtain ⟨m, hm⟩ : ∃ m, Z.length = m := ⟨_, rfl⟩
    obtain ⟨m', hm'⟩ : ∃ m, Z'.length = m := ⟨_, rfl⟩
    have HCm := hid (show cmpM ⟨K, N, F, Z⟩ ⟨K', N', F', Z'⟩ = cmpI K N F m Z K' N' F' m' Z' by unfold cmpM; simp only [hm, hm'])
    rw [hm] at bx gr1 lx
    rw [hm'] at by' gr2 ly
    clear hm hm'
    simp only at HKp
    rw [HCm.out] at HKp
    have bD := (Below.refl wr.heap.size wr).drew
    have HSD := hid (show (fun W => Box4 W g ((j + 1) * 4) K N F (.slice p m b) ∧ Box4 W g (j * 4) K' N' F' (.slice p' m' b')) wr.drew from ⟨bx.below bD (Nat.le_refl _), by'.below bD (Nat.le_refl _)⟩)
    have HR1 := hid (gr1.below bD (Nat.le_refl _))
    have HR2 := hid (gr2.below bD (Nat.le_refl _))
    have HBD := hid (HB.out.trans (bD.mono HB.out.size))
    clear bx by' gr1 gr2 bD
    go_wp2
    refine region_K 99 (fun W => Box4 W g ((j + 1) * 4) K N F (.slice p m b) ∧ Box4 W g (j * 4) K' N' F' (.slice p' m' b')) (by kernel_rfl) ?_ (fun hHeld => ?_)
    · exact HSD.out
    generalize wr.drew = v0 at *
    refine anyK_take2 (i := 0) (v := ?v0_1) rfl (by kernel_rfl) (by kernel_rfl) (by kernel_rfl) (by rfl) (fun _ _ _ h => h) (by rfl) hHeld ?hy0_1 (some 18) (by rfl) ?rest0_1
    case hy0_1 => (intro W hSw; obtain ⟨⟨x0, x1, x2, x3⟩, x4, x5, x6, x7⟩ := hSw; go_simp; (try with_reducible rfl))
    try simp only [Act.put, List.setIfInBounds_toArray, List.set_cons_succ, List.set_cons_zero]
    refine anyK_take2 (i := 1) (v := ?v1_2) rfl (by kernel_rfl) (by kernel_rfl) (by kernel_rfl) (by rfl) (fun _ _ _ h => h) (by rfl) hHeld ?hy1_2 (some 19) (by rfl) ?rest1_2
    case hy1_2 => (intro W hSw; obtain ⟨⟨x0, x1, x2, x3⟩, x4, x5, x6, x7⟩ := hSw; go_simp; (try with_reducible rfl))
    try simp only [Act.put, List.setIfInBounds_toArray, List.set_cons_succ, List.set_cons_zero]
    refine anyK_take2 (i := 2) (v := ?v2_3) rfl (by kernel_rfl) (by kernel_rfl) (by kernel_rfl) (by rfl) (fun _ _ _ h => h) (by rfl) hHeld ?hy2_3 (some 20) (by rfl) ?rest2_3
    case hy2_3 => (intro W hSw; obtain ⟨⟨x0, x1, x2, x3⟩, x4, x5, x6, x7⟩ := hSw; go_simp; (try with_reducible rfl))
    try simp only [Act.put, List.setIfInBounds_toArray, List.set_cons_succ, List.set_cons_zero]
    refine anyK_take2 (i := 3) (v := ?v3_4) rfl (by kernel_rfl) (by kernel_rfl) (by kernel_rfl) (by rfl) (fun _ _ _ h => h) (by rfl) hHeld ?hy3_4 (some 21) (by rfl) ?rest3_4
    case hy3_4 => (intro W hSw; obtain ⟨⟨x0, x1, x2, x3⟩, x4, x5, x6, x7⟩ := hSw; go_simp; (try with_reducible rfl))
    try simp only [Act.put, List.setIfInBounds_toArray, List.set_cons_succ, List.set_cons_zero]
    refine anyK_take2 (i := 4) (v := ?v4_5) rfl (by kernel_rfl) (by kernel_rfl) (by kernel_rfl) (by rfl) (fun _ _ _ h => h) (by rfl) hHeld ?hy4_5 (some 22) (by rfl) ?rest4_5
    case hy4_5 => (intro W hSw; obtain ⟨⟨x0, x1, x2, x3⟩, x4, x5, x6, x7⟩ := hSw; go_simp; (try with_reducible rfl))
    try simp only [Act.put, List.setIfInBounds_toArray, List.set_cons_succ, List.set_cons_zero]
    refine anyK_take2 (i := 5) (v := ?v5_6) rfl (by kernel_rfl) (by kernel_rfl) (by kernel_rfl) (by rfl) (fun _ _ _ h => h) (by rfl) hHeld ?hy5_6 (some 23) (by rfl) ?rest5_6
    case hy5_6 => (intro W hSw; obtain ⟨⟨x0, x1, x2, x3⟩, x4, x5, x6, x7⟩ := hSw; go_simp; (try with_reducible rfl))
    try simp only [Act.put, List.setIfInBounds_toArray, List.set_cons_succ, List.set_cons_zero]
    refine anyK_take2 (i := 6) (v := ?v6_7) rfl (by kernel_rfl) (by kernel_rfl) (by kernel_rfl) (by rfl) (fun _ _ _ h => h) (by rfl) hHeld ?hy6_7 (some 24) (by rfl) ?rest6_7
    case hy6_7 => (intro W hSw; obtain ⟨⟨x0, x1, x2, x3⟩, x4, x5, x6, x7⟩ := hSw; go_simp; (try with_reducible rfl))
    try simp only [Act.put, List.setIfInBounds_toArray, List.set_cons_succ, List.set_cons_zero]
    refine anyK_take2 (i := 7) (v := ?v7_8) rfl (by kernel_rfl) (by kernel_rfl) (by kernel_rfl) (by rfl) (fun _ _ _ h => h) (by rfl) hHeld ?hy7_8 (some 25) (by rfl) ?rest7_8
    case hy7_8 => (intro W hSw; obtain ⟨⟨x0, x1, x2, x3⟩, x4, x5, x6, x7⟩ := hSw; go_simp; (try with_reducible rfl))
    try simp only [Act.put, List.setIfInBounds_toArray, List.set_cons_succ, List.set_cons_zero]
    refine anyK_take2 (i := 8) (v := ?v8_9) rfl (by kernel_rfl) (by kernel_rfl) (by kernel_rfl) (by rfl) (fun _ _ _ h => h) (by rfl) hHeld ?hy8_9 (some 26) (by rfl) ?rest8_9
    case hy8_9 => (intro W hSw; obtain ⟨⟨x0, x1, x2, x3⟩, x4, x5, x6, x7⟩ := hSw; go_simp; (try with_reducible rfl))
    try simp only [Act.put, List.setIfInBounds_toArray, List.set_cons_succ, List.set_cons_zero]
    refine anyK_take2 (i := 9) (v := ?v9_10) rfl (by kernel_rfl) (by kernel_rfl) (by kernel_rfl) (by rfl) (fun _ _ _ h => h) (by rfl) hHeld ?hy9_10 (some 27) (by rfl) ?rest9_10
    case hy9_10 => (intro W hSw; obtain ⟨⟨x0, x1, x2, x3⟩, x4, x5, x6, x7⟩ := hSw; go_simp; (try with_reducible rfl))
    try simp only [Act.put, List.setIfInBounds_toArray, List.set_cons_succ, List.set_cons_zero]
    refine anyK_step (i := 10) (by kernel_rfl) rfl (fun KP hK => ?_)
    go_simp
    refine (impl_same K N K' N' F F' b b' gf1 gf2 HR1.out HR2.out (by omega) (by omega)).mono ?_
    rintro e u1 ⟨rfl, bb⟩
    have HSE := hid (show (fun W => Box4 W g ((j + 1) * 4) K N F (.slice p m b) ∧ Box4 W g (j * 4) K' N' F' (.slice p' m' b')) u1 from ⟨HSD.out.1.below bb (Nat.le_refl _), HSD.out.2.below bb (Nat.le_refl _)⟩)
    have HBE := hid (HBD.out.trans (bb.mono HBD.out.size))
    clear bb
    generalize cmpI K N F m Z K' N' F' m' Z' = v at *
    go_wp2_with fail
    clear hHeld
    refine hK.out _ _ HSE.out (fun hHeld => ?_)
    clear hK KP
    try simp only [Act.put, List.setIfInBounds_toArray, List.set_cons_succ, List.set_cons_zero]
    refine anyK_done (by kernel_rfl) ?_ _
    clear hHeld
    by_cases hv : v = 0
    · rw [decide_eq_true hv]
      obtain ⟨k0, hk0⟩ : ∃ k0, j + 1 = k0 := ⟨_, rfl⟩
      have e0 : (j : Int) + 1 = (k0 : Int) := by omega
      rw [hk0] at HS HCp HKp hlt
      obtain ⟨r, hr⟩ : ∃ r, n = k0 + r := ⟨n - k0, by omega⟩
      have hr1 : 1 ≤ r := by omega
      have hk1 : 1 ≤ k0 := by omega
      have HC2 := hid (show cpQ d (k0 + 1) = d.take k0 by rw [HS.out, HKp.out, decide_eq_false (by simp [hv]), if_neg (by simp), List.append_nil, HCp.out])
      clear hv HS HKp HCp HTk HCm HR1 HR2 HSD HSE HBD lx ly gf1 gf2 hj0 hj1 hj2 hw1 hlt'
      have hkn : (k0 : Int) ≤ (n : Int) := by omega
      have hk00 : (0 : Int) ≤ (k0 : Int) := by omega
      have hkc : k0 ≤ c := by omega
      have hkc' : ¬ c = k0 := by omega
      have hkn2 : k0 ≤ n := by omega
      have HKP := hid (show Keeps (fun b => b = g) w u1 from Keeps.of_below HBE.out)
      have HRU := hid ((HBE.out.block g hgw).trans HRW.out)
      clear HBE HB
      simp only [e0]
      clear e0 hk0 hlt
      have HNr := hid hr
      have hr' : n - k0 = r := by omega
      clear hr
      go_wp2_with fail
      try simp only [hr']
      clear hr'
      go_loopw [5, 7] (fun s5 s7 wr => ∃ (i i2 : Nat) (X : List Value), s5 = .int .i64 i ∧ s7 = .int .i64 ((i2 : Int) + 1) ∧ i2 + 1 ≤ r ∧ i ≤ k0 + i2 ∧ Hid ((cpQ d (k0 + i2 + 1)).length = i) ∧ Hid (X.length = (k0 + i2 - i) * 4) ∧ Hid (wr.heap[g]? = some (.cells (fQ (cpQ d (k0 + i2 + 1)) ++ (X ++ (fQ (d.drop (k0 + i2)) ++ rest))).toArray 72)) ∧ Hid (Keeps (fun b => b = g) w wr)) (fun _ s _ => r - (intOf s).toNat)
      case atStart =>
       refine ⟨k0, 0, [], rfl, rfl, by omega, by omega, hid ?_, hid (by simp), hid ?_, HKP⟩
       · simp only [Nat.add_zero]; rw [HC2.out, List.length_take]; have := HD.out; omega
       · simp only [Nat.add_zero]; rw [HC2.out, List.nil_append, ← List.append_assoc, ← fQ_app, List.take_append_drop]
         exact HRU.out
      case round =>
       clear HKP HRU HC2
       obtain ⟨i, i2, X, rfl, rfl, hi2, hik, HLn, HXl, HRo, HKP⟩ := hrel
       obtain ⟨wo, hwo⟩ : ∃ wo, wo = wr := ⟨_, rfl⟩
       subst hwo
       have hi2b : i2 + 1 ≤ 1048576 := by have := HNr.out; omega
       have hgo : g < wo.heap.size := (Array.getElem?_eq_some_iff.1 HRo.out).1
       by_cases hlt : i2 + 1 < r
       · have hlt' : (i2 : Int) + 1 < (r : Int) := by omega
         have hj0 : (0 : Int) ≤ (i2 : Int) + 1 := by omega
         have hj1 : (i2 : Int) < (r : Int) := by omega
         have hj2 : (0 : Int) ≤ (i2 : Int) := by omega
         have hw1 : IntKind.i64.wrap (i2 : Int) = (i2 : Int) := by have := HNr.out; simp [IntKind.wrap, IntKind.bits, IntKind.signed]; omega
         have hin : (i : Int) < (n : Int) := by have := HNr.out; omega
         have hi0 : (0 : Int) ≤ (i : Int) := by omega
         have hdl : d.length = k0 + r := by rw [HD.out, HNr.out]
         have hrow := HRo.out
         rw [getD_cons14 (j := k0 + i2) (by omega), fQ_cons, getD_cons14 (j := k0 + i2 + 1) (by omega), fQ_cons, List.append_assoc (encQ _), List.append_assoc (encQ _)] at hrow
         have hla : (fQ (cpQ d (k0 + i2 + 1))).length = i * 4 := by rw [fQ_len, HLn.out]
         have hrow2 := hrow
         rw [← List.append_assoc (fQ _)] at hrow2
         have by' := mid4 hrow2 (o := k0 * 4 + i2 * 4) (by rw [List.length_append, hla, HXl.out]; omega)
         rw [← List.append_assoc (_ ++ X)] at hrow2
         have bx := mid4 hrow2 (o := k0 * 4 + (i2 + 1) * 4) (by rw [List.length_append, List.length_append, hla, HXl.out, encQ_len]; omega)
         have gx := (HG.out (k0 + i2 + 1) (by have := HNr.out; omega)).keep HKP.out
         have gy := (HG.out (k0 + i2) (by have := HNr.out; omega)).keep HKP.out
         have lx := okM_len gx.ok
         have ly := okM_len gy.ok
         have gr1 := gx.rd
         have gr2 := gy.rd
         have gf1 := gx.fl
         have gf2 := gy.fl
         have HS := hid (cpQ_succ d (k0 + i2 + 1))
         have HKp := hid (show kpQ d (k0 + i2 + 1) = decide (cmpM (d.getD (k0 + i2 + 1) qi0).e (d.getD (k0 + i2) qi0).e ≠ 0) by unfold kpQ; simp)
         have HRow := hid hrow
         have HD1 := hid (show d.drop (k0 + i2 + 1) = d.getD (k0 + i2 + 1) qi0 :: d.drop (k0 + i2 + 1 + 1) from getD_cons14 (by omega))
         generalize d.getD (k0 + i2 + 1) qi0 = qx at *
         generalize d.getD (k0 + i2) qi0 = qy at *
         clear gx gy hrow hrow2 hdl
         obtain ⟨⟨K, N, F, Z⟩, p, b⟩ := qx
         obtain ⟨⟨K', N', F', Z'⟩, p', b'⟩ := qy
         simp only at bx by' gr1 gr2 gf1 gf2 lx ly
         obtain ⟨m, hm⟩ : ∃ m, Z.length = m := ⟨_, rfl⟩
         obtain ⟨m', hm'⟩ : ∃ m, Z'.length = m := ⟨_, rfl⟩
         have HCm := hid (show cmpM ⟨K, N, F, Z⟩ ⟨K', N', F', Z'⟩ = cmpI K N F m Z K' N' F' m' Z' by unfold cmpM; simp only [hm, hm'])
         rw [hm] at bx gr1 lx
         rw [hm'] at by' gr2 ly
         have HZl := hid hm
         clear hm hm'
         simp only at HKp
         rw [HCm.out] at HKp
         have bD := (Below.refl wo.heap.size wo).drew
         have HSD := hid (show (fun W => Box4 W g (k0 * 4 + (i2 + 1) * 4) K N F (.slice p m b) ∧ Box4 W g (k0 * 4 + i2 * 4) K' N' F' (.slice p' m' b')) wo.drew from ⟨bx.below bD (Nat.le_refl _), by'.below bD (Nat.le_refl _)⟩)
         have HR1 := hid (gr1.below bD (Nat.le_refl _))
         have HR2 := hid (gr2.below bD (Nat.le_refl _))
         have HKD := hid (HKP.out.trans (Keeps.of_below bD))
         have HRD := hid ((bD.block g hgo).trans HRow.out)
         have HZD := hid (show g < wo.drew.heap.size from hgo)
         clear bx by' gr1 gr2 bD HRow
         go_wp2
         refine region_K 99 (fun W => Box4 W g (k0 * 4 + (i2 + 1) * 4) K N F (.slice p m b) ∧ Box4 W g (k0 * 4 + i2 * 4) K' N' F' (.slice p' m' b')) (by kernel_rfl) ?_ (fun hHeld => ?_)
         · exact HSD.out
         generalize wo.drew = v0 at *
         refine anyK_take2 (i := 0) (v := ?v0_11) rfl (by kernel_rfl) (by kernel_rfl) (by kernel_rfl) (by rfl) (fun _ _ _ h => h) (by rfl) hHeld ?hy0_11 (some 38) (by rfl) ?rest0_11
         case hy0_11 => (intro W hSw; obtain ⟨⟨x0, x1, x2, x3⟩, x4, x5, x6, x7⟩ := hSw; go_simp; (try with_reducible rfl))
         try simp only [Act.put, List.setIfInBounds_toArray, List.set_cons_succ, List.set_cons_zero]
         refine anyK_take2 (i := 1) (v := ?v1_12) rfl (by kernel_rfl) (by kernel_rfl) (by kernel_rfl) (by rfl) (fun _ _ _ h => h) (by rfl) hHeld ?hy1_12 (some 39) (by rfl) ?rest1_12
         case hy1_12 => (intro W hSw; obtain ⟨⟨x0, x1, x2, x3⟩, x4, x5, x6, x7⟩ := hSw; go_simp; (try with_reducible rfl))
         try simp only [Act.put, List.setIfInBounds_toArray, List.set_cons_succ, List.set_cons_zero]
         refine anyK_take2 (i := 2) (v := ?v2_13) rfl (by kernel_rfl) (by kernel_rfl) (by kernel_rfl) (by rfl) (fun _ _ _ h => h) (by rfl) hHeld ?hy2_13 (some 40) (by rfl) ?rest2_13
         case hy2_13 => (intro W hSw; obtain ⟨⟨x0, x1, x2, x3⟩, x4, x5, x6, x7⟩ := hSw; go_simp; (try with_reducible rfl))
         try simp only [Act.put, List.setIfInBounds_toArray, List.set_cons_succ, List.set_cons_zero]
         refine anyK_take2 (i := 3) (v := ?v3_14) rfl (by kernel_rfl) (by kernel_rfl) (by kernel_rfl) (by rfl) (fun _ _ _ h => h) (by rfl) hHeld ?hy3_14 (some 41) (by rfl) ?rest3_14
         case hy3_14 => (intro W hSw; obtain ⟨⟨x0, x1, x2, x3⟩, x4, x5, x6, x7⟩ := hSw; go_simp; (try with_reducible rfl))
         try simp only [Act.put, List.setIfInBounds_toArray, List.set_cons_succ, List.set_cons_zero]
         refine anyK_take2 (i := 4) (v := ?v4_15) rfl (by kernel_rfl) (by kernel_rfl) (by kernel_rfl) (by rfl) (fun _ _ _ h => h) (by rfl) hHeld ?hy4_15 (some 42) (by rfl) ?rest4_15
         case hy4_15 => (intro W hSw; obtain ⟨⟨x0, x1, x2, x3⟩, x4, x5, x6, x7⟩ := hSw; go_simp; (try with_reducible rfl))
         try simp only [Act.put, List.setIfInBounds_toArray, List.set_cons_succ, List.set_cons_zero]
         refine anyK_take2 (i := 5) (v := ?v5_16) rfl (by kernel_rfl) (by kernel_rfl) (by kernel_rfl) (by rfl) (fun _ _ _ h => h) (by rfl) hHeld ?hy5_16 (some 43) (by rfl) ?rest5_16
         case hy5_16 => (intro W hSw; obtain ⟨⟨x0, x1, x2, x3⟩, x4, x5, x6, x7⟩ := hSw; go_simp; (try with_reducible rfl))
         try simp only [Act.put, List.setIfInBounds_toArray, List.set_cons_succ, List.set_cons_zero]
         refine anyK_take2 (i := 6) (v := ?v6_17) rfl (by kernel_rfl) (by kernel_rfl) (by kernel_rfl) (by rfl) (fun _ _ _ h => h) (by rfl) hHeld ?hy6_17 (some 44) (by rfl) ?rest6_17
         case hy6_17 => (intro W hSw; obtain ⟨⟨x0, x1, x2, x3⟩, x4, x5, x6, x7⟩ := hSw; go_simp; (try with_reducible rfl))
         try simp only [Act.put, List.setIfInBounds_toArray, List.set_cons_succ, List.set_cons_zero]
         refine anyK_take2 (i := 7) (v := ?v7_18) rfl (by kernel_rfl) (by kernel_rfl) (by kernel_rfl) (by rfl) (fun _ _ _ h => h) (by rfl) hHeld ?hy7_18 (some 45) (by rfl) ?rest7_18
         case hy7_18 => (intro W hSw; obtain ⟨⟨x0, x1, x2, x3⟩, x4, x5, x6, x7⟩ := hSw; go_simp; (try with_reducible rfl))
         try simp only [Act.put, List.setIfInBounds_toArray, List.set_cons_succ, List.set_cons_zero]
         refine anyK_take2 (i := 8) (v := ?v8_19) rfl (by kernel_rfl) (by kernel_rfl) (by kernel_rfl) (by rfl) (fun _ _ _ h => h) (by rfl) hHeld ?hy8_19 (some 46) (by rfl) ?rest8_19
         case hy8_19 => (intro W hSw; obtain ⟨⟨x0, x1, x2, x3⟩, x4, x5, x6, x7⟩ := hSw; go_simp; (try with_reducible rfl))
         try simp only [Act.put, List.setIfInBounds_toArray, List.set_cons_succ, List.set_cons_zero]
         refine anyK_take2 (i := 9) (v := ?v9_20) rfl (by kernel_rfl) (by kernel_rfl) (by kernel_rfl) (by rfl) (fun _ _ _ h => h) (by rfl) hHeld ?hy9_20 (some 47) (by rfl) ?rest9_20
         case hy9_20 => (intro W hSw; obtain ⟨⟨x0, x1, x2, x3⟩, x4, x5, x6, x7⟩ := hSw; go_simp; (try with_reducible rfl))
         try simp only [Act.put, List.setIfInBounds_toArray, List.set_cons_succ, List.set_cons_zero]
         refine anyK_step (i := 10) (by kernel_rfl) rfl (fun KP hK => ?_)
         go_simp
         refine (impl_same K N K' N' F F' b b' gf1 gf2 HR1.out HR2.out (by omega) (by omega)).mono ?_
         rintro e u2 ⟨rfl, bb⟩
         have HSE := hid (show (fun W => Box4 W g (k0 * 4 + (i2 + 1) * 4) K N F (.slice p m b) ∧ Box4 W g (k0 * 4 + i2 * 4) K' N' F' (.slice p' m' b')) u2 from ⟨HSD.out.1.below bb (Nat.le_refl _), HSD.out.2.below bb (Nat.le_refl _)⟩)
         have HKE := hid (HKD.out.trans (Keeps.of_below bb))
         have HRE := hid ((bb.block g HZD.out).trans HRD.out)
         clear bb
         generalize cmpI K N F m Z K' N' F' m' Z' = v at *
         obtain ⟨B, hB⟩ : ∃ B, decide (v = 0) = B := ⟨_, rfl⟩
         rw [hB]
         have HV := hid hB
         clear hB
         go_wp2_with fail
         clear hHeld
         refine hK.out _ _ HSE.out (fun hHeld => ?_)
         clear hK KP
         try simp only [Act.put, List.setIfInBounds_toArray, List.set_cons_succ, List.set_cons_zero]
         refine anyK_take2 (i := 11) (v := ?v11_21) rfl (by kernel_rfl) (by kernel_rfl) (by kernel_rfl) (by rfl) (fun _ _ _ h => h) (by rfl) hHeld ?hy11_21 (some 49) (by rfl) ?rest11_21
         case hy11_21 => (intro W hSw; obtain ⟨⟨x0, x1, x2, x3⟩, x4, x5, x6, x7⟩ := hSw; go_simp; (try with_reducible rfl))
         try simp only [Act.put, List.setIfInBounds_toArray, List.set_cons_succ, List.set_cons_zero]
         refine anyK_done (by kernel_rfl) ?_ _
         clear hHeld HSD HR1 HR2 HKD HRD
         cases B with
         | true =>
          have hv : v = 0 := of_decide_eq_true HV.out
          have HC := hid (show cpQ d (k0 + (i2 + 1) + 1) = cpQ d (k0 + i2 + 1) by rw [show k0 + (i2 + 1) + 1 = k0 + i2 + 1 + 1 by omega, HS.out, HKp.out, decide_eq_false (by simp [hv]), if_neg (by simp), List.append_nil])
          clear hv
          go_wp2_with fail
          go_roundw
          case rel =>
           refine ⟨i, i2 + 1, X ++ encQ ⟨⟨K', N', F', Z'⟩, p', b'⟩, rfl, by go_num, by omega, by omega, hid (by rw [HC.out]; exact HLn.out), hid (by rw [List.length_append, HXl.out, encQ_len]; omega), hid ?_, HKE⟩
           rw [HC.out, show k0 + (i2 + 1) = k0 + i2 + 1 by omega, HD1.out, fQ_cons, List.append_assoc X, List.append_assoc (encQ _)]
           exact HRE.out
          case measure => simp [intOf]; omega
         | false =>
          have hv : ¬ v = 0 := of_decide_eq_false HV.out
          have HC := hid (show cpQ d (k0 + (i2 + 1) + 1) = cpQ d (k0 + i2 + 1) ++ [⟨⟨K, N, F, Z⟩, p, b⟩] by rw [show k0 + (i2 + 1) + 1 = k0 + i2 + 1 + 1 by omega, HS.out, HKp.out, decide_eq_true hv, if_pos rfl])
          clear hv
          obtain ⟨⟨x0, x1, x2, x3⟩, -⟩ := HSE.out
          have hst := fun w a m => run_store Tryz.prog w a (.float .f64 F) m rfl
          have hre := HRE.out
          rw [← List.append_assoc X] at hre
          have hY4 : 4 ≤ (X ++ encQ ⟨⟨K', N', F', Z'⟩, p', b'⟩).length := by rw [List.length_append, encQ_len]; omega
          have HLay := hid (mid_lay4 (V := [.int .i64 K, .int .i64 N, .float .f64 F, .slice p m b]) hre hla rfl hY4)
          have HTh := hid (show u2.there g (i * 4) 4 from there14 hre (by rw [List.length_append, List.length_append]; omega))
          have HK3 := hid (HKE.out.trans (Keeps.cells14 g [.int .i64 K, .int .i64 N, .float .f64 F, .slice p m b] (i * 4) u2))
          have HM := hid (show encQ ⟨⟨K, N, F, Z⟩, p, b⟩ = [.int .i64 K, .int .i64 N, .float .f64 F, .slice p m b] by unfold encQ; simp only [HZl.out])
          clear hre hY4 hla
          go_wp2_with (refine wpList_store_mid rfl 72 (.tmp 56) (.tmp 55) rfl g (i * 4) #[.int .i64 K, .int .i64 N, .float .f64 F, .slice p m b] rfl rfl ?th ?si ?on ?_)
          case th => exact HTh.out
          case si => exact size_im14
          case on => simp [Value.oneCell']
          go_wp2_with fail
          go_roundw
          case rel =>
           refine ⟨i + 1, i2 + 1, (X ++ encQ ⟨⟨K', N', F', Z'⟩, p', b'⟩).drop 4, by go_num, by go_num, by omega, by omega, hid (by rw [HC.out, List.length_append, HLn.out]; rfl), hid (by rw [List.length_drop, List.length_append, HXl.out, encQ_len]; omega), hid ?_, HK3⟩
           rw [HC.out, fQ_app, show fQ [⟨⟨K, N, F, Z⟩, p, b⟩] = encQ ⟨⟨K, N, F, Z⟩, p, b⟩ by simp [fQ], HM.out, List.append_assoc, show k0 + (i2 + 1) = k0 + i2 + 1 by omega, HD1.out, fQ_cons, HM.out]
           have := HLay.out
           rw [HM.out] at this
           rw [List.append_assoc]
           exact this
          case measure => simp [intOf]; omega
       · have hlt' : ¬ (i2 : Int) + 1 < (r : Int) := by omega
         have hnr := HNr.out
         have hin : (i : Int) ≤ (n : Int) := by omega
         have hi0 : (0 : Int) ≤ (i : Int) := by omega
         have hic : i ≤ c := by omega
         have hic' : ¬ c = i := by omega
         have hin2 : i ≤ n := by omega
         have hla : (fQ (cpQ d (k0 + i2 + 1))).length = i * 4 := by rw [fQ_len, HLn.out]
         have HCn := hid (show cpQ d (k0 + i2 + 1) = cpQ d n by rw [show k0 + i2 + 1 = n by omega])
         have hrow := HRo.out
         have hln := HLn.out
         rw [HCn.out] at hrow hla hln
         obtain ⟨R, hR⟩ : ∃ R, X ++ (fQ (d.drop (k0 + i2)) ++ rest) = R := ⟨_, rfl⟩
         rw [hR] at hrow
         have hRl : (fQ (cpQ d n) ++ R).length = c * 4 := by
          have h1 := HRL.out
          rw [List.length_append, fQ_len, HD.out] at h1
          rw [List.length_append, hla, ← hR, List.length_append, List.length_append, HXl.out, fQ_len, List.length_drop, HD.out]
          omega
         have hzl : (Builtin.zeroCells (Value.agg #[.int .i64 0, .int .i64 0, .float .f64 0, .slice none 0 0]).cells (n - i)).toList.length = (n - i) * 4 := zeros_len14 _
         have hzo := zeros_one14 (n - i)
         obtain ⟨Z, hZ⟩ : ∃ Z, (Builtin.zeroCells (Value.agg #[.int .i64 0, .int .i64 0, .float .f64 0, .slice none 0 0]).cells (n - i)).toList = Z := ⟨_, rfl⟩
         rw [hZ] at hzl hzo
         have hth : wo.there g (i * 4) Z.length := there14 hrow (by rw [hRl, hzl]; omega)
         have hcl := fun ty => run_clear14 (P := Tryz.prog) wo 66 72 ty (.agg #[.int .i64 0, .int .i64 0, .float .f64 0, .slice none 0 0]) Tryz.underlying66 zeroIm14 g (i * 4) (n - i) (c - i) (by omega) Z hZ hzo hth
         have hg2 := heapL14 g 72 Z (i * 4) wo _ (by rw [hRl, hzl]; omega) hrow
         rw [show (fQ (cpQ d n) ++ R).take (i * 4) = fQ (cpQ d n) by rw [← hla, List.take_left], List.append_assoc] at hg2
         have HOw := hid (blk_owns (lo := base) (n := i) (c := c) (s := 4) hg2 hla (by rw [List.length_append, List.length_append, List.length_drop, hRl, hla, hzl]; omega) hic HCM.out hbg)
         have HKF := hid (HKP.out.trans (Keeps.cells14 g Z (i * 4) wo))
         have HLF := hid hln
         clear hnr hrow hg2 hla hzl hzo hZ hth hRl hR hln HRo HXl HLn HKP HCn
         go_wp2_with fail
         go_ret
         exact ⟨i, rfl, HLF.out, HOw.out, HKF.out⟩

    · rw [decide_eq_false hv]
      have HC2 := hid (show cpQ d (j + 1 + 1) = d.take (j + 1 + 1) by rw [HS.out, HKp.out, decide_eq_true hv, if_pos rfl, HCp.out, HTk.out])
      clear hv
      go_wp2_with fail
      go_roundw
      case rel => exact ⟨j + 1, by omega, by go_num, HC2, HBE⟩
      case measure => simp [intOf]; omega
  · have hlt' : ¬ (j : Int) + 1 < (n : Int) := by omega
    have hjn : j + 1 = n := by omega
    have HE := hid (show cpQ d n = d by rw [← hjn, HCp.out, List.take_of_length_le (by have := HD.out; omega)])
    have HOw := hid (owns_below HB.out (Nat.le_refl _) HO.out)
    clear hjn
    go_wp2_with fail
    go_ret
    exact ⟨n, rfl, by rw [HE.out]; exact HD.out, by rw [HE.out]; exact HOw.out, Keeps.of_below HB.out⟩
end Go.Proofs.YtnbpblephmjfnaaGreat
