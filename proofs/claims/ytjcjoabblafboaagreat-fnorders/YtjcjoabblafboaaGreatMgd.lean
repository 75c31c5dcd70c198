/- Texts of this proof in one: Hi14 Ek13 Ga14 Ee13 Ef13 Eg13 Eh13 El13 Em13. -/
import Derived.Test.YtjcjoabblafboaaGreatMgc
import Derived.Test.YtjcjoabblafboaaGreatMgb
import Derived.Test.YtjcjoabblafboaaGreatMga
/- slices.CompactFunc over a row of keys of the call's own: the walk. Conditions: at most 2^20 keys. -/

namespace Go.Proofs.YtjcjoabblafboaaGreat
open Go.RowKit
set_option maxRecDepth 100000
theorem own_two {w : World} {g : Nat} {d : List Qi} {rest : List Value} {ty : TypeId} (h : w.heap[g]? = some (.cells (fQ d ++ rest).toArray ty)) {i : Nat} (hi : i < d.length) : Box4 w g (i * 4) (d.getD i qi0).e.K (d.getD i qi0).e.N (d.getD i qi0).e.F (.slice (d.getD i qi0).a (d.getD i qi0).e.Z.length (d.getD i qi0).c) := by
 have e : fQ d = fQ (d.take i) ++ (encQ (d.getD i qi0) ++ fQ (d.drop (i + 1))) := by
  rw [← fQ_cons, ← getD_cons14 hi, ← fQ_app, List.take_append_drop]
 rw [e, List.append_assoc, List.append_assoc] at h
 exact mid4 h (by rw [fQ_len, List.length_take]; omega)
theorem zeros_len14 (n : Nat) : (Builtin.zeroCells (Value.agg #[.int .i64 0, .int .i64 0, .float .f64 0, .slice none 0 0]).cells n).toList.length = n * 4 := by
 rw [Array.length_toList, size_zeroCells]; rfl
theorem zeros_one14 (n : Nat) : ∀ v ∈ (Builtin.zeroCells (Value.agg #[.int .i64 0, .int .i64 0, .float .f64 0, .slice none 0 0]).cells n).toList, v.oneCell' = true := by
 intro v hv
 rw [Array.mem_toList_iff] at hv
 unfold Builtin.zeroCells at hv
 rw [Array.mem_map] at hv
 obtain ⟨i, _, rfl⟩ := hv
 have : i % 4 < 4 := Nat.mod_lt _ (by omega)
 show Value.oneCell' (#[.int .i64 0, .int .i64 0, .float .f64 0, .slice none 0 0][i % 4]!) = true
 generalize i % 4 = j at this
 rcases j with _ | _ | _ | _ | j
 · rfl
 · rfl
 · rfl
 · rfl
 · omega
set_option maxHeartbeats 12800000 in
theorem compact_items {base g c n : Nat} (d : List Qi) (hd : d.length = n) {w : World} (own : w.ownsRow base 72 4 (.slice (some ⟨g, 0, none⟩) n c) n (fQ d)) (hg : ∀ i, i < n → GoodQ w g (d.getD i qi0)) (hn : n ≤ 1048576) :
 Calls Tryz.prog 144 #[.slice (some ⟨g, 0, none⟩) n c, .func (.func 145) #[] #[]] w fun e w' => ∃ k, e = .returned (.slice (some ⟨g, 0, none⟩) k c) ∧ (cpQ d n).length = k ∧ w'.ownsRow base 72 4 (.slice (some ⟨g, 0, none⟩) k c) k (fQ (cpQ d n)) ∧ Keeps (fun b => b = g) w w' := by
 have HO := hid own
 have HG := hid hg
 have HD := hid hd
 clear own hg hd
 by_cases h2 : n < 2
 · have h2' : (n : Int) < 2 := by omega
   have HE := hid (show cpQ d n = d by
    have := HD.out
    match d, this with
    | [], e => subst e; rfl
    | [x], e => subst e; rfl
    | _ :: _ :: _, e => simp at e; omega)
   go_enter Tryz.func144, Tryz.ntmps144
   go_wp2_with fail
   go_ret
   exact ⟨n, rfl, by rw [HE.out]; exact HD.out, by rw [HE.out]; exact HO.out, Keeps.refl _ _⟩
 have h2' : ¬ (n : Int) < 2 := by omega
 obtain ⟨rest, hrow, hrl, hcn, hcm, hbg⟩ := owns_blk HO.out
 have HRW := hid hrow
 have HRL := hid hrl
 have HCM := hid hcm
 have hgw : g < w.heap.size := (Array.getElem?_eq_some_iff.1 hrow).1
 clear hrow hrl hcm
 go_enter Tryz.func144, Tryz.ntmps144
 go_wp2_with fail
 go_loopw [5] (fun i wr => ∃ j : Nat, j + 1 ≤ n ∧ i = .int .i64 ((j : Int) + 1) ∧ Hid (cpQ d (j + 1) = d.take (j + 1)) ∧ Hid (Below w.heap.size w wr)) (fun i _ => n - (intOf i).toNat)
 case atStart => exact ⟨0, by omega, rfl, hid (by rw [take_q (by have := HD.out; omega)]; rfl), hid (Below.refl _ _)⟩
 case round =>
  obtain ⟨j, hj, rfl, HCp, HB⟩ := hrel
  by_cases hlt : j + 1 < n
  · have hlt' : (j : Int) + 1 < (n : Int) := by omega
    have hj0 : (0 : Int) ≤ (j : Int) + 1 := by omega
    have hj1 : (j : Int) < (n : Int) := by omega
    have hj2 : (0 : Int) ≤ (j : Int) := by omega
    have hw1 : IntKind.i64.wrap (j : Int) = (j : Int) := by simp [IntKind.wrap, IntKind.bits, IntKind.signed]; omega
    have hrow := (HB.out.block g hgw).trans HRW.out
    have bx := own_two hrow (i := j + 1) (by have := HD.out; omega)
    have by' := own_two hrow (i := j) (by have := HD.out; omega)
    have gx := (HG.out (j + 1) (by omega)).keep (Keeps.of_below HB.out)
    have gy := (HG.out j (by omega)).keep (Keeps.of_below HB.out)
    have lx := okM_len gx.ok
    have ly := okM_len gy.ok
    have gr1 := gx.rd
    have gr2 := gy.rd
    have gf1 := gx.fl
    have gf2 := gy.fl
    have HS := hid (cpQ_succ d (j + 1))
    have HKp := hid (show kpQ d (j + 1) = decide (cmpM (d.getD (j + 1) qi0).e (d.getD j qi0).e ≠ 0) by unfold kpQ; simp)
    have HTk := hid (take_q (d := d) (j := j + 1) (by have := HD.out; omega))
    generalize d.getD (j + 1) qi0 = qx at *
    generalize d.getD j qi0 = qy at *
    clear gx gy hrow
    obtain ⟨⟨K, N, F, Z⟩, p, b⟩ := qx
    obtain ⟨⟨K', N', F', Z'⟩, p', b'⟩ := qy
    simp only at bx by' gr1 gr2 gf1 gf2 lx ly
    obtain ⟨m, hm⟩ : ∃ m, Z.length = m := ⟨_, rfl⟩
    obtain ⟨m', hm'⟩ : ∃ m, Z'.length = m := ⟨_, rfl⟩
    have HCm := hid (show cmpM ⟨K, N, F, Z⟩ ⟨K', N', F', Z'⟩ = cmpI K N F m Z K' N' F' m' Z' by unfold cmpM; simp only [hm, hm'])
    rw [hm] at bx gr1 lx
    rw [hm'] at by' gr2 ly
    clear hm hm'
    simp only at HKp
    rw [HCm.out] at HKp
    have bD := (Below.refl wr.heap.size wr).drew
    have HSD := hid (show (fun W => Box4 W g ((j + 1) * 4) K N F (.slice p m b) ∧ Box4 W g (j * 4) K' N' F' (.slice p' m' b')) wr.drew from ⟨bx.below bD (Nat.le_refl _), by'.below bD (Nat.le_refl _)⟩)
    have HR1 := hid (gr1.below bD (Nat.le_refl _))
    have HR2 := hid (gr2.below bD (Nat.le_refl _))
    have HBD := hid (HB.out.trans (bD.mono HB.out.size))
    clear bx by' gr1 gr2 bD
    go_wp2
    refine region_K 99 (fun W => Box4 W g ((j + 1) * 4) K N F (.slice p m b) ∧ Box4 W g (j * 4) K' N' F' (.slice p' m' b')) (by kernel_rfl) ?_ (fun hHeld => ?_)
    · exact HSD.out
    generalize wr.drew = v0 at *
    refine anyK_take2 (i := 0) (v := ?v0_1) rfl (by kernel_rfl) (by kernel_rfl) (by kernel_rfl) (by rfl) (fun _ _ _ h => h) (by rfl) hHeld ?hy0_1 (some 18) (by rfl) ?rest0_1
    case hy0_1 => (intro W hSw; obtain ⟨⟨x0, x1, x2, x3⟩, x4, x5, x6, x7⟩ := hSw; go_simp; (try with_reducible rfl))
    try simp only [Act.put, List.setIfInBounds_toArray, List.set_cons_succ, List.set_cons_zero]
    refine anyK_take2 (i := 1) (v := ?v1_2) rfl (by kernel_rfl) (by kernel_rfl) (by kernel_rfl) (by rfl) (fun _ _ _ h => h) (by rfl) hHeld ?hy1_2 (some 19) (by rfl) ?rest1_2
    case hy1_2 => (intro W hSw; obtain ⟨⟨x0, x1, x2, x3⟩, x4, x5, x6, x7⟩ := hSw; go_simp; (try with_reducible rfl))
    try simp only [Act.put, List.setIfInBounds_toArray, List.set_cons_succ, List.set_cons_zero]
    refine anyK_take2 (i := 2) (v := ?v2_3) rfl (by kernel_rfl) (by kernel_rfl) (by kernel_rfl) (by rfl) (fun _ _ _ h => h) (by rfl) hHeld ?hy2_3 (some 20) (by rfl) ?rest2_3
    case hy2_3 => (intro W hSw; obtain ⟨⟨x0, x1, x2, x3⟩, x4, x5, x6, x7⟩ := hSw; go_simp; (try with_reducible rfl))
    try simp only [Act.put, List.setIfInBounds_toArray, List.set_cons_succ, List.set_cons_zero]
    refine anyK_take2 (i := 3) (v := ?v3_4) rfl (by kernel_rfl) (by kernel_rfl) (by kernel_rfl) (by rfl) (fun _ _ _ h => h) (by rfl) hHeld ?hy3_4 (some 21) (by rfl) ?rest3_4
    case hy3_4 => (intro W hSw; obtain ⟨⟨x0, x1, x2, x3⟩, x4, x5, x6, x7⟩ := hSw; go_simp; (try with_reducible rfl))
    try simp only [Act.put, List.setIfInBounds_toArray, List.set_cons_succ, List.set_cons_zero]
    refine anyK_take2 (i := 4) (v := ?v4_5) rfl (by kernel_rfl) (by kernel_rfl) (by kernel_rfl) (by rfl) (fun _ _ _ h => h) (by rfl) hHeld ?hy4_5 (some 22) (by rfl) ?rest4_5
    case hy4_5 => (intro W hSw; obtain ⟨⟨x0, x1, x2, x3⟩, x4, x5, x6, x7⟩ := hSw; go_simp; (try with_reducible rfl))
    try simp only [Act.put, List.setIfInBounds_toArray, List.set_cons_succ, List.set_cons_zero]
    refine anyK_take2 (i := 5) (v := ?v5_6) rfl (by kernel_rfl) (by kernel_rfl) (by kernel_rfl) (by rfl) (fun _ _ _ h => h) (by rfl) hHeld ?hy5_6 (some 23) (by rfl) ?rest5_6
    case hy5_6 => (intro W hSw; obtain ⟨⟨x0, x1, x2, x3⟩, x4, x5, x6, x7⟩ := hSw; go_simp; (try with_reducible rfl))
    try simp only [Act.put, List.setIfInBounds_toArray, List.set_cons_succ, List.set_cons_zero]
    refine anyK_take2 (i := 6) (v := ?v6_7) rfl (by kernel_rfl) (by kernel_rfl) (by kernel_rfl) (by rfl) (fun _ _ _ h => h) (by rfl) hHeld ?hy6_7 (some 24) (by rfl) ?rest6_7
    case hy6_7 => (intro W hSw; obtain ⟨⟨x0, x1, x2, x3⟩, x4, x5, x6, x7⟩ := hSw; go_simp; (try with_reducible rfl))
    try simp only [Act.put, List.setIfInBounds_toArray, List.set_cons_succ, List.set_cons_zero]
    refine anyK_take2 (i := 7) (v := ?v7_8) rfl (by kernel_rfl) (by kernel_rfl) (by kernel_rfl) (by rfl) (fun _ _ _ h => h) (by rfl) hHeld ?hy7_8 (some 25) (by rfl) ?rest7_8
    case hy7_8 => (intro W hSw; obtain ⟨⟨x0, x1, x2, x3⟩, x4, x5, x6, x7⟩ := hSw; go_simp; (try with_reducible rfl))
    try simp only [Act.put, List.setIfInBounds_toArray, List.set_cons_succ, List.set_cons_zero]
    refine anyK_take2 (i := 8) (v := ?v8_9) rfl (by kernel_rfl) (by kernel_rfl) (by kernel_rfl) (by rfl) (fun _ _ _ h => h) (by rfl) hHeld ?hy8_9 (some 26) (by rfl) ?rest8_9
    case hy8_9 => (intro W hSw; obtain ⟨⟨x0, x1, x2, x3⟩, x4, x5, x6, x7⟩ := hSw; go_simp; (try with_reducible rfl))
    try simp only [Act.put, List.setIfInBounds_toArray, List.set_cons_succ, List.set_cons_zero]
    refine anyK_take2 (i := 9) (v := ?v9_10) rfl (by kernel_rfl) (by kernel_rfl) (by kernel_rfl) (by rfl) (fun _ _ _ h => h) (by rfl) hHeld ?hy9_10 (some 27) (by rfl) ?rest9_10
    case hy9_10 => (intro W hSw; obtain ⟨⟨x0, x1, x2, x3⟩, x4, x5, x6, x7⟩ := hSw; go_simp; (try with_reducible rfl))
    try simp only [Act.put, List.setIfInBounds_toArray, List.set_cons_succ, List.set_cons_zero]
    refine anyK_step (i := 10) (by kernel_rfl) rfl (fun KP hK => ?_)
    go_simp
    refine (impl_same K N K' N' F F' b b' gf1 gf2 HR1.out HR2.out (by omega) (by omega)).mono ?_
    rintro e u1 ⟨rfl, bb⟩
    have HSE := hid (show (fun W => Box4 W g ((j + 1) * 4) K N F (.slice p m b) ∧ Box4 W g (j * 4) K' N' F' (.slice p' m' b')) u1 from ⟨HSD.out.1.below bb (Nat.le_refl _), HSD.out.2.below bb (Nat.le_refl _)⟩)
    have HBE := hid (HBD.out.trans (bb.mono HBD.out.size))
    clear bb
    generalize cmpI K N F m Z K' N' F' m' Z' = v at *
    go_wp2_with fail
    clear hHeld
    refine hK.out _ _ HSE.out (fun hHeld => ?_)
    clear hK KP
    try simp only [Act.put, List.setIfInBounds_toArray, List.set_cons_succ, List.set_cons_zero]
    refine anyK_done (by kernel_rfl) ?_ _
    clear hHeld
    by_cases hv : v = 0
    · rw [decide_eq_true hv]
      obtain ⟨k0, hk0⟩ : ∃ k0, j + 1 = k0 := ⟨_, rfl⟩
      have e0 : (j : Int) + 1 = (k0 : Int) := by omega
      rw [hk0] at HS HCp HKp hlt
      obtain ⟨r, hr⟩ : ∃ r, n = k0 + r := ⟨n - k0, by omega⟩
      have hr1 : 1 ≤ r := by omega
      have hk1 : 1 ≤ k0 := by omega
      have HC2 := hid (show cpQ d (k0 + 1) = d.take k0 by rw [HS.out, HKp.out, decide_eq_false (by simp [hv]), if_neg (by simp), List.append_nil, HCp.out])
      clear hv HS HKp HCp HTk HCm HR1 HR2 HSD HSE HBD lx ly gf1 gf2 hj0 hj1 hj2 hw1 hlt'
      have hkn : (k0 : Int) ≤ (n : Int) := by omega
      have hk00 : (0 : Int) ≤ (k0 : Int) := by omega
      have hkc : k0 ≤ c := by omega
      have hkc' : ¬ c = k0 := by omega
      have hkn2 : k0 ≤ n := by omega
      have HKP := hid (show Keeps (fun b => b = g) w u1 from Keeps.of_below HBE.out)
      have HRU := hid ((HBE.out.block g hgw).trans HRW.out)
      clear HBE HB
      simp only [e0]
      clear e0 hk0 hlt
      have HNr := hid hr
      have hr' : n - k0 = r := by omega
      clear hr
      go_wp2_with fail
      try simp only [hr']
      clear hr'
      go_loopw [5, 7] (fun s5 s7 wr => ∃ (i i2 : Nat) (X : List Value), s5 = .int .i64 i ∧ s7 = .int .i64 ((i2 : Int) + 1) ∧ i2 + 1 ≤ r ∧ i ≤ k0 + i2 ∧ Hid ((cpQ d (k0 + i2 + 1)).length = i) ∧ Hid (X.length = (k0 + i2 - i) * 4) ∧ Hid (wr.heap[g]? = some (.cells (fQ (cpQ d (k0 + i2 + 1)) ++ (X ++ (fQ (d.drop (k0 + i2)) ++ rest))).toArray 72)) ∧ Hid (Keeps (fun b => b = g) w wr)) (fun _ s _ => r - (intOf s).toNat)
      case atStart =>
       refine ⟨k0, 0, [], rfl, rfl, by omega, by omega, hid ?_, hid (by simp), hid ?_, HKP⟩
       · simp only [Nat.add_zero]; rw [HC2.out, List.length_take]; have := HD.out; omega
       · simp only [Nat.add_zero]; rw [HC2.out, List.nil_append, ← List.append_assoc, ← fQ_app, List.take_append_drop]
         exact HRU.out
      case round =>
       clear HKP HRU HC2
       obtain ⟨i, i2, X, rfl, rfl, hi2, hik, HLn, HXl, HRo, HKP⟩ := hrel
       obtain ⟨wo, hwo⟩ : ∃ wo, wo = wr := ⟨_, rfl⟩
       subst hwo
       have hi2b : i2 + 1 ≤ 1048576 := by have := HNr.out; omega
       have hgo : g < wo.heap.size := (Array.getElem?_eq_some_iff.1 HRo.out).1
       by_cases hlt : i2 + 1 < r
       · have hlt' : (i2 : Int) + 1 < (r : Int) := by omega
         have hj0 : (0 : Int) ≤ (i2 : Int) + 1 := by omega
         have hj1 : (i2 : Int) < (r : Int) := by omega
         have hj2 : (0 : Int) ≤ (i2 : Int) := by omega
         have hw1 : IntKind.i64.wrap (i2 : Int) = (i2 : Int) := by have := HNr.out; simp [IntKind.wrap, IntKind.bits, IntKind.signed]; omega
         have hin : (i : Int) < (n : Int) := by have := HNr.out; omega
         have hi0 : (0 : Int) ≤ (i : Int) := by omega
         have hdl : d.length = k0 + r := by rw [HD.out, HNr.out]
         have hrow := HRo.out
         rw [getD_cons14 (j := k0 + i2) (by omega), fQ_cons, getD_cons14 (j := k0 + i2 + 1) (by omega), fQ_cons, List.append_assoc (encQ _), List.append_assoc (encQ _)] at hrow
         have hla : (fQ (cpQ d (k0 + i2 + 1))).length = i * 4 := by rw [fQ_len, HLn.out]
         have hrow2 := hrow
         rw [← List.append_assoc (fQ _)] at hrow2
         have by' := mid4 hrow2 (o := k0 * 4 + i2 * 4) (by rw [List.length_append, hla, HXl.out]; omega)
         rw [← List.append_assoc (_ ++ X)] at hrow2
         have bx := mid4 hrow2 (o := k0 * 4 + (i2 + 1) * 4) (by rw [List.length_append, List.length_append, hla, HXl.out, encQ_len]; omega)
         have gx := (HG.out (k0 + i2 + 1) (by have := HNr.out; omega)).keep HKP.out
         have gy := (HG.out (k0 + i2) (by have := HNr.out; omega)).keep HKP.out
         have lx := okM_len gx.ok
         have ly := okM_len gy.ok
         have gr1 := gx.rd
         have gr2 := gy.rd
         have gf1 := gx.fl
         have gf2 := gy.fl
         have HS := hid (cpQ_succ d (k0 + i2 + 1))
         have HKp := hid (show kpQ d (k0 + i2 + 1) = decide (cmpM (d.getD (k0 + i2 + 1) qi0).e (d.getD (k0 + i2) qi0).e ≠ 0) by unfold kpQ; simp)
         have HRow := hid hrow
         have HD1 := hid (show d.drop (k0 + i2 + 1) = d.getD (k0 + i2 + 1) qi0 :: d.drop (k0 + i2 + 1 + 1) from getD_cons14 (by omega))
         generalize d.getD (k0 + i2 + 1) qi0 = qx at *
         generalize d.getD (k0 + i2) qi0 = qy at *
         clear gx gy hrow hrow2 hdl
         obtain ⟨⟨K, N, F, Z⟩, p, b⟩ := qx
         obtain ⟨⟨K', N', F', Z'⟩, p', b'⟩ := qy
         simp only at bx by' gr1 gr2 gf1 gf2 lx ly
         obtain ⟨m, hm⟩ : ∃ m, Z.length = m := ⟨_, rfl⟩
         obtain ⟨m', hm'⟩ : ∃ m, Z'.length = m := ⟨_, rfl⟩
         have HCm := hid (show cmpM ⟨K, N, F, Z⟩ ⟨K', N', F', Z'⟩ = cmpI K N F m Z K' N' F' m' Z' by unfold cmpM; simp only [hm, hm'])
         rw [hm] at bx gr1 lx
         rw [hm'] at by' gr2 ly
         have HZl := hid hm
         clear hm hm'
         simp only at HKp
         rw [HCm.out] at HKp
         have bD := (Below.refl wo.heap.size wo).drew
         have HSD := hid (show (fun W => Box4 W g (k0 * 4 + (i2 + 1) * 4) K N F (.slice p m b) ∧ Box4 W g (k0 * 4 + i2 * 4) K' N' F' (.slice p' m' b')) wo.drew from ⟨bx.below bD (Nat.le_refl _), by'.below bD (Nat.le_refl _)⟩)
         have HR1 := hid (gr1.below bD (Nat.le_refl _))
         have HR2 := hid (gr2.below bD (Nat.le_refl _))
         have HKD := hid (HKP.out.trans (Keeps.of_below bD))
         have HRD := hid ((bD.block g hgo).trans HRow.out)
         have HZD := hid (show g < wo.drew.heap.size from hgo)
         clear bx by' gr1 gr2 bD HRow
         go_wp2
         refine region_K 99 (fun W => Box4 W g (k0 * 4 + (i2 + 1) * 4) K N F (.slice p m b) ∧ Box4 W g (k0 * 4 + i2 * 4) K' N' F' (.slice p' m' b')) (by kernel_rfl) ?_ (fun hHeld => ?_)
         · exact HSD.out
         generalize wo.drew = v0 at *
         refine anyK_take2 (i := 0) (v := ?v0_11) rfl (by kernel_rfl) (by kernel_rfl) (by kernel_rfl) (by rfl) (fun _ _ _ h => h) (by rfl) hHeld ?hy0_11 (some 38) (by rfl) ?rest0_11
         case hy0_11 => (intro W hSw; obtain ⟨⟨x0, x1, x2, x3⟩, x4, x5, x6, x7⟩ := hSw; go_simp; (try with_reducible rfl))
         try simp only [Act.put, List.setIfInBounds_toArray, List.set_cons_succ, List.set_cons_zero]
         refine anyK_take2 (i := 1) (v := ?v1_12) rfl (by kernel_rfl) (by kernel_rfl) (by kernel_rfl) (by rfl) (fun _ _ _ h => h) (by rfl) hHeld ?hy1_12 (some 39) (by rfl) ?rest1_12
         case hy1_12 => (intro W hSw; obtain ⟨⟨x0, x1, x2, x3⟩, x4, x5, x6, x7⟩ := hSw; go_simp; (try with_reducible rfl))
         try simp only [Act.put, List.setIfInBounds_toArray, List.set_cons_succ, List.set_cons_zero]
         refine anyK_take2 (i := 2) (v := ?v2_13) rfl (by kernel_rfl) (by kernel_rfl) (by kernel_rfl) (by rfl) (fun _ _ _ h => h) (by rfl) hHeld ?hy2_13 (some 40) (by rfl) ?rest2_13
         case hy2_13 => (intro W hSw; obtain ⟨⟨x0, x1, x2, x3⟩, x4, x5, x6, x7⟩ := hSw; go_simp; (try with_reducible rfl))
         try simp only [Act.put, List.setIfInBounds_toArray, List.set_cons_succ, List.set_cons_zero]
         refine anyK_take2 (i := 3) (v := ?v3_14) rfl (by kernel_rfl) (by kernel_rfl) (by kernel_rfl) (by rfl) (fun _ _ _ h => h) (by rfl) hHeld ?hy3_14 (some 41) (by rfl) ?rest3_14
         case hy3_14 => (intro W hSw; obtain ⟨⟨x0, x1, x2, x3⟩, x4, x5, x6, x7⟩ := hSw; go_simp; (try with_reducible rfl))
         try simp only [Act.put, List.setIfInBounds_toArray, List.set_cons_succ, List.set_cons_zero]
         refine anyK_take2 (i := 4) (v := ?v4_15) rfl (by kernel_rfl) (by kernel_rfl) (by kernel_rfl) (by rfl) (fun _ _ _ h => h) (by rfl) hHeld ?hy4_15 (some 42) (by rfl) ?rest4_15
         case hy4_15 => (intro W hSw; obtain ⟨⟨x0, x1, x2, x3⟩, x4, x5, x6, x7⟩ := hSw; go_simp; (try with_reducible rfl))
         try simp only [Act.put, List.setIfInBounds_toArray, List.set_cons_succ, List.set_cons_zero]
         refine anyK_take2 (i := 5) (v := ?v5_16) rfl (by kernel_rfl) (by kernel_rfl) (by kernel_rfl) (by rfl) (fun _ _ _ h => h) (by rfl) hHeld ?hy5_16 (some 43) (by rfl) ?rest5_16
         case hy5_16 => (intro W hSw; obtain ⟨⟨x0, x1, x2, x3⟩, x4, x5, x6, x7⟩ := hSw; go_simp; (try with_reducible rfl))
         try simp only [Act.put, List.setIfInBounds_toArray, List.set_cons_succ, List.set_cons_zero]
         refine anyK_take2 (i := 6) (v := ?v6_17) rfl (by kernel_rfl) (by kernel_rfl) (by kernel_rfl) (by rfl) (fun _ _ _ h => h) (by rfl) hHeld ?hy6_17 (some 44) (by rfl) ?rest6_17
         case hy6_17 => (intro W hSw; obtain ⟨⟨x0, x1, x2, x3⟩, x4, x5, x6, x7⟩ := hSw; go_simp; (try with_reducible rfl))
         try simp only [Act.put, List.setIfInBounds_toArray, List.set_cons_succ, List.set_cons_zero]
         refine anyK_take2 (i := 7) (v := ?v7_18) rfl (by kernel_rfl) (by kernel_rfl) (by kernel_rfl) (by rfl) (fun _ _ _ h => h) (by rfl) hHeld ?hy7_18 (some 45) (by rfl) ?rest7_18
         case hy7_18 => (intro W hSw; obtain ⟨⟨x0, x1, x2, x3⟩, x4, x5, x6, x7⟩ := hSw; go_simp; (try with_reducible rfl))
         try simp only [Act.put, List.setIfInBounds_toArray, List.set_cons_succ, List.set_cons_zero]
         refine anyK_take2 (i := 8) (v := ?v8_19) rfl (by kernel_rfl) (by kernel_rfl) (by kernel_rfl) (by rfl) (fun _ _ _ h => h) (by rfl) hHeld ?hy8_19 (some 46) (by rfl) ?rest8_19
         case hy8_19 => (intro W hSw; obtain ⟨⟨x0, x1, x2, x3⟩, x4, x5, x6, x7⟩ := hSw; go_simp; (try with_reducible rfl))
         try simp only [Act.put, List.setIfInBounds_toArray, List.set_cons_succ, List.set_cons_zero]
         refine anyK_take2 (i := 9) (v := ?v9_20) rfl (by kernel_rfl) (by kernel_rfl) (by kernel_rfl) (by rfl) (fun _ _ _ h => h) (by rfl) hHeld ?hy9_20 (some 47) (by rfl) ?rest9_20
         case hy9_20 => (intro W hSw; obtain ⟨⟨x0, x1, x2, x3⟩, x4, x5, x6, x7⟩ := hSw; go_simp; (try with_reducible rfl))
         try simp only [Act.put, List.setIfInBounds_toArray, List.set_cons_succ, List.set_cons_zero]
         refine anyK_step (i := 10) (by kernel_rfl) rfl (fun KP hK => ?_)
         go_simp
         refine (impl_same K N K' N' F F' b b' gf1 gf2 HR1.out HR2.out (by omega) (by omega)).mono ?_
         rintro e u2 ⟨rfl, bb⟩
         have HSE := hid (show (fun W => Box4 W g (k0 * 4 + (i2 + 1) * 4) K N F (.slice p m b) ∧ Box4 W g (k0 * 4 + i2 * 4) K' N' F' (.slice p' m' b')) u2 from ⟨HSD.out.1.below bb (Nat.le_refl _), HSD.out.2.below bb (Nat.le_refl _)⟩)
         have HKE := hid (HKD.out.trans (Keeps.of_below bb))
         have HRE := hid ((bb.block g HZD.out).trans HRD.out)
         clear bb
         generalize cmpI K N F m Z K' N' F' m' Z' = v at *
         obtain ⟨B, hB⟩ : ∃ B, decide (v = 0) = B := ⟨_, rfl⟩
         rw [hB]
         have HV := hid hB
         clear hB
         go_wp2_with fail
         clear hHeld
         refine hK.out _ _ HSE.out (fun hHeld => ?_)
         clear hK KP
         try simp only [Act.put, List.setIfInBounds_toArray, List.set_cons_succ, List.set_cons_zero]
         refine anyK_take2 (i := 11) (v := ?v11_21) rfl (by kernel_rfl) (by kernel_rfl) (by kernel_rfl) (by rfl) (fun _ _ _ h => h) (by rfl) hHeld ?hy11_21 (some 49) (by rfl) ?rest11_21
         case hy11_21 => (intro W hSw; obtain ⟨⟨x0, x1, x2, x3⟩, x4, x5, x6, x7⟩ := hSw; go_simp; (try with_reducible rfl))
         try simp only [Act.put, List.setIfInBounds_toArray, List.set_cons_succ, List.set_cons_zero]
         refine anyK_done (by kernel_rfl) ?_ _
         clear hHeld HSD HR1 HR2 HKD HRD
         cases B with
         | true =>
          have hv : v = 0 := of_decide_eq_true HV.out
          have HC := hid (show cpQ d (k0 + (i2 + 1) + 1) = cpQ d (k0 + i2 + 1) by rw [show k0 + (i2 + 1) + 1 = k0 + i2 + 1 + 1 by omega, HS.out, HKp.out, decide_eq_false (by simp [hv]), if_neg (by simp), List.append_nil])
          clear hv
          go_wp2_with fail
          go_roundw
          case rel =>
           refine ⟨i, i2 + 1, X ++ encQ ⟨⟨K', N', F', Z'⟩, p', b'⟩, rfl, by go_num, by omega, by omega, hid (by rw [HC.out]; exact HLn.out), hid (by rw [List.length_append, HXl.out, encQ_len]; omega), hid ?_, HKE⟩
           rw [HC.out, show k0 + (i2 + 1) = k0 + i2 + 1 by omega, HD1.out, fQ_cons, List.append_assoc X, List.append_assoc (encQ _)]
           exact HRE.out
          case measure => simp [intOf]; omega
         | false =>
          have hv : ¬ v = 0 := of_decide_eq_false HV.out
          have HC := hid (show cpQ d (k0 + (i2 + 1) + 1) = cpQ d (k0 + i2 + 1) ++ [⟨⟨K, N, F, Z⟩, p, b⟩] by rw [show k0 + (i2 + 1) + 1 = k0 + i2 + 1 + 1 by omega, HS.out, HKp.out, decide_eq_true hv, if_pos rfl])
          clear hv
          obtain ⟨⟨x0, x1, x2, x3⟩, -⟩ := HSE.out
          have hst := fun w a m => run_store Tryz.prog w a (.float .f64 F) m rfl
          have hre := HRE.out
          rw [← List.append_assoc X] at hre
          have hY4 : 4 ≤ (X ++ encQ ⟨⟨K', N', F', Z'⟩, p', b'⟩).length := by rw [List.length_append, encQ_len]; omega
          have HLay := hid (mid_lay4 (V := [.int .i64 K, .int .i64 N, .float .f64 F, .slice p m b]) hre hla rfl hY4)
          have HTh := hid (show u2.there g (i * 4) 4 from there14 hre (by rw [List.length_append, List.length_append]; omega))
          have HK3 := hid (HKE.out.trans (Keeps.cells14 g [.int .i64 K, .int .i64 N, .float .f64 F, .slice p m b] (i * 4) u2))
          have HM := hid (show encQ ⟨⟨K, N, F, Z⟩, p, b⟩ = [.int .i64 K, .int .i64 N, .float .f64 F, .slice p m b] by unfold encQ; simp only [HZl.out])
          clear hre hY4 hla
          go_wp2_with (refine wpList_store_mid rfl 72 (.tmp 56) (.tmp 55) rfl g (i * 4) #[.int .i64 K, .int .i64 N, .float .f64 F, .slice p m b] rfl rfl ?th ?si ?on ?_)
          case th => exact HTh.out
          case si => exact size_im14
          case on => simp [Value.oneCell']
          go_wp2_with fail
          go_roundw
          case rel =>
           refine ⟨i + 1, i2 + 1, (X ++ encQ ⟨⟨K', N', F', Z'⟩, p', b'⟩).drop 4, by go_num, by go_num, by omega, by omega, hid (by rw [HC.out, List.length_append, HLn.out]; rfl), hid (by rw [List.length_drop, List.length_append, HXl.out, encQ_len]; omega), hid ?_, HK3⟩
           rw [HC.out, fQ_app, show fQ [⟨⟨K, N, F, Z⟩, p, b⟩] = encQ ⟨⟨K, N, F, Z⟩, p, b⟩ by simp [fQ], HM.out, List.append_assoc, show k0 + (i2 + 1) = k0 + i2 + 1 by omega, HD1.out, fQ_cons, HM.out]
           have := HLay.out
           rw [HM.out] at this
           rw [List.append_assoc]
           exact this
          case measure => simp [intOf]; omega
       · have hlt' : ¬ (i2 : Int) + 1 < (r : Int) := by omega
         have hnr := HNr.out
         have hin : (i : Int) ≤ (n : Int) := by omega
         have hi0 : (0 : Int) ≤ (i : Int) := by omega
         have hic : i ≤ c := by omega
         have hic' : ¬ c = i := by omega
         have hin2 : i ≤ n := by omega
         have hla : (fQ (cpQ d (k0 + i2 + 1))).length = i * 4 := by rw [fQ_len, HLn.out]
         have HCn := hid (show cpQ d (k0 + i2 + 1) = cpQ d n by rw [show k0 + i2 + 1 = n by omega])
         have hrow := HRo.out
         have hln := HLn.out
         rw [HCn.out] at hrow hla hln
         obtain ⟨R, hR⟩ : ∃ R, X ++ (fQ (d.drop (k0 + i2)) ++ rest) = R := ⟨_, rfl⟩
         rw [hR] at hrow
         have hRl : (fQ (cpQ d n) ++ R).length = c * 4 := by
          have h1 := HRL.out
          rw [List.length_append, fQ_len, HD.out] at h1
          rw [List.length_append, hla, ← hR, List.length_append, List.length_append, HXl.out, fQ_len, List.length_drop, HD.out]
          omega
         have hzl : (Builtin.zeroCells (Value.agg #[.int .i64 0, .int .i64 0, .float .f64 0, .slice none 0 0]).cells (n - i)).toList.length = (n - i) * 4 := zeros_len14 _
         have hzo := zeros_one14 (n - i)
         obtain ⟨Z, hZ⟩ : ∃ Z, (Builtin.zeroCells (Value.agg #[.int .i64 0, .int .i64 0, .float .f64 0, .slice none 0 0]).cells (n - i)).toList = Z := ⟨_, rfl⟩
         rw [hZ] at hzl hzo
         have hth : wo.there g (i * 4) Z.length := there14 hrow (by rw [hRl, hzl]; omega)
         have hcl := fun ty => run_clear14 (P := Tryz.prog) wo 66 72 ty (.agg #[.int .i64 0, .int .i64 0, .float .f64 0, .slice none 0 0]) Tryz.underlying66 zeroIm14 g (i * 4) (n - i) (c - i) (by omega) Z hZ hzo hth
         have hg2 := heapL14 g 72 Z (i * 4) wo _ (by rw [hRl, hzl]; omega) hrow
         rw [show (fQ (cpQ d n) ++ R).take (i * 4) = fQ (cpQ d n) by rw [← hla, List.take_left], List.append_assoc] at hg2
         have HOw := hid (blk_owns (lo := base) (n := i) (c := c) (s := 4) hg2 hla (by rw [List.length_append, List.length_append, List.length_drop, hRl, hla, hzl]; omega) hic HCM.out hbg)
         have HKF := hid (HKP.out.trans (Keeps.cells14 g Z (i * 4) wo))
         have HLF := hid hln
         clear hnr hrow hg2 hla hzl hzo hZ hth hRl hR hln HRo HXl HLn HKP HCn
         go_wp2_with fail
         go_ret
         exact ⟨i, rfl, HLF.out, HOw.out, HKF.out⟩

    · rw [decide_eq_false hv]
      have HC2 := hid (show cpQ d (j + 1 + 1) = d.take (j + 1 + 1) by rw [HS.out, HKp.out, decide_eq_true hv, if_pos rfl, HCp.out, HTk.out])
      clear hv
      go_wp2_with fail
      go_roundw
      case rel => exact ⟨j + 1, by omega, by go_num, HC2, HBE⟩
      case measure => simp [intOf]; omega
  · have hlt' : ¬ (j : Int) + 1 < (n : Int) := by omega
    have hjn : j + 1 = n := by omega
    have HE := hid (show cpQ d n = d by rw [← hjn, HCp.out, List.take_of_length_le (by have := HD.out; omega)])
    have HOw := hid (owns_below HB.out (Nat.le_refl _) HO.out)
    clear hjn
    go_wp2_with fail
    go_ret
    exact ⟨n, rfl, by rw [HE.out]; exact HD.out, by rw [HE.out]; exact HOw.out, Keeps.of_below HB.out⟩
end Go.Proofs.YtjcjoabblafboaaGreat
/- The contract of the specification's TrackReads. Conditions: texts of at most 2^21 bytes, at most 2^21 reads. -/


namespace Go.Proofs.YtjcjoabblafboaaGreat
open Go.RowKit
set_option maxRecDepth 100000
theorem any_none {rs : List (Im × Im)} {x : Im} (h : ∀ i, i < rs.length → inM (rs.getD i sp0) x = false) : rs.any (fun p => inM p x) = false := by
 rw [List.any_eq_false]
 intro p hp
 obtain ⟨i, hi, rfl⟩ := List.getElem_of_mem hp
 have := h i hi
 rw [show rs.getD i sp0 = rs[i] by simp [List.getD, hi]] at this
 rw [this]; simp
theorem any_one {rs : List (Im × Im)} {x : Im} {i : Nat} (hi : i < rs.length) (h : inM (rs.getD i sp0) x = true) : rs.any (fun p => inM p x) = true := by
 rw [List.any_eq_true]
 refine ⟨rs[i], List.getElem_mem hi, ?_⟩
 rw [show rs.getD i sp0 = rs[i] by simp [List.getD, hi]] at h
 exact h
end Go.Proofs.YtjcjoabblafboaaGreat
/- Slices of deeds, read and owned: a deed is told as a track whose marks are not looked at. No conditions. -/

namespace Go.Proofs.YtjcjoabblafboaaGreat
open Go.RowKit
set_option maxRecDepth 100000
def cellsV1 (t : Tk) (m : Mt) : List Value := [.int .i64 t.xid, .int .i64 t.begun, .int .i64 t.ended, m.y, m.z]
def cellsV : List Tk → List Mt → List Value
 | t :: ts, m :: ms => cellsV1 t m ++ cellsV ts ms
 | _, _ => []
theorem cellsV_nil (ms : List Mt) : cellsV [] ms = [] := by unfold cellsV; rfl
theorem cellsV_cons (t : Tk) (ts : List Tk) (m : Mt) (ms : List Mt) : cellsV (t :: ts) (m :: ms) = cellsV1 t m ++ cellsV ts ms := by rw [cellsV]
theorem cellsV_app : ∀ (ts us : List Tk) (ms qs : List Mt), ms.length = ts.length → cellsV (ts ++ us) (ms ++ qs) = cellsV ts ms ++ cellsV us qs
 | [], us, [], qs, _ => rfl
 | t :: ts, us, m :: ms, qs, h => by
  rw [List.cons_append, List.cons_append, cellsV_cons, cellsV_app ts us ms qs (by simpa using h), cellsV_cons, List.append_assoc]
theorem cellsV_at : ∀ (ts : List Tk) (ms : List Mt) (i j : Nat), ms.length = ts.length → i < ts.length → j < 5 → (cellsV ts ms)[i * 5 + j]? = (cellsV1 (ts.getD i tk0) (ms.getD i mt0))[j]?
 | t :: ts, m :: ms, 0, j, _, _, hj => by
  rw [cellsV_cons, Nat.zero_mul, Nat.zero_add, List.getElem?_append_left (by simp [cellsV1]; omega)]
  rfl
 | t :: ts, m :: ms, i + 1, j, h, hi, hj => by
  have ih := cellsV_at ts ms i j (by simpa using h) (by simpa using hi) hj
  rw [cellsV_cons, List.getElem?_append_right (by simp [cellsV1]; omega), List.getD_cons_succ, List.getD_cons_succ, ← ih]
  congr 1
  simp [cellsV1]; omega
structure ReadsV (w : World) (ad : Option Addr) (ts : List Tk) : Prop where
 cells : ts.length = 0 ∨ ∃ b off, ad = some ⟨b, off, none⟩ ∧ ∀ i, i < ts.length → ∃ a c a' c', (w.cell? ⟨b, off + i * 5, none⟩ = some (.int .i64 (ts.getD i tk0).xid) ∧ w.cell? ⟨b, off + i * 5 + 1, none⟩ = some (.int .i64 (ts.getD i tk0).begun) ∧ w.cell? ⟨b, off + i * 5 + 2, none⟩ = some (.int .i64 (ts.getD i tk0).ended) ∧ w.cell? ⟨b, off + i * 5 + 3, none⟩ = some (.slice a (ts.getD i tk0).rs.length c) ∧ w.cell? ⟨b, off + i * 5 + 4, none⟩ = some (.slice a' (ts.getD i tk0).ws.length c')) ∧ ReadsM w a (fl2 (ts.getD i tk0).rs) ∧ (ts.getD i tk0).rs.length ≤ maxLen ∧ ReadsM w a' (ts.getD i tk0).ws ∧ (ts.getD i tk0).ws.length ≤ maxLen
structure Box5 (w : World) (b o : Nat) (t : Tk) (x y : Value) : Prop where
 c0 : w.cell? ⟨b, o, none⟩ = some (.int .i64 t.xid)
 c1 : w.cell? ⟨b, o + 1, none⟩ = some (.int .i64 t.begun)
 c2 : w.cell? ⟨b, o + 2, none⟩ = some (.int .i64 t.ended)
 c3 : w.cell? ⟨b, o + 3, none⟩ = some x
 c4 : w.cell? ⟨b, o + 4, none⟩ = some y
theorem Box5.lt {w : World} {b o : Nat} {t : Tk} {x y : Value} (q : Box5 w b o t x y) : b < w.heap.size := World.block_lt_of_cell? w _ q.c0
theorem Box5.agree {w w' : World} {b o : Nat} {t : Tk} {x y : Value} (q : Box5 w b o t x y) (e : w'.heap[b]? = w.heap[b]?) : Box5 w' b o t x y :=
 ⟨(World.cell?_of_block (w := w) (a := ⟨b, o, none⟩) e).trans q.c0, (World.cell?_of_block (w := w) (a := ⟨b, o + 1, none⟩) e).trans q.c1, (World.cell?_of_block (w := w) (a := ⟨b, o + 2, none⟩) e).trans q.c2, (World.cell?_of_block (w := w) (a := ⟨b, o + 3, none⟩) e).trans q.c3, (World.cell?_of_block (w := w) (a := ⟨b, o + 4, none⟩) e).trans q.c4⟩
theorem Box5.below {w w' : World} {b o : Nat} {t : Tk} {x y : Value} (q : Box5 w b o t x y) {B : Nat} (hb : Below B w w') (hB : w.heap.size ≤ B) : Box5 w' b o t x y := q.agree (hb.block b (Nat.lt_of_lt_of_le q.lt hB))
theorem ReadsV.at {w : World} {ad : Option Addr} {ts : List Tk} (h : ReadsV w ad ts) {k : Nat} (hk : k < ts.length) : ∃ b off a c a' c', ad = some ⟨b, off, none⟩ ∧ Box5 w b (off + k * 5) (ts.getD k tk0) (.slice a (ts.getD k tk0).rs.length c) (.slice a' (ts.getD k tk0).ws.length c') ∧ ReadsM w a (fl2 (ts.getD k tk0).rs) ∧ (ts.getD k tk0).rs.length ≤ maxLen ∧ ReadsM w a' (ts.getD k tk0).ws ∧ (ts.getD k tk0).ws.length ≤ maxLen := by
 rcases h.cells with h0 | ⟨b, off, rfl, hc⟩
 · omega
 · obtain ⟨a, c, a', c', ⟨h0, h1, h2, h3, h4⟩, r1, m1, r2, m2⟩ := hc k hk
   exact ⟨b, off, a, c, a', c', rfl, ⟨h0, h1, h2, h3, h4⟩, r1, m1, r2, m2⟩
theorem ReadsV.below {w w' : World} {ad : Option Addr} {ts : List Tk} (h : ReadsV w ad ts) {B : Nat} (hb : Below B w w') (hB : w.heap.size ≤ B) : ReadsV w' ad ts := by
 refine ⟨?_⟩
 rcases h.cells with h0 | ⟨b, off, rfl, hc⟩
 · exact .inl h0
 · refine .inr ⟨b, off, rfl, fun i hi => ?_⟩
   obtain ⟨a, c, a', c', ⟨h0, h1, h2, h3, h4⟩, r1, m1, r2, m2⟩ := hc i hi
   have q := Box5.below (t := ts.getD i tk0) ⟨h0, h1, h2, h3, h4⟩ hb hB
   exact ⟨a, c, a', c', ⟨q.c0, q.c1, q.c2, q.c3, q.c4⟩, r1.below hb hB, m1, r2.below hb hB, m2⟩
structure OwnV (w : World) (lo hi : Nat) (v : Value) (ts : List Tk) : Prop where
 own : ∃ ms : List Mt, ms.length = ts.length ∧ w.ownsRow lo 68 5 v ts.length (cellsV ts ms) ∧ (∀ i, i < ts.length → OwnT1 w lo hi (ms.getD i mt0) (ts.getD i tk0)) ∧ ∀ i j, i < j → j < ts.length → ∀ b, blkT (ms.getD i mt0) b → ¬ blkT (ms.getD j mt0) b
 top : ∀ g, v.ownBlock = some g → g < hi
section
variable {w w' : World} {lo hi : Nat} {v : Value} {ts : List Tk}
theorem OwnV.slice (h : OwnV w lo hi v ts) : ∃ a c, v = .slice a ts.length c := by
 obtain ⟨ms, hm, o, _⟩ := h.own
 exact own_sl o
theorem OwnV.rd {a : Option Addr} {n c : Nat} (h : OwnV w lo hi (.slice a n c) ts) : ReadsV w a ts := by
 obtain ⟨ms, hm, o, h1, _⟩ := h.own
 rcases o.2 with ⟨e, h0⟩ | ⟨g, cap, cur, e, _⟩
 · cases e; exact ⟨.inl h0⟩
 · cases e
   refine ⟨.inr ⟨g, 0, rfl, fun i hi => ?_⟩⟩
   have hc := fun j (hj : j < 5) => (o.cellAt (i * 5 + j) (by omega)).trans (cellsV_at ts ms i j hm hi hj)
   have q := h1 i hi
   obtain ⟨a1, c1, e1⟩ := q.rd.slice
   obtain ⟨a2, c2, e2⟩ := q.wr.slice
   have q1 := q.rd
   have q2 := q.wr
   rw [e1] at q1
   rw [e2] at q2
   rw [Nat.zero_add]
   refine ⟨a1, c1, a2, c2, ⟨hc 0 (by omega), hc 1 (by omega), hc 2 (by omega), ?_, ?_⟩, q1.rd, q1.max, q2.rd, q2.max⟩
   · have := hc 3 (by omega); simp only [cellsV1, e1] at this; exact this
   · have := hc 4 (by omega); simp only [cellsV1, e2] at this; exact this
end
end Go.Proofs.YtjcjoabblafboaaGreat
/- The contracts of the laws' toTrack, szTrack, eqTrack. Conditions: tracks of at most 2^21 bytes, reads and writes together. -/

namespace Go.Proofs.YtjcjoabblafboaaGreat
open Go.RowKit
set_option maxRecDepth 100000
end Go.Proofs.YtjcjoabblafboaaGreat
/- The contracts of the laws' toTrackS, szTrackS, eqTrackS. Conditions: tracks of at most 2^21 bytes together. -/

namespace Go.Proofs.YtjcjoabblafboaaGreat
open Go.RowKit
set_option maxRecDepth 100000
structure BandsT (w : World) (lo hi : Nat) (ms : List Mt) (ts : List Tk) : Prop where
 len : ms.length = ts.length
 own : ∀ i, i < ts.length → OwnT1 w lo hi (ms.getD i mt0) (ts.getD i tk0)
 apart : ∀ i j, i < j → j < ts.length → ∀ b, blkT (ms.getD i mt0) b → ¬ blkT (ms.getD j mt0) b
section
variable {w w' : World} {lo hi : Nat} {ms : List Mt} {ts : List Tk}
end
end Go.Proofs.YtjcjoabblafboaaGreat
/- The contracts of the laws' markItemS, heldItemS, markSpanS, heldSpanS, markSpan, heldSpan. Conditions: items of at most 2^21 bytes together. -/


namespace Go.Proofs.YtjcjoabblafboaaGreat
open Go.RowKit
set_option maxRecDepth 100000
section
variable {t : TypeId} {s : Nat} {w w' : World} {lo hi g c : Nat} {n : Nat} {es : List Im} {xs : List Value} {i : Nat}
theorem OwnX.box {v : Value} (h : OwnX t s w lo hi v n es xs) (hi' : i < es.length) : ∃ g c a1 c1, v = .slice (some ⟨g, 0, none⟩) n c ∧ xs.getD i nilS = .slice a1 (es.getD i im0).Z.length c1 ∧ Box4 w g (i * 4) (es.getD i im0).K (es.getD i im0).N (es.getD i im0).F (.slice a1 (es.getD i im0).Z.length c1) ∧ w.ownsRow lo 5 1 (.slice a1 (es.getD i im0).Z.length c1) (es.getD i im0).Z.length (bys (es.getD i im0).Z) ∧ ∀ q, w.frozen? ⟨g, q, none⟩ = false := by
 have hl := h.len
 have hxl : xs.length = es.length := by rw [h.txt.len, textsI_len]
 have o := h.row
 have hr := h.txt.own i
 rw [textsI_at] at hr
 obtain ⟨a1, c1, e1⟩ := own_sl hr
 rcases o.2 with ⟨_, h0⟩ | ⟨g, cap, cur, e, _⟩
 · subst h0; omega
 · subst e
   have hc := fun j (hj : j < 4) => (o.cellAt (i * 4 + j) (by omega)).trans (cellsI_at es xs i j hxl hi' hj)
   refine ⟨g, cap, a1, c1, rfl, e1, ⟨hc 0 (by omega), hc 1 (by omega), hc 2 (by omega), ?_⟩, by rw [← e1]; exact hr, fun q => o.frozenAt q⟩
   have := hc 3 (by omega); simp only [cellsI1, e1] at this; exact this
end
end Go.Proofs.YtjcjoabblafboaaGreat
/- The contracts of the laws' markSpan, heldSpan, markTrackS, heldTrackS. Conditions: tracks of at most 2^21 bytes together. -/

namespace Go.Proofs.YtjcjoabblafboaaGreat
open Go.RowKit
set_option maxRecDepth 100000
end Go.Proofs.YtjcjoabblafboaaGreat
/- Tracks that are right, plain, and the contract of the specification's TracksOk. Conditions: texts of at most 2^21 bytes. -/

namespace Go.Proofs.YtjcjoabblafboaaGreat
open Go.RowKit
set_option maxRecDepth 100000
def trackB (t : Tk) : Bool := decide (1 ≤ t.xid ∧ t.xid ≤ 400) && (decide (1 ≤ t.begun) && (decide (t.ended = 0 ∨ t.begun < t.ended) && (decide (t.rs.length ≤ 6) && (decide (t.all = false ∨ t.rs.length = 0) && (decide (t.ws.length ≤ 200) && (t.rs.all spB && t.ws.all okM))))))
def okTs (ts : List Tk) : Prop := ts.length ≤ 64 ∧ ∀ i, i < ts.length → trackB (ts.getD i tk0) = true ∧ ∀ k, k < i → (ts.getD k tk0).xid ≠ (ts.getD i tk0).xid
open Classical in
noncomputable def tracksB (ts : List Tk) : Bool := decide (okTs ts)
theorem spec_in13 (n lo hi : Int) (w : World) : Calls Tryz.prog 50 #[.int .i64 n, .int .i64 lo, .int .i64 hi] w fun e w' => e = .returned (.bool (decide (lo ≤ n ∧ n ≤ hi))) ∧ w' = w := by
 by_cases h1 : lo ≤ n
 · by_cases h2 : n ≤ hi
   · rw [decide_eq_true ⟨h1, h2⟩]
     go_enter Tryz.func50, Tryz.ntmps50
     go_wp2
     go_ret
     exact ⟨rfl, rfl⟩
   · rw [decide_eq_false (fun q => h2 q.2)]
     go_enter Tryz.func50, Tryz.ntmps50
     go_wp2
     go_ret
     exact ⟨rfl, rfl⟩
 · rw [decide_eq_false (fun q => h1 q.1)]
   go_enter Tryz.func50, Tryz.ntmps50
   go_wp2
   go_ret
   exact ⟨rfl, rfl⟩
theorem all_sp {rs : List (Im × Im)} (h : ∀ i, i < rs.length → spB (rs.getD i sp0) = true) : rs.all spB = true := by
 rw [List.all_eq_true]
 intro p hp
 obtain ⟨i, hi, rfl⟩ := List.getElem_of_mem hp
 have := h i hi
 rwa [show rs.getD i sp0 = rs[i] by simp [List.getD, hi]] at this
theorem all_sp_no {rs : List (Im × Im)} {i : Nat} (hi : i < rs.length) (h : spB (rs.getD i sp0) = false) : rs.all spB = false := by
 rw [List.all_eq_false]
 refine ⟨rs[i], List.getElem_mem hi, ?_⟩
 rw [show rs.getD i sp0 = rs[i] by simp [List.getD, hi]] at h
 rw [h]; simp
theorem all_im {ws : List Im} (h : ∀ i, i < ws.length → okM (ws.getD i im0) = true) : ws.all okM = true := by
 rw [List.all_eq_true]
 intro p hp
 obtain ⟨i, hi, rfl⟩ := List.getElem_of_mem hp
 have := h i hi
 rwa [show ws.getD i im0 = ws[i] by simp [List.getD, hi]] at this
theorem all_im_no {ws : List Im} {i : Nat} (hi : i < ws.length) (h : okM (ws.getD i im0) = false) : ws.all okM = false := by
 rw [List.all_eq_false]
 refine ⟨ws[i], List.getElem_mem hi, ?_⟩
 rw [show ws.getD i im0 = ws[i] by simp [List.getD, hi]] at h
 rw [h]; simp
def smT (ts : List Tk) : Prop := ∀ i, (∀ j, ((fl2 (ts.getD i tk0).rs).getD j im0).Z.length ≤ 2097152) ∧ (∀ j, ((ts.getD i tk0).ws.getD j im0).Z.length ≤ 2097152)
end Go.Proofs.YtjcjoabblafboaaGreat
/- Boxes of spans and tracks, and small facts for the walks of chapter 13's laws. No statement of its own; no conditions. -/



namespace Go.Proofs.YtjcjoabblafboaaGreat
open Go.RowKit
set_option maxRecDepth 100000
structure BoxS (w : World) (g : Nat) (K N : Int) (f : Nat) (x : Value) (K' N' : Int) (f' : Nat) (x' : Value) : Prop where
 c0 : w.cell? ⟨g, 0, none⟩ = some (.int .i64 K)
 c1 : w.cell? ⟨g, 1, none⟩ = some (.int .i64 N)
 c2 : w.cell? ⟨g, 2, none⟩ = some (.float .f64 f)
 c3 : w.cell? ⟨g, 3, none⟩ = some x
 c4 : w.cell? ⟨g, 4, none⟩ = some (.int .i64 K')
 c5 : w.cell? ⟨g, 5, none⟩ = some (.int .i64 N')
 c6 : w.cell? ⟨g, 6, none⟩ = some (.float .f64 f')
 c7 : w.cell? ⟨g, 7, none⟩ = some x'
theorem BoxS.row {w : World} {g : Nat} {K N : Int} {f : Nat} {x : Value} {K' N' : Int} {f' : Nat} {x' : Value} {t : TypeId} (h : w.heap[g]? = some (.cells #[.int .i64 K, .int .i64 N, .float .f64 f, x, .int .i64 K', .int .i64 N', .float .f64 f', x'] t)) : BoxS w g K N f x K' N' f' x' := by
 refine ⟨?_, ?_, ?_, ?_, ?_, ?_, ?_, ?_⟩ <;> (rw [cell_of_row _ _ _ _ _ _ h]; rfl)
structure BoxK (w : World) (g : Nat) (xi be en : Int) (al : Bool) (x y : Value) (inn ou : Bool) : Prop where
 c0 : w.cell? ⟨g, 0, none⟩ = some (.int .i64 xi)
 c1 : w.cell? ⟨g, 1, none⟩ = some (.int .i64 be)
 c2 : w.cell? ⟨g, 2, none⟩ = some (.int .i64 en)
 c3 : w.cell? ⟨g, 3, none⟩ = some (.bool al)
 c4 : w.cell? ⟨g, 4, none⟩ = some x
 c5 : w.cell? ⟨g, 5, none⟩ = some y
 c6 : w.cell? ⟨g, 6, none⟩ = some (.bool inn)
 c7 : w.cell? ⟨g, 7, none⟩ = some (.bool ou)
theorem BoxK.row {w : World} {g : Nat} {xi be en : Int} {al : Bool} {x y : Value} {inn ou : Bool} {t : TypeId} (h : w.heap[g]? = some (.cells #[.int .i64 xi, .int .i64 be, .int .i64 en, .bool al, x, y, .bool inn, .bool ou] t)) : BoxK w g xi be en al x y inn ou := by
 refine ⟨?_, ?_, ?_, ?_, ?_, ?_, ?_, ?_⟩ <;> (rw [cell_of_row _ _ _ _ _ _ h]; rfl)
structure BoxJ (w : World) (g : Nat) (K N : Int) (f : Nat) (x : Value) : Prop where
 c0 : w.cell? ⟨g, 0, none⟩ = some (.int .i64 K)
 c1 : w.cell? ⟨g, 1, none⟩ = some (.int .i64 N)
 c2 : w.cell? ⟨g, 2, none⟩ = some (.float .f64 f)
 c3 : w.cell? ⟨g, 3, none⟩ = some x
theorem BoxJ.row {w : World} {g : Nat} {K N : Int} {f : Nat} {x : Value} {t : TypeId} (h : w.heap[g]? = some (.cells #[.int .i64 K, .int .i64 N, .float .f64 f, x] t)) : BoxJ w g K N f x := by
 refine ⟨?_, ?_, ?_, ?_⟩ <;> (rw [cell_of_row _ _ _ _ _ _ h]; rfl)
end Go.Proofs.YtjcjoabblafboaaGreat
