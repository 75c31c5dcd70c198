/- The specification's TreeFind. Conditions: texts of at most 2^21 bytes. -/
import Derived.Test.YtnjofaiekofamaaMf11
import Derived.Test.YtnjofaiekofamaaMb11
namespace Go.Proofs.Ytnjofaiekofamaa
open Go.RowKit
set_option maxRecDepth 100000

set_option maxHeartbeats 6400000 in
theorem spec_TreeFind {ad : Option Addr} {N : Nat} (cap : Nat) (root : Int) {ns : List Nd} {w : World} (hR : ReadsD w ad ns) (hns : ns.length = N) (hm : ∀ i j, ((ns.getD i nd0).es.getD j en0).Z.length ≤ 2097152) (p : Im) {aP : Option Addr} (cP : Nat) (rP : Reads w aP p.Z.length p.Z) (fP : p.F < 18446744073709551616) (mP : p.Z.length ≤ 2097152) :
    Calls Try.prog 39 #[.agg #[.slice ad N cap, .int .i64 root], .agg #[.int .i64 p.K, .int .i64 p.N, .float .f64 p.F, .slice aP p.Z.length cP]] w fun e w' => ∃ v, e = .returned v ∧ OwnK w' w.heap.size w'.heap.size v (findS ns root p) ∧ Below w.heap.size w w' := by
  obtain ⟨i0, hi, hz0, hz1, hz2⟩ := info_parts Try.infoI11
  have bW := two w (.cells #[.slice ad N cap, .int .i64 root] 26) (.cells #[.int .i64 p.K, .int .i64 p.N, .float .f64 p.F, .slice aP p.Z.length cP] 32)
  obtain ⟨R0, R1, z⟩ := two_rows11 w (.cells #[.slice ad N cap, .int .i64 root] 26) (.cells #[.int .i64 p.K, .int .i64 p.N, .float .f64 p.F, .slice aP p.Z.length cP] 32)
  have HR0 := hid R0
  have HR1 := hid R1
  have HB := hid bW
  have HVV := hid bW.size
  have HRD := hid (hR.below bW (Nat.le_refl _))
  have HRP := hid (rP.below bW (Nat.le_refl _))
  have HZ := hid z
  have HM := hid hm
  have HNs := hid hns
  have hsP := fun w a m => run_store Try.prog w a (.float .f64 p.F) m rfl
  clear z R0 R1 bW hR rP hm hns
  go_enter Try.func39, Try.ntmps39
  go_upto_region 1 with fail
  generalize ((w.alloc (.cells #[.slice ad N cap, .int .i64 root] 26)).alloc (.cells #[.int .i64 p.K, .int .i64 p.N, .float .f64 p.F, .slice aP p.Z.length cP] 32)) = V at *
  obtain ⟨b0, hb0⟩ : ∃ b0, w.heap.size = b0 := ⟨_, rfl⟩
  obtain ⟨b1, hb1⟩ : ∃ b1, w.heap.size + 1 = b1 := ⟨_, rfl⟩
  rw [hb1] at HR1
  rw [hb0] at HR0
  have HP0 := hid (show b0 < V.heap.size ∧ b1 < V.heap.size by have := HZ.out; omega)
  try simp only [hb1]
  try simp only [hb0]
  clear hb0 hb1 HZ hsP
  have k0 : V.cell? ⟨b0, 0, none⟩ = some (.slice ad N cap) := by rw [cell_of_row _ _ _ _ _ _ HR0.out]; rfl
  have k1 : V.cell? ⟨b0, 1, none⟩ = some (.int .i64 root) := by rw [cell_of_row _ _ _ _ _ _ HR0.out]; rfl
  have p0 := cell_of_row _ _ 0 _ _ _ HR1.out
  have p1 := cell_of_row _ _ 1 _ _ _ HR1.out
  have p2 := cell_of_row _ _ 2 _ _ _ HR1.out
  have p3 := cell_of_row _ _ 3 _ _ _ HR1.out
  go_wp2_with fail
  refine (spec_KeyOk p.K p.N p.F aP p.Z.length cP fP mP _).mono ?_
  rintro e W9 ⟨rfl, b⟩
  have HFd := hid (show findS ns root p = if okK p.K p.N p.F p.Z.length = true then ((allS ns root).filter (keyIs p)).map (·.id) else [] from rfl)
  clear k0 k1 p0 p1 p2 p3
  replace HB := hid (HB.out.trans (b.mono HB.out.size))
  replace HR0 := hid ((b.block b0 HP0.out.1).trans HR0.out)
  replace HR1 := hid ((b.block b1 HP0.out.2).trans HR1.out)
  replace HRD := hid (HRD.out.below b (Nat.le_refl _))
  replace HRP := hid (HRP.out.below b (Nat.le_refl _))
  have HP1 := hid (show b0 < W9.heap.size ∧ b1 < W9.heap.size by have := HP0.out; have := b.size; omega)
  have HV9 := hid (show w.heap.size ≤ W9.heap.size from HB.out.size)
  clear b HP0
  cases hok : okK p.K p.N p.F p.Z.length with
  | false =>
    rw [hok, if_neg (by simp)] at HFd
    clear hok
    go_wp2_with fail
    go_ret
    exact ⟨_, rfl, by rw [HFd.out]; exact OwnK.nil _ _ _, HB.out⟩
  | true =>
    rw [hok, if_pos rfl] at HFd
    have k0 : W9.cell? ⟨b0, 0, none⟩ = some (.slice ad N cap) := by rw [cell_of_row _ _ _ _ _ _ HR0.out]; rfl
    have k1 : W9.cell? ⟨b0, 1, none⟩ = some (.int .i64 root) := by rw [cell_of_row _ _ _ _ _ _ HR0.out]; rfl
    clear hok
    go_wp2_with fail
    clear k0 k1
    refine (spec_TreeAll cap root HRD.out HNs.out HM.out).mono ?_
    rintro e W ⟨v, rfl, ow, b⟩
    replace HB := hid (HB.out.trans (b.mono HB.out.size))
    replace HR1 := hid ((b.block b1 HP1.out.2).trans HR1.out)
    replace HRP := hid (HRP.out.below b (Nat.le_refl _))
    have HP2 := hid (show b1 < W.heap.size by have := HP1.out; have := b.size; omega)
    have HVW := hid (show w.heap.size ≤ W.heap.size from HB.out.size)
    have HSm := hid (allS_small ns root)
    have HOk := hid (allS_ok ns root)
    clear b HRD HR0 HP1
    generalize allS ns root = rs at *
    obtain ⟨a1', c1', e1⟩ := ow.slice
    subst e1
    have HRR := hid ow.rd
    obtain ⟨m, hmm⟩ : ∃ m, rs.length = m := ⟨_, rfl⟩
    rw [hmm]
    have hm12 : m ≤ 1200 := by have := HSm.out.1; omega
    have HMm := hid hmm
    clear ow hmm HSm
    go_wp2_with fail
    go_loopw [5, 7] (fun sl i wr => ∃ (j k : Nat), j ≤ m ∧ k ≤ j ∧ i = .int .i64 j ∧ Hid ((((rs.take j).filter (keyIs p)).map (·.id)).length = k) ∧ Hid (wr.ownsRow W.heap.size 3 1 sl k (ins (((rs.take j).filter (keyIs p)).map (·.id)))) ∧ Hid (Below W.heap.size W wr)) (fun _ i _ => m - (intOf i).toNat)
    case atStart => exact ⟨0, 0, Nat.zero_le _, Nat.le_refl _, rfl, hid (by simp), hid (by simpa [ins] using World.ownsRow_nil W W.heap.size 3 1), hid (Below.refl _ _)⟩
    case round =>
      obtain ⟨j, k, hj, hkj, rfl, HK, HO, HS⟩ := hrel
      obtain ⟨a2, c2, e2⟩ := own_sl HO.out
      subst e2
      by_cases hlt : j < m
      · have hlt' : (j : Int) < (m : Int) := by omega
        have hj0 : (0 : Int) ≤ (j : Int) := by omega
        obtain ⟨b, off, a1, c1, rfl, bx0, r0, _, _, hf⟩ := HRR.out.at (k := j) (by rw [HMm.out]; exact hlt)
        have HStep := hid (pick_stepE (keyIs p) rs j (by rw [HMm.out]; exact hlt))
        have hsm := show (rs.getD j en0).Z.length ≤ 2097152 from by
          rcases getD_mem_or rs j en0 with e | e
          · rw [e]; simp [en0]
          · have := entOk_small (HOk.out _ e); omega
        generalize rs.getD j en0 = e at *
        have BX0 := hid bx0
        have HR3 := hid r0
        have HKc := hid (show ∀ W', Below W.heap.size W W' → Box5 W' b (off + j * 5) e.K e.N e.F (.slice a1 e.Z.length c1) e.id ∧ Box W' b1 p.K p.N p.F aP p.Z.length cP from fun W' bb => by
          have r1 := (bb.block b1 HP2.out).trans HR1.out
          exact ⟨BX0.out.below bb (Nat.le_refl _), ⟨by rw [cell_of_row _ _ _ _ _ _ r1]; rfl, by rw [cell_of_row _ _ _ _ _ _ r1]; rfl, by rw [cell_of_row _ _ _ _ _ _ r1]; rfl, by rw [cell_of_row _ _ _ _ _ _ r1]; rfl⟩⟩)
        have HKI := hid (show keyIs p e = (cmpI e.K e.N e.F e.Z.length e.Z p.K p.N p.F p.Z.length p.Z == 0) from rfl)
        clear bx0 r0
        go_wp2_with fail
        have HKp := hid (show ∀ W', Below wr.heap.size wr W' → Box5 W' b (off + j * 5) e.K e.N e.F (.slice a1 e.Z.length c1) e.id ∧ Box W' b1 p.K p.N p.F aP p.Z.length cP from fun W' bb => HKc.out W' (HS.out.trans (bb.mono HS.out.size)))
        have BC := hid ((Still.drew wr).below wr.heap.size)
        refine region_K 99 (fun W' => Box5 W' b (off + j * 5) e.K e.N e.F (.slice a1 e.Z.length c1) e.id ∧ Box W' b1 p.K p.N p.F aP p.Z.length cP) (by kernel_rfl) ?_ (fun hHeld => ?_)
        · exact HKp.out _ BC.out
        generalize wr.drew = vd at *
        refine tkA (i := 0) (v := ?v1) rfl hHeld ?hy1 (some 20) rfl ?rest1
        case hy1 => (intro W hSw; obtain ⟨⟨z0, z1, z2, z3, z4⟩, ⟨p0, p1, p2, p3⟩⟩ := hSw; go_simp; (try with_reducible rfl))
        try simp only [Act.put, List.setIfInBounds_toArray, List.set_cons_succ, List.set_cons_zero]
        refine tkA (i := 1) (v := ?v2) rfl hHeld ?hy2 (some 21) rfl ?rest2
        case hy2 => (intro W hSw; obtain ⟨⟨z0, z1, z2, z3, z4⟩, ⟨p0, p1, p2, p3⟩⟩ := hSw; go_simp; (try with_reducible rfl))
        try simp only [Act.put, List.setIfInBounds_toArray, List.set_cons_succ, List.set_cons_zero]
        refine tkA (i := 2) (v := ?v3) rfl hHeld ?hy3 (some 22) rfl ?rest3
        case hy3 => (intro W hSw; obtain ⟨⟨z0, z1, z2, z3, z4⟩, ⟨p0, p1, p2, p3⟩⟩ := hSw; go_simp; (try with_reducible rfl))
        try simp only [Act.put, List.setIfInBounds_toArray, List.set_cons_succ, List.set_cons_zero]
        refine tkA (i := 3) (v := ?v4) rfl hHeld ?hy4 (some 23) rfl ?rest4
        case hy4 => (intro W hSw; obtain ⟨⟨z0, z1, z2, z3, z4⟩, ⟨p0, p1, p2, p3⟩⟩ := hSw; go_simp; (try with_reducible rfl))
        try simp only [Act.put, List.setIfInBounds_toArray, List.set_cons_succ, List.set_cons_zero]
        refine tkA (i := 4) (v := ?v5) rfl hHeld ?hy5 (some 24) rfl ?rest5
        case hy5 => (intro W hSw; obtain ⟨⟨z0, z1, z2, z3, z4⟩, ⟨p0, p1, p2, p3⟩⟩ := hSw; go_simp; (try with_reducible rfl))
        try simp only [Act.put, List.setIfInBounds_toArray, List.set_cons_succ, List.set_cons_zero]
        refine tkA (i := 5) (v := ?v6) rfl hHeld ?hy6 (some 25) rfl ?rest6
        case hy6 => (intro W hSw; obtain ⟨⟨z0, z1, z2, z3, z4⟩, ⟨p0, p1, p2, p3⟩⟩ := hSw; go_simp; (try with_reducible rfl))
        try simp only [Act.put, List.setIfInBounds_toArray, List.set_cons_succ, List.set_cons_zero]
        refine anyK_step (i := 6) (by kernel_rfl) rfl (fun KP hK => ?_)
        go_simp
        refine (spec_ItemCompare e.K e.N p.K p.N e.F p.F c1 cP hf fP (HR3.out.below (HS.out.trans (BC.out.mono HS.out.size)) (Nat.le_refl _)) (HRP.out.below (HS.out.trans (BC.out.mono HS.out.size)) (Nat.le_refl _)) hsm mP).mono ?_
        rintro e v1 ⟨rfl, b⟩
        replace BC := hid (BC.out.trans (b.mono BC.out.size))
        clear b
        obtain ⟨CC, hCC⟩ : ∃ CC, cmpI e.K e.N e.F e.Z.length e.Z p.K p.N p.F p.Z.length p.Z = CC := ⟨_, rfl⟩
        rw [hCC]
        rw [hCC] at HKI
        clear hCC
        go_wp2_with fail
        clear hHeld
        refine hK.out _ _ (HKp.out _ BC.out) (fun hHeld => ?_)
        clear hK KP
        try simp only [Act.put, List.setIfInBounds_toArray, List.set_cons_succ, List.set_cons_zero]
        refine tkA (i := 7) (v := ?v7) rfl hHeld ?hy7 (some 27) rfl ?rest7
        case hy7 => (intro W hSw; obtain ⟨⟨z0, z1, z2, z3, z4⟩, ⟨p0, p1, p2, p3⟩⟩ := hSw; go_simp; (try with_reducible rfl))
        try simp only [Act.put, List.setIfInBounds_toArray, List.set_cons_succ, List.set_cons_zero]
        refine anyK_done (by kernel_rfl) ?_ _
        clear hHeld
        have HSq := hid (show Below W.heap.size W v1 from HS.out.trans (BC.out.mono HS.out.size))
        have HOq := hid (owns_below BC.out (Nat.le_refl _) HO.out)
        obtain ⟨⟨q0, q1, q2, q3, q4⟩, _⟩ := HKc.out _ HSq.out
        clear HO HS BC HKp
        generalize v1 = wq at *
        cases hdd : (CC == 0) with
        | false =>
          have HQ2 := hid (show (rs.take (j + 1)).filter (keyIs p) = (rs.take j).filter (keyIs p) by rw [HStep.out, HKI.out, hdd]; simp)
          go_wp2_with fail
          go_roundw
          case rel => exact ⟨j + 1, k, by omega, by omega, by go_num, hid (by rw [HQ2.out]; exact HK.out), hid (by rw [HQ2.out]; exact HOq.out), HSq⟩
          case measure => simp [intOf]; omega
        | true =>
          have HQ2 := hid (show (rs.take (j + 1)).filter (keyIs p) = (rs.take j).filter (keyIs p) ++ [e] by rw [HStep.out, HKI.out, hdd]; simp)
          generalize (rs.take j).filter (keyIs p) = qs at *
          have HO2 := hid (HOq.out.alloc (.cells #[.int .i64 e.id] 3))
          have hXa := Below.alloc1 wq (.cells #[.int .i64 e.id] 3)
          have HS2 := hid (HSq.out.trans (hXa.mono HSq.out.size))
          clear hXa
          go_wp2_with (at_builtin; refine wpList_append_own_at _ rfl _ _ 43 rfl W.heap.size 3 i0 (.int .i64 0) 1 8 Try.underlying43 hi hz0 hz1 hz2 rfl (by decide) _ _ _ rfl HO2.out ⟨wq.heap.size, 0, none⟩ 1 1 [.int .i64 e.id] rfl rfl (cell_one_new _ _ _) (by intro u hu; simp at hu; subst hu; rfl) (by unfold maxLen; omega) (by omega) HS2.out.size ?_)
          intro v8 w8 o8 g8 _ _
          obtain ⟨a8, c8, e8⟩ := own_sl o8
          subst e8
          have HK8 := hid (show ((qs ++ [e]).map (·.id)).length = k + 1 by rw [List.map_append, List.length_append, HK.out]; rfl)
          have HO8 := hid (show w8.ownsRow W.heap.size 3 1 (.slice a8 (k + 1) c8) (k + 1) (ins ((qs ++ [e]).map (·.id))) from by rw [List.map_append]; show w8.ownsRow _ _ _ _ _ (ins (_ ++ [e.id])); rw [ins_snoc]; exact o8)
          have HS8 := hid (HS2.out.grown g8 HS2.out.size (fun r hr => (HO2.out.lt r hr).1))
          clear o8 g8 q0 q1 q2 q3 q4 hdd
          go_wp2_with fail
          go_roundw
          case rel => exact ⟨j + 1, k + 1, by omega, by omega, by go_num, hid (by rw [HQ2.out]; exact HK8.out), hid (by rw [HQ2.out]; exact HO8.out), HS8⟩
          case measure => simp [intOf]; omega
      · obtain rfl : j = m := by omega
        have hlt' : ¬ (j : Int) < (j : Int) := by omega
        go_wp2_with fail
        go_ret
        have ej : rs.take j = rs := List.take_of_length_le (by rw [HMm.out]; exact Nat.le_refl _)
        have hO := HO.out
        have hK := HK.out
        rw [ej] at hO hK
        refine ⟨_, rfl, ⟨?_, fun g hg => (hO.lt g hg).2, fun i => ?_⟩, HB.out.trans (HS.out.mono HB.out.size)⟩
        · rw [HFd.out, hK]; exact owns_lower hO HVW.out
        · rw [HFd.out]; exact ids_bd _ (fun e he => HOk.out e (List.mem_filter.1 he).1) i
end Go.Proofs.Ytnjofaiekofamaa
