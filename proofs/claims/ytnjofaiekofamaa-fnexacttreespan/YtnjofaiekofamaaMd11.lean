/- The specification's TreeSpan. Conditions: texts of at most 2^21 bytes. -/
import Derived.Test.YtnjofaiekofamaaMc11
import Derived.Test.YtnjofaiekofamaaMb11
namespace Go.Proofs.Ytnjofaiekofamaa
open Go.RowKit
set_option maxRecDepth 100000

set_option maxHeartbeats 6400000 in
theorem spec_TreeSpan {ad : Option Addr} {N : Nat} (cap : Nat) (root : Int) {ns : List Nd} {w : World} (hR : ReadsD w ad ns) (hns : ns.length = N) (hm : ∀ i j, ((ns.getD i nd0).es.getD j en0).Z.length ≤ 2097152) (p q : Im) {aP aQ : Option Addr} (cP cQ : Nat) (rP : Reads w aP p.Z.length p.Z) (rQ : Reads w aQ q.Z.length q.Z) (fP : p.F < 18446744073709551616) (fQ : q.F < 18446744073709551616) (mP : p.Z.length ≤ 2097152) (mQ : q.Z.length ≤ 2097152) :
    Calls Try.prog 46 #[.agg #[.slice ad N cap, .int .i64 root], .agg #[.int .i64 p.K, .int .i64 p.N, .float .f64 p.F, .slice aP p.Z.length cP], .agg #[.int .i64 q.K, .int .i64 q.N, .float .f64 q.F, .slice aQ q.Z.length cQ]] w fun e w' => ∃ v, e = .returned v ∧ OwnE w' w.heap.size w'.heap.size v (spanS ns root p q) ∧ Below w.heap.size w w' := by
  obtain ⟨i0, hi, hz0, hz1, hz2⟩ := info_parts Try.infoEn
  obtain ⟨z, R1, R2, bW⟩ := three w (.cells #[.slice ad N cap, .int .i64 root] 26) (.cells #[.int .i64 p.K, .int .i64 p.N, .float .f64 p.F, .slice aP p.Z.length cP] 32) (.cells #[.int .i64 q.K, .int .i64 q.N, .float .f64 q.F, .slice aQ q.Z.length cQ] 32)
  have R0 := three_first w (.cells #[.slice ad N cap, .int .i64 root] 26) (.cells #[.int .i64 p.K, .int .i64 p.N, .float .f64 p.F, .slice aP p.Z.length cP] 32) (.cells #[.int .i64 q.K, .int .i64 q.N, .float .f64 q.F, .slice aQ q.Z.length cQ] 32)
  have HR0 := hid R0
  have HR1 := hid R1
  have HR2 := hid R2
  have HB := hid bW
  have HVV := hid bW.size
  have HRD := hid (hR.below bW (Nat.le_refl _))
  have HRP := hid (rP.below bW (Nat.le_refl _))
  have HRQ := hid (rQ.below bW (Nat.le_refl _))
  have HZ := hid z
  have HM := hid hm
  have HNs := hid hns
  have HSm := hid (allS_small ns root)
  have HOk := hid (allS_ok ns root)
  have hsP := fun w a m => run_store Try.prog w a (.float .f64 p.F) m rfl
  have hsQ := fun w a m => run_store Try.prog w a (.float .f64 q.F) m rfl
  have HD := hid (show spanS ns root p q = (allS ns root).filter (inSpE p q) from rfl)
  clear z R0 R1 R2 bW hR rP rQ hm hns
  go_enter Try.func46, Try.ntmps46
  go_upto_region 1 with fail
  generalize (((w.alloc (.cells #[.slice ad N cap, .int .i64 root] 26)).alloc (.cells #[.int .i64 p.K, .int .i64 p.N, .float .f64 p.F, .slice aP p.Z.length cP] 32)).alloc (.cells #[.int .i64 q.K, .int .i64 q.N, .float .f64 q.F, .slice aQ q.Z.length cQ] 32)) = V at *
  obtain ⟨b0, hb0⟩ : ∃ b0, w.heap.size = b0 := ⟨_, rfl⟩
  obtain ⟨b1, hb1⟩ : ∃ b1, w.heap.size + 1 = b1 := ⟨_, rfl⟩
  obtain ⟨b2, hb2⟩ : ∃ b2, w.heap.size + 1 + 1 = b2 := ⟨_, rfl⟩
  rw [hb2] at HR2
  rw [hb1] at HR1
  rw [hb0] at HR0
  have HP0 := hid (show b0 < V.heap.size ∧ b1 < V.heap.size ∧ b2 < V.heap.size by have := HZ.out; omega)
  try simp only [hb2]
  try simp only [hb1]
  try simp only [hb0]
  clear hb0 hb1 hb2 HZ hsP hsQ
  have k0 : V.cell? ⟨b0, 0, none⟩ = some (.slice ad N cap) := by rw [cell_of_row _ _ _ _ _ _ HR0.out]; rfl
  have k1 : V.cell? ⟨b0, 1, none⟩ = some (.int .i64 root) := by rw [cell_of_row _ _ _ _ _ _ HR0.out]; rfl
  go_wp2_with fail
  clear k0 k1
  refine (spec_TreeAll cap root HRD.out HNs.out HM.out).mono ?_
  rintro e W ⟨v, rfl, ow, b⟩
  replace HB := hid (HB.out.trans (b.mono HB.out.size))
  replace HR1 := hid ((b.block b1 HP0.out.2.1).trans HR1.out)
  replace HR2 := hid ((b.block b2 HP0.out.2.2).trans HR2.out)
  replace HRP := hid (HRP.out.below b (Nat.le_refl _))
  replace HRQ := hid (HRQ.out.below b (Nat.le_refl _))
  have HP1 := hid (show b1 < W.heap.size ∧ b2 < W.heap.size by have := HP0.out; have := b.size; omega)
  have HLO := hid b.size
  have HVW := hid (show w.heap.size ≤ V.heap.size ∧ V.heap.size ≤ W.heap.size from ⟨HVV.out, b.size⟩)
  clear b HRD HR0
  obtain ⟨xs, o, hBd⟩ := ow.own
  have HFl := hid ow.fl
  generalize allS ns root = rs at *
  obtain ⟨m, hmm⟩ : ∃ m, rs.length = m := ⟨_, rfl⟩
  rw [hmm] at o
  have hm12 : m ≤ 1200 := by have := HSm.out.1; omega
  obtain ⟨a1', c1', rfl⟩ := own_sl o
  have HO := hid o
  have HBd := hid hBd
  have HMm := hid hmm
  clear ow o hBd hmm HSm HP0
  generalize V.heap.size = lo at *
  go_wp2_with fail
  go_loopw [7, 9] (fun sl i wr => ∃ (j k c2 : Nat) (a2 : Option Addr), j ≤ m ∧ i = .int .i64 j ∧ sl = .slice a2 k c2 ∧ k ≤ j ∧ Hid (((rs.take j).filter (inSpE p q)).length = k) ∧ Hid (PickE wr lo W.heap.size a2 k c2 ((rs.take j).filter (inSpE p q)) xs j) ∧ Hid (Below W.heap.size W wr)) (fun _ i _ => m - (intOf i).toNat)
  case atStart => exact ⟨0, 0, 0, none, Nat.zero_le _, rfl, rfl, by omega, hid (by simp), hid (by simpa using PickE.nil _ _ _ _), hid (Below.refl _ _)⟩
  case round =>
    obtain ⟨j, k, c2, a2, hj, rfl, rfl, hkj, HK, HP, HS⟩ := hrel
    by_cases hlt : j < m
    ·
      have hlt' : (j : Int) < (m : Int) := by omega
      have hj0 : (0 : Int) ≤ (j : Int) := by omega
      have HStep := hid (pick_stepE (inSpE p q) rs j (by have := HMm.out; omega))
      have hrow : ∃ g, a1' = some ⟨g, 0, none⟩ := by
        rcases HO.out.2 with ⟨_, h0⟩ | ⟨g, cap, cur, e, _⟩
        · omega
        · cases e; exact ⟨g, rfl⟩
      obtain ⟨g, rfl⟩ := hrow
      have hgl : g < W.heap.size := (HO.out.lt g rfl).2
      have hca := fun t (ht : t < 5) => (HO.out.cellAt (j * 5 + t) (by omega)).trans (cellsE_at rs xs j t (by rw [HBd.out.len, textsE_len]) (by have := HMm.out; omega) ht)
      have hrw := HBd.out.row j
      rw [textsE_at] at hrw
      have hfe := HFl.out j
      have hsm := show (rs.getD j en0).Z.length ≤ 2097152 from by
        rcases getD_mem_or rs j en0 with e | e
        · rw [e]; simp [en0]
        · have := entOk_small (HOk.out _ e); omega
      obtain ⟨e, he⟩ : ∃ e, rs.getD j en0 = e := ⟨_, rfl⟩
      obtain ⟨u, hu⟩ : ∃ u, xs.getD j nilS = u := ⟨_, rfl⟩
      rw [he, hu] at hca
      rw [he, hu] at hrw
      rw [he] at hfe hsm HStep
      obtain ⟨a1, c1, e1, hr1, _, _⟩ := hrw
      subst e1
      have HRr := hid he
      have HU := hid hu
      have BX0 := hid (show Box5 W g (j * 5) e.K e.N e.F (.slice a1 e.Z.length c1) e.id from ⟨by have := hca 0 (by omega); simpa [cellsE1] using this, by have := hca 1 (by omega); simpa [cellsE1] using this, by have := hca 2 (by omega); simpa [cellsE1] using this, by have := hca 3 (by omega); simpa [cellsE1] using this, by have := hca 4 (by omega); simpa [cellsE1] using this⟩)
      have HR3 := hid hr1
      have hst := fun w a m => run_store Try.prog w a (.float .f64 e.F) m rfl
      have hd0 : inSpE p q e = inSp p.K p.N p.F p.Z.length p.Z q.K q.N q.F q.Z.length q.Z e.K e.N e.F e.Z.length e.Z := rfl
      have HKc := hid (show ∀ W', Below W.heap.size W W' → Box5 W' g (j * 5) e.K e.N e.F (.slice a1 e.Z.length c1) e.id ∧ Box W' b1 p.K p.N p.F aP p.Z.length cP ∧ Box W' b2 q.K q.N q.F aQ q.Z.length cQ from fun W' b => by
        have r1 := (b.block b1 HP1.out.1).trans HR1.out
        have r2 := (b.block b2 HP1.out.2).trans HR2.out
        exact ⟨BX0.out.below b (Nat.le_refl _), ⟨by rw [cell_of_row _ _ _ _ _ _ r1]; rfl, by rw [cell_of_row _ _ _ _ _ _ r1]; rfl, by rw [cell_of_row _ _ _ _ _ _ r1]; rfl, by rw [cell_of_row _ _ _ _ _ _ r1]; rfl⟩, ⟨by rw [cell_of_row _ _ _ _ _ _ r2]; rfl, by rw [cell_of_row _ _ _ _ _ _ r2]; rfl, by rw [cell_of_row _ _ _ _ _ _ r2]; rfl, by rw [cell_of_row _ _ _ _ _ _ r2]; rfl⟩⟩)
      clear hca hr1 hu he
      go_wp2_with fail
      have HKp := hid (show ∀ W', Below wr.heap.size wr W' → Box5 W' g (j * 5) e.K e.N e.F (.slice a1 e.Z.length c1) e.id ∧ Box W' b1 p.K p.N p.F aP p.Z.length cP ∧ Box W' b2 q.K q.N q.F aQ q.Z.length cQ from fun W' b => HKc.out W' (HS.out.trans (b.mono HS.out.size)))
      have BC := hid ((Still.drew wr).below wr.heap.size)
      refine region_K 99 (fun W' => Box5 W' g (j * 5) e.K e.N e.F (.slice a1 e.Z.length c1) e.id ∧ Box W' b1 p.K p.N p.F aP p.Z.length cP ∧ Box W' b2 q.K q.N q.F aQ q.Z.length cQ) (by kernel_rfl) ?_ (fun hHeld => ?_)
      · exact HKp.out _ BC.out
      generalize wr.drew = vd at *
      refine tkA (i := 0) (v := ?v1) rfl hHeld ?hy1 (some 18) rfl ?rest1
      case hy1 => (intro W hSw; obtain ⟨⟨z0, z1, z2, z3, z4⟩, ⟨p0, p1, p2, p3⟩, ⟨q0, q1, q2, q3⟩⟩ := hSw; go_simp; (try with_reducible rfl))
      try simp only [Act.put, List.setIfInBounds_toArray, List.set_cons_succ, List.set_cons_zero]
      refine tkA (i := 1) (v := ?v2) rfl hHeld ?hy2 (some 19) rfl ?rest2
      case hy2 => (intro W hSw; obtain ⟨⟨z0, z1, z2, z3, z4⟩, ⟨p0, p1, p2, p3⟩, ⟨q0, q1, q2, q3⟩⟩ := hSw; go_simp; (try with_reducible rfl))
      try simp only [Act.put, List.setIfInBounds_toArray, List.set_cons_succ, List.set_cons_zero]
      refine tkA (i := 2) (v := ?v3) rfl hHeld ?hy3 (some 20) rfl ?rest3
      case hy3 => (intro W hSw; obtain ⟨⟨z0, z1, z2, z3, z4⟩, ⟨p0, p1, p2, p3⟩, ⟨q0, q1, q2, q3⟩⟩ := hSw; go_simp; (try with_reducible rfl))
      try simp only [Act.put, List.setIfInBounds_toArray, List.set_cons_succ, List.set_cons_zero]
      refine tkA (i := 3) (v := ?v4) rfl hHeld ?hy4 (some 21) rfl ?rest4
      case hy4 => (intro W hSw; obtain ⟨⟨z0, z1, z2, z3, z4⟩, ⟨p0, p1, p2, p3⟩, ⟨q0, q1, q2, q3⟩⟩ := hSw; go_simp; (try with_reducible rfl))
      try simp only [Act.put, List.setIfInBounds_toArray, List.set_cons_succ, List.set_cons_zero]
      refine tkA (i := 4) (v := ?v5) rfl hHeld ?hy5 (some 22) rfl ?rest5
      case hy5 => (intro W hSw; obtain ⟨⟨z0, z1, z2, z3, z4⟩, ⟨p0, p1, p2, p3⟩, ⟨q0, q1, q2, q3⟩⟩ := hSw; go_simp; (try with_reducible rfl))
      try simp only [Act.put, List.setIfInBounds_toArray, List.set_cons_succ, List.set_cons_zero]
      refine tkA (i := 5) (v := ?v6) rfl hHeld ?hy6 (some 23) rfl ?rest6
      case hy6 => (intro W hSw; obtain ⟨⟨z0, z1, z2, z3, z4⟩, ⟨p0, p1, p2, p3⟩, ⟨q0, q1, q2, q3⟩⟩ := hSw; go_simp; (try with_reducible rfl))
      try simp only [Act.put, List.setIfInBounds_toArray, List.set_cons_succ, List.set_cons_zero]
      refine tkA (i := 6) (v := ?v7) rfl hHeld ?hy7 (some 24) rfl ?rest7
      case hy7 => (intro W hSw; obtain ⟨⟨z0, z1, z2, z3, z4⟩, ⟨p0, p1, p2, p3⟩, ⟨q0, q1, q2, q3⟩⟩ := hSw; go_simp; (try with_reducible rfl))
      try simp only [Act.put, List.setIfInBounds_toArray, List.set_cons_succ, List.set_cons_zero]
      refine anyK_step (i := 7) (by kernel_rfl) rfl (fun KP hK => ?_)
      go_simp
      refine (spec_InSpan p.K p.N q.K q.N e.K e.N p.F q.F e.F cP cQ c1 fP fQ hfe (HRP.out.below (HS.out.trans (BC.out.mono HS.out.size)) (Nat.le_refl _)) (HRQ.out.below (HS.out.trans (BC.out.mono HS.out.size)) (Nat.le_refl _)) (HR3.out.below (HS.out.trans (BC.out.mono HS.out.size)) (Nat.le_refl _)) mP mQ hsm).mono ?_
      rintro e v1 ⟨rfl, b⟩
      replace BC := hid (BC.out.trans (b.mono BC.out.size))
      clear b
      rw [← hd0]
      clear hd0
      go_wp2_with fail
      clear hHeld
      refine hK.out _ _ (HKp.out _ BC.out) (fun hHeld => ?_)
      clear hK KP
      try simp only [Act.put, List.setIfInBounds_toArray, List.set_cons_succ, List.set_cons_zero]
      refine anyK_done (by kernel_rfl) ?_ _
      clear hHeld
      have HSq := hid (show Below W.heap.size W v1 from HS.out.trans (BC.out.mono HS.out.size))
      have HPq := hid (HP.out.below BC.out (Nat.le_refl _))
      obtain ⟨⟨q0, q1, q2, q3, q4⟩, _, _⟩ := HKc.out _ HSq.out
      clear HP HS BC HKp
      generalize v1 = wq at *
      have HXq := hid ((HBd.out.agree (Agree.below HSq.out (Nat.le_refl _))).mono (Nat.le_refl lo) HSq.out.size)
      cases hdd : inSpE p q e with
      | false =>
        have HQ2 := hid (show (rs.take (j + 1)).filter (inSpE p q) = (rs.take j).filter (inSpE p q) by rw [HStep.out, hdd]; simp)
        clear hdd
        go_wp2_with fail
        go_roundw
        case rel => exact ⟨j + 1, k, c2, a2, by omega, by go_num, rfl, by omega, hid (by rw [HQ2.out]; exact HK.out), hid (by rw [HQ2.out]; exact HPq.out.skip), HSq⟩
        case measure => simp [intOf]; omega
      | true =>
        have HQ2 := hid (show (rs.take (j + 1)).filter (inSpE p q) = (rs.take j).filter (inSpE p q) ++ [e] by rw [HStep.out, hdd]; simp)
        generalize (rs.take j).filter (inSpE p q) = qs at *
        have hXa := Below.alloc1 wq (.cells #[.int .i64 e.K, .int .i64 e.N, .float .f64 e.F, .slice a1 e.Z.length c1, .int .i64 e.id] 35)
        have HRA := hid (heap_alloc_new wq (.cells #[.int .i64 e.K, .int .i64 e.N, .float .f64 e.F, .slice a1 e.Z.length c1, .int .i64 e.id] 35))
        have HP2 := hid (HPq.out.below hXa (Nat.le_refl _))
        have HS2 := hid (HSq.out.trans (hXa.mono HSq.out.size))
        have HX2 := hid ((HXq.out.agree (Agree.below hXa (Nat.le_refl _))).mono (Nat.le_refl lo) hXa.size)
        obtain ⟨ys, o7, hB7, hs7⟩ := HP2.out.ex
        have HF7 := hid HP2.out.fl
        have O7 := hid o7
        have B7 := hid hB7
        have S7 := hid hs7
        clear hXa o7 hB7 hs7 HPq HP2 hdd
        go_wp2_with (at_builtin; refine wpList_append_row rfl _ _ 28 rfl W.heap.size 35 i0 _ 5 56 Try.underlying28 hi hz0 hz1 hz2 rfl (by decide) _ _ _ rfl O7.out (some ⟨wq.heap.size, 0, none⟩) 1 1 [.int .i64 e.K, .int .i64 e.N, .float .f64 e.F, .slice a1 e.Z.length c1, .int .i64 e.id] rfl rfl (.inr ⟨_, rfl, World.news_of_block HRA.out⟩) (fun e => by cases e) ?g2 (by unfold maxLen; omega) (by omega) HS2.out.size ?_)
        case g2 => intro u hu; simp only [List.mem_cons, List.not_mem_nil, or_false] at hu; rcases hu with rfl | rfl | rfl | rfl | rfl <;> rfl
        intro a8 c8 w8 o8 g8
        have HN := hid (PickE.push O7.out B7.out S7.out HF7.out (by have := HMm.out; omega) HX2.out HRr.out HU.out hfe o8 g8)
        have HS8 := hid (HS2.out.grown g8 HS2.out.size (fun r hr => (O7.out.lt r hr).1))
        clear o8 g8 O7 q0 q1 q2 q3 q4
        go_wp2_with fail
        go_roundw
        case rel => exact ⟨j + 1, k + 1, c8, a8, by omega, by go_num, rfl, by omega, hid (by rw [HQ2.out]; simp [HK.out]), hid (by rw [HQ2.out]; exact HN.out), HS8⟩
        case measure => simp [intOf]; omega
    · have hlt' : ¬ (j : Int) < (m : Int) := by omega
      go_wp2_with fail
      go_ret
      have ej : rs.take j = rs := List.take_of_length_le (by rw [HMm.out]; omega)
      have hK := HK.out
      have hP := HP.out
      rw [ej] at hK hP
      rw [HD.out]
      exact ⟨_, rfl, (hP.own hK HVW.out.2).mono HVW.out.1 (Nat.le_refl _), HB.out.trans (HS.out.mono HB.out.size)⟩
end Go.Proofs.Ytnjofaiekofamaa
