/- The contract of the specification's HeapVersions. Conditions: what the types say; a key's text of at most 2^21 bytes. -/
import Derived.Test.YtebhipicfgnajaaGreatHt10
import Derived.Test.YtebhipicfgnajaaGreatHk10
import Derived.Test.YtebhipicfgnajaaGreatIh10
import Derived.Test.YtebhipicfgnajaaGreatMga
import Derived.Deep.MidRow
import Derived.Deep.RegionHeld3
namespace Go.Proofs.YtebhipicfgnajaaGreat
open Go.RowKit
set_option maxRecDepth 100000

theorem versH_len (ps : List Pg) (K N : Int) (f n : Nat) (zs : List Int) : (versH ps K N f n zs).length ≤ (rowsH ps).length := by
  unfold versH
  split
  · exact List.length_filter_le _ _
  · simp

/-- An item's cells in the midst of a block. -/
structure Box10 (w : World) (g o : Nat) (K N : Int) (f : Nat) (ad : Option Addr) (n cap : Nat) : Prop where
  c0 : w.cell? ⟨g, o, none⟩ = some (.int .i64 K)
  c1 : w.cell? ⟨g, o + 1, none⟩ = some (.int .i64 N)
  c2 : w.cell? ⟨g, o + 2, none⟩ = some (.float .f64 f)
  c3 : w.cell? ⟨g, o + 3, none⟩ = some (.slice ad n cap)
theorem Box10.below {w w' : World} {g o : Nat} {K N : Int} {f : Nat} {ad : Option Addr} {n cap : Nat} (b : Box10 w g o K N f ad n cap) {B : Nat} (h : Below B w w') (hB : w.heap.size ≤ B) : Box10 w' g o K N f ad n cap := by
  have hlt : g < w.heap.size := World.block_lt_of_cell? w _ b.c0
  exact ⟨(h.cell (p := ⟨g, o, none⟩) (Nat.lt_of_lt_of_le hlt hB)).trans b.c0, (h.cell (p := ⟨g, o + 1, none⟩) (Nat.lt_of_lt_of_le hlt hB)).trans b.c1, (h.cell (p := ⟨g, o + 2, none⟩) (Nat.lt_of_lt_of_le hlt hB)).trans b.c2, (h.cell (p := ⟨g, o + 3, none⟩) (Nat.lt_of_lt_of_le hlt hB)).trans b.c3⟩
theorem getD_mem_lt {α : Type} (xs : List α) (i : Nat) (d : α) (h : i < xs.length) : xs.getD i d ∈ xs := by
  rw [List.getD_eq_getElem?_getD, List.getElem?_eq_getElem h, Option.getD_some]
  exact List.getElem_mem h

set_option maxHeartbeats 12800000 in
theorem spec_HeapVersions {ad : Option Addr} {n : Nat} (cap : Nat) {ps : List Pg} (K N : Int) {f : Nat} {ka : Option Addr} {kn : Nat} (kc : Nat) {zs : List Int} {w : World} (h : ReadsG w ad ps) (hl : ps.length = n) (hk : Reads w ka kn zs) (hf : f < 18446744073709551616) (hn : kn ≤ 2097152) :
    Calls Tryz.prog 36 #[.agg #[.slice ad n cap], .agg #[.int .i64 K, .int .i64 N, .float .f64 f, .slice ka kn kc]] w fun e w' => ∃ v, e = .returned v ∧ OwnRw w' w.heap.size w'.heap.size v (versH ps K N f kn zs) ∧ (versH ps K N f kn zs).length ≤ 256 ∧ Below w.heap.size w w' := by
  obtain ⟨i0, hi, hz0, hz1, hz2⟩ := info_parts Tryz.infoRw
  have hst1 := fun w a m => run_store Tryz.prog w a (.float .f64 f) m rfl
  obtain ⟨R1, R2, z⟩ := two_rows w (.cells #[.slice ad n cap] 26) (.cells #[.int .i64 K, .int .i64 N, .float .f64 f, .slice ka kn kc] 29)
  have hBl := two w (.cells #[.slice ad n cap] 26) (.cells #[.int .i64 K, .int .i64 N, .float .f64 f, .slice ka kn kc] 29)
  have HB := hid hBl
  have HR := hid (h.below hBl (Nat.le_refl _))
  have HK := hid (hk.below hBl (Nat.le_refl _))
  have Q1 := hid R1
  have Q2 := hid R2
  have ZW := hid z
  have q0 : ((w.alloc (.cells #[.slice ad n cap] 26)).alloc (.cells #[.int .i64 K, .int .i64 N, .float .f64 f, .slice ka kn kc] 29)).cell? ⟨w.heap.size + 1, 0, none⟩ = some (.int .i64 K) := by rw [cell_of_row _ _ _ _ _ _ R2]; rfl
  have q1 : ((w.alloc (.cells #[.slice ad n cap] 26)).alloc (.cells #[.int .i64 K, .int .i64 N, .float .f64 f, .slice ka kn kc] 29)).cell? ⟨w.heap.size + 1, 1, none⟩ = some (.int .i64 N) := by rw [cell_of_row _ _ _ _ _ _ R2]; rfl
  have q2 : ((w.alloc (.cells #[.slice ad n cap] 26)).alloc (.cells #[.int .i64 K, .int .i64 N, .float .f64 f, .slice ka kn kc] 29)).cell? ⟨w.heap.size + 1, 2, none⟩ = some (.float .f64 f) := by rw [cell_of_row _ _ _ _ _ _ R2]; rfl
  have q3 : ((w.alloc (.cells #[.slice ad n cap] 26)).alloc (.cells #[.int .i64 K, .int .i64 N, .float .f64 f, .slice ka kn kc] 29)).cell? ⟨w.heap.size + 1, 3, none⟩ = some (.slice ka kn kc) := by rw [cell_of_row _ _ _ _ _ _ R2]; rfl
  clear h hk R1 R2 z hBl
  go_enter Tryz.func36, Tryz.ntmps36
  go_wp2_with fail
  generalize (w.alloc (.cells #[.slice ad n cap] 26)).alloc (.cells #[.int .i64 K, .int .i64 N, .float .f64 f, .slice ka kn kc] 29) = w1 at *
  refine (spec_KeyOk K N f ka kn kc hf hn w1).mono ?_
  rintro e W1 ⟨rfl, b⟩
  have S1 := hid ((b.block w.heap.size (by have := ZW.out; omega)).trans Q1.out)
  have S2 := hid ((b.block (w.heap.size + 1) (by have := ZW.out; omega)).trans Q2.out)
  have hc0 : W1.cell? ⟨w.heap.size, 0, none⟩ = some (.slice ad n cap) := by rw [cell_of_row _ _ _ _ _ _ S1.out]; rfl
  replace HR := hid (HR.out.below b (Nat.le_refl _))
  replace HK := hid (HK.out.below b (Nat.le_refl _))
  replace HB := hid (HB.out.trans (b.mono HB.out.size))
  clear b Q1 Q2 ZW q0 q1 q2 q3
  cases hkk : okK K N f kn with
  | false =>
    clear hc0
    go_wp2_with fail
    go_ret
    have e0 : versH ps K N f kn zs = [] := by unfold versH; rw [hkk]; rfl
    rw [e0]
    exact ⟨_, rfl, OwnRw.nil _ _ _, by simp, HB.out⟩
  | true =>
    have HD := hid (show versH ps K N f kn zs = (rowsH ps).filter (verW K N f kn zs) by unfold versH; rw [if_pos hkk])
    clear hkk
    go_wp2_with fail
    refine (spec_HeapRows cap HR.out hl).mono ?_
    rintro e W ⟨v, rfl, ow, h256, b⟩
    replace HK := hid (HK.out.below b (Nat.le_refl _))
    have T2 := (b.block (w.heap.size + 1) (Array.getElem?_eq_some_iff.1 S2.out).1).trans S2.out
    have HBk := hid (show Box W (w.heap.size + 1) K N f ka kn kc from ⟨by rw [cell_of_row _ _ _ _ _ _ T2]; rfl, by rw [cell_of_row _ _ _ _ _ _ T2]; rfl, by rw [cell_of_row _ _ _ _ _ _ T2]; rfl, by rw [cell_of_row _ _ _ _ _ _ T2]; rfl⟩)
    have HLO0 := hid HB.out.size
    replace HB := hid (HB.out.trans (b.mono HB.out.size))
    have HLO := hid b.size
    clear b HR hc0 S1 S2 T2
    have HSm := hid (rowsH_small ps)
    obtain ⟨fs, xs, ow1, hff, hBd, hq⟩ := ow.own
    generalize rowsH ps = rs at *
    obtain ⟨m, hm⟩ : ∃ m, rs.length = m := ⟨_, rfl⟩
    rw [hm] at ow1 hff h256
    obtain ⟨a1, c1, rfl⟩ := own_sl ow1
    have HO := hid ow1
    have HF := hid hff
    have HBd := hid hBd
    have HQ := hid hq
    have HM := hid hm
    clear ow ow1 hff hBd hq hm
    generalize W1.heap.size = lo at *
    go_wp2_with fail
    go_loopw [5, 7] (fun sl i wr => ∃ (j k c2 : Nat) (a2 : Option Addr), j ≤ m ∧ i = .int .i64 j ∧ sl = .slice a2 k c2 ∧ k ≤ j ∧ Hid (((rs.take j).filter (verW K N f kn zs)).length = k) ∧ Hid (PickR wr lo W.heap.size a2 k c2 ((rs.take j).filter (verW K N f kn zs)) xs j) ∧ Hid (Below W.heap.size W wr)) (fun _ i _ => m - (intOf i).toNat)
    case atStart => exact ⟨0, 0, 0, none, Nat.zero_le _, rfl, rfl, by omega, hid (by simp), hid (by simpa using PickR.nil _ _ _ _), hid (Below.refl _ _)⟩
    case round =>
      obtain ⟨j, k, c2, a2, hj, rfl, rfl, hkj, HKK, HP, HS⟩ := hrel
      by_cases hlt : j < m
      · have hlt' : (j : Int) < (m : Int) := by omega
        have hj0 : (0 : Int) ≤ (j : Int) := by omega
        have HStep := hid (pick_step (verW K N f kn zs) rs j (by have := HM.out; omega))
        have hrow : ∃ g, a1 = some ⟨g, 0, none⟩ := by
          rcases HO.out.2 with ⟨_, h0⟩ | ⟨g, cap, cur, e, _⟩
          · omega
          · cases e; exact ⟨g, rfl⟩
        obtain ⟨g, rfl⟩ := hrow
        have hgl : g < W.heap.size := (HO.out.lt g rfl).2
        have hca := fun q (hq : q < 12) => (HO.out.cellAt (j * 12 + q) (by omega)).trans (cellsRw_at rs fs xs j q (by rw [HF.out, HM.out]) (by rw [HBd.out.len, textsR_len]) (by have := HM.out; omega) hq)
        have HG := hid (HQ.out j (by have := HM.out; omega))
        have hsm := HSm.out (rs.getD j rw0) (getD_mem_lt rs j rw0 (by have := HM.out; omega))
        obtain ⟨u, hu⟩ : ∃ u, xs.getD (j * 2) nilS = u := ⟨_, rfl⟩
        obtain ⟨v, hv⟩ : ∃ v, xs.getD (j * 2 + 1) nilS = v := ⟨_, rfl⟩
        obtain ⟨r, hr⟩ : ∃ r, rs.getD j rw0 = r := ⟨_, rfl⟩
        have hr1 := HBd.out.own (j * 2)
        have hr2 := HBd.out.own (j * 2 + 1)
        have hbd1 := HBd.out.bd (j * 2)
        rw [(textsR_at rs j).1] at hr1 hbd1
        rw [hu] at hca hr1
        rw [hv] at hca hr2
        rw [hr] at hca HG HStep hr1 hsm hbd1
        obtain ⟨au, cu, rfl⟩ := own_sl hr1
        obtain ⟨av, cv, rfl⟩ := own_sl hr2
        generalize (List.getD (textsR rs) (j * 2 + 1) []).length = lv at *
        generalize fs.getD j (0, 0) = ff at hca HG
        obtain ⟨f1, f2⟩ := ff
        obtain ⟨P, S, A, B, K1, N1, F, Z, L, M, G, Y, okk⟩ := r
        dsimp only at hr1 hsm hbd1
        have hz92 := hsm.1
        have hRZ0 : Reads W au Z.length Z := by
          obtain ⟨ad', c', e, r', _⟩ := Reads.own hr1 hbd1
          obtain ⟨rfl, _, _⟩ := Value.slice.inj e
          exact r'
        have HRZ := hid (hRZ0.below HS.out (Nat.le_refl _))
        have HKr := hid (HK.out.below HS.out (Nat.le_refl _))
        have HBkr := hid (HBk.out.below HS.out (World.block_lt_of_cell? W _ HBk.out.c0))
        obtain ⟨lu, hlu⟩ : ∃ lu, Z.length = lu := ⟨_, rfl⟩
        have HLU := hid hlu
        rw [hlu] at hr1 hz92 HRZ hca hu
        clear hlu
        have x4 : wr.cell? ⟨g, j * 12 + 2 + 2, none⟩ = some (.int .i64 K1) := (HS.out.cell (p := ⟨g, j * 12 + 2 + 2, none⟩) hgl).trans (by have := hca 4 (by omega); simpa [cellsOne] using this)
        have x5 : wr.cell? ⟨g, j * 12 + 2 + 2 + 1, none⟩ = some (.int .i64 N1) := (HS.out.cell (p := ⟨g, j * 12 + 2 + 2 + 1, none⟩) hgl).trans (by have := hca 5 (by omega); simpa [cellsOne] using this)
        have x6 : wr.cell? ⟨g, j * 12 + 2 + 2 + 2, none⟩ = some (.float .f64 f1) := (HS.out.cell (p := ⟨g, j * 12 + 2 + 2 + 2, none⟩) hgl).trans (by have := hca 6 (by omega); simpa [cellsOne] using this)
        have x7 : wr.cell? ⟨g, j * 12 + 2 + 2 + 3, none⟩ = some (.slice au lu cu) := (HS.out.cell (p := ⟨g, j * 12 + 2 + 2 + 3, none⟩) hgl).trans (by have := hca 7 (by omega); simpa [cellsOne] using this)
        have HC := hid hca
        have HV := hid hv
        have HU := hid hu
        have HRr := hid hr
        have HX4 := hid (show Box10 wr g (j * 12 + 2 + 2) K1 N1 f1 au lu cu from ⟨x4, x5, x6, x7⟩)
        have hf1 := HG.out.2.2.1
        clear hca hv hu hr hr1 hr2 x4 x5 x6 x7 hRZ0 hsm hbd1
        go_wp2_with fail
        have bD := (Still.drew wr).below wr.heap.size
        replace HS := hid (HS.out.trans (bD.mono HS.out.size))
        replace HP := hid (HP.out.below bD (Nat.le_refl _))
        replace HX4 := hid (HX4.out.below bD (Nat.le_refl _))
        replace HRZ := hid (HRZ.out.below bD (Nat.le_refl _))
        replace HKr := hid (HKr.out.below bD (Nat.le_refl _))
        replace HBkr := hid (HBkr.out.below bD (World.block_lt_of_cell? wr _ HBkr.out.c0))
        clear bD
        refine region_K 99 (fun W2 => Box10 W2 g (j * 12 + 2 + 2) K1 N1 f1 au lu cu ∧ Box W2 (w.heap.size + 1) K N f ka kn kc) (by kernel_rfl) ?_ (fun hHeld => ?_)
        · exact ⟨HX4.out, HBkr.out⟩
        generalize wr.drew = v0 at *
        refine anyK_take2 (i := 0) (v := ?v0) rfl (by kernel_rfl) (by kernel_rfl) (by kernel_rfl) (by rfl) (fun _ _ _ h => h) (by rfl) hHeld ?hy0 (some 20) (by rfl) ?rest0
        case hy0 => (intro W hSw; obtain ⟨⟨r0, r1, r2, r3⟩, ⟨s0, s1, s2, s3⟩⟩ := hSw; go_simp; (try with_reducible rfl))
        try simp only [Act.put]
        try simp only [List.setIfInBounds_toArray]
        try simp only [List.set_cons_succ, List.set_cons_zero]
        refine anyK_take2 (i := 1) (v := ?v1) rfl (by kernel_rfl) (by kernel_rfl) (by kernel_rfl) (by rfl) (fun _ _ _ h => h) (by rfl) hHeld ?hy1 (some 21) (by rfl) ?rest1
        case hy1 => (intro W hSw; obtain ⟨⟨r0, r1, r2, r3⟩, ⟨s0, s1, s2, s3⟩⟩ := hSw; go_simp; (try with_reducible rfl))
        try simp only [Act.put]
        try simp only [List.setIfInBounds_toArray]
        try simp only [List.set_cons_succ, List.set_cons_zero]
        refine anyK_take2 (i := 2) (v := ?v2) rfl (by kernel_rfl) (by kernel_rfl) (by kernel_rfl) (by rfl) (fun _ _ _ h => h) (by rfl) hHeld ?hy2 (some 22) (by rfl) ?rest2
        case hy2 => (intro W hSw; obtain ⟨⟨r0, r1, r2, r3⟩, ⟨s0, s1, s2, s3⟩⟩ := hSw; go_simp; (try with_reducible rfl))
        try simp only [Act.put]
        try simp only [List.setIfInBounds_toArray]
        try simp only [List.set_cons_succ, List.set_cons_zero]
        refine anyK_take2 (i := 3) (v := ?v3) rfl (by kernel_rfl) (by kernel_rfl) (by kernel_rfl) (by rfl) (fun _ _ _ h => h) (by rfl) hHeld ?hy3 (some 23) (by rfl) ?rest3
        case hy3 => (intro W hSw; obtain ⟨⟨r0, r1, r2, r3⟩, ⟨s0, s1, s2, s3⟩⟩ := hSw; go_simp; (try with_reducible rfl))
        try simp only [Act.put]
        try simp only [List.setIfInBounds_toArray]
        try simp only [List.set_cons_succ, List.set_cons_zero]
        refine anyK_take2 (i := 4) (v := ?v4) rfl (by kernel_rfl) (by kernel_rfl) (by kernel_rfl) (by rfl) (fun _ _ _ h => h) (by rfl) hHeld ?hy4 (some 24) (by rfl) ?rest4
        case hy4 => (intro W hSw; obtain ⟨⟨r0, r1, r2, r3⟩, ⟨s0, s1, s2, s3⟩⟩ := hSw; go_simp; (try with_reducible rfl))
        try simp only [Act.put]
        try simp only [List.setIfInBounds_toArray]
        try simp only [List.set_cons_succ, List.set_cons_zero]
        refine anyK_take2 (i := 5) (v := ?v5) rfl (by kernel_rfl) (by kernel_rfl) (by kernel_rfl) (by rfl) (fun _ _ _ h => h) (by rfl) hHeld ?hy5 (some 25) (by rfl) ?rest5
        case hy5 => (intro W hSw; obtain ⟨⟨r0, r1, r2, r3⟩, ⟨s0, s1, s2, s3⟩⟩ := hSw; go_simp; (try with_reducible rfl))
        try simp only [Act.put]
        try simp only [List.setIfInBounds_toArray]
        try simp only [List.set_cons_succ, List.set_cons_zero]
        refine anyK_take2 (i := 6) (v := ?v6) rfl (by kernel_rfl) (by kernel_rfl) (by kernel_rfl) (by rfl) (fun _ _ _ h => h) (by rfl) hHeld ?hy6 (some 26) (by rfl) ?rest6
        case hy6 => (intro W hSw; obtain ⟨⟨r0, r1, r2, r3⟩, ⟨s0, s1, s2, s3⟩⟩ := hSw; go_simp; (try with_reducible rfl))
        try simp only [Act.put]
        try simp only [List.setIfInBounds_toArray]
        try simp only [List.set_cons_succ, List.set_cons_zero]
        refine anyK_step (i := 7) (by kernel_rfl) rfl (fun KP hK => ?_)
        go_simp
        refine (spec_ItemCompare K1 N1 K N f1 f cu kc hf1 hf HRZ.out HKr.out (by omega) hn).mono ?_
        rintro e w8 ⟨rfl, b⟩
        replace HS := hid (HS.out.trans (b.mono HS.out.size))
        replace HP := hid (HP.out.below b (Nat.le_refl _))
        replace HX4 := hid (HX4.out.below b (Nat.le_refl _))
        replace HBkr := hid (HBkr.out.below b (World.block_lt_of_cell? v0 _ HBkr.out.c0))
        clear b
        have HCM := hid (show (verW K N f kn zs) ⟨P, S, ⟨A, B, K1, N1, F, Z, L, M, G, Y, okk⟩⟩ = decide (cmpI K1 N1 f1 lu Z K N f kn zs = 0) by unfold verW; rw [cmpI_same HG.out.1, HLU.out])
        rw [HCM.out] at HStep
        generalize cmpI K1 N1 f1 lu Z K N f kn zs = cc at *
        go_wp2_with fail
        refine hK.out _ _ ?_ (fun hH2 => ?_)
        · exact ⟨HX4.out, HBkr.out⟩
        clear hK KP hHeld
        have hHeld := hH2
        clear hH2
        try simp only [Act.put]
        try simp only [List.setIfInBounds_toArray]
        try simp only [List.set_cons_succ, List.set_cons_zero]
        refine anyK_step (i := 8) (by kernel_rfl) rfl (fun KP hK => ?_)
        go_simp
        refine hK.out _ _ ?_ (fun hH2 => ?_)
        · exact ⟨HX4.out, HBkr.out⟩
        clear hK KP hHeld
        have hHeld := hH2
        clear hH2
        try simp only [Act.put]
        try simp only [List.setIfInBounds_toArray]
        try simp only [List.set_cons_succ, List.set_cons_zero]
        refine anyK_done (by kernel_rfl) ?_ _
        clear hHeld
        have HC1 := hid (show w8.rangeAt g (j * 12) [.int .i64 P, .int .i64 S, .int .i64 A, .int .i64 B, .int .i64 K1, .int .i64 N1, .float .f64 f1, .slice au lu cu, .int .i64 L, .int .i64 M, .float .f64 f2, .slice av lv cv] from by
          intro q u hq
          have hq12 : q < 12 := by
            have := (List.getElem?_eq_some_iff.1 hq).1
            simpa using this
          exact (HS.out.cell (p := ⟨g, j * 12 + q, none⟩) hgl).trans ((HC.out q hq12).trans hq))
        have HX1 := hid ((HBd.out.agree (Agree.below HS.out (Nat.le_refl _))).mono (Nat.le_refl lo) HS.out.size)
        clear HC HX4 HRZ HKr HBkr
        by_cases hcc : cc = 0
        · have HQ2 := hid (show (rs.take (j + 1)).filter (verW K N f kn zs) = (rs.take j).filter (verW K N f kn zs) ++ [⟨P, S, ⟨A, B, K1, N1, F, Z, L, M, G, Y, okk⟩⟩] by rw [HStep.out, decide_eq_true hcc]; simp)
          generalize (rs.take j).filter (verW K N f kn zs) = qs at *
          have hXa := Below.alloc1 w8 (.cells #[.int .i64 P, .int .i64 S, .int .i64 A, .int .i64 B, .int .i64 K1, .int .i64 N1, .float .f64 f1, .slice au lu cu, .int .i64 L, .int .i64 M, .float .f64 f2, .slice av lv cv] 42)
          have HP2 := hid (HP.out.below hXa (Nat.le_refl _))
          have HS2 := hid (HS.out.trans (hXa.mono HS.out.size))
          have HX2 := hid ((HX1.out.agree (Agree.below hXa (Nat.le_refl _))).mono (Nat.le_refl lo) hXa.size)
          obtain ⟨gs, ys, o7, hf7, hB7, hq7, hs7⟩ := HP2.out.ex
          have O7 := hid o7
          have F7 := hid hf7
          have B7 := hid hB7
          have Q7 := hid hq7
          have S7 := hid hs7
          clear hXa o7 hf7 hB7 hq7 hs7 HP HP2
          go_wp2_with (first
            | (refine wpList_load_mid rfl 42 (.tmp 32) rfl g (j * 12) rfl [.int .i64 P, .int .i64 S, .int .i64 A, .int .i64 B, .int .i64 K1, .int .i64 N1, .float .f64 f1, .slice au lu cu, .int .i64 L, .int .i64 M, .float .f64 f2, .slice av lv cv] _ HC1.out Tryz.underlying42 rfl ?li ?_)
            | (at_builtin; refine wpList_append_row rfl _ _ 35 rfl W.heap.size 42 i0 _ 12 128 Tryz.underlying35 hi hz0 hz1 hz2 rfl (by decide) _ _ _ rfl O7.out (some ⟨w8.heap.size, 0, none⟩) 1 1 [.int .i64 P, .int .i64 S, .int .i64 A, .int .i64 B, .int .i64 K1, .int .i64 N1, .float .f64 f1, .slice au lu cu, .int .i64 L, .int .i64 M, .float .f64 f2, .slice av lv cv] rfl rfl (.inr ⟨_, rfl, ?g1⟩) (fun e => by cases e) ?g2 (by unfold maxLen; omega) (by omega) ?g3 ?_))
          case li => rw [hi]; simp [hz1]
          case g1 => exact World.news_of_block (heap_alloc_new w8 (.cells #[.int .i64 P, .int .i64 S, .int .i64 A, .int .i64 B, .int .i64 K1, .int .i64 N1, .float .f64 f1, .slice au lu cu, .int .i64 L, .int .i64 M, .float .f64 f2, .slice av lv cv] 42))
          case g2 => intro u hu; simp only [List.mem_cons, List.not_mem_nil, or_false] at hu; rcases hu with rfl | rfl | rfl | rfl | rfl | rfl | rfl | rfl | rfl | rfl | rfl | rfl <;> rfl
          case g3 => exact HS2.out.size
          intro a8 c8 w9 o8 g8
          have HN := hid (PickR.push (f := (f1, f2)) O7.out F7.out B7.out Q7.out S7.out (by have := HM.out; omega) HX2.out HRr.out HU.out HV.out HG.out o8 g8)
          have HS8 := hid (HS2.out.grown g8 HS2.out.size (fun r hr => (O7.out.lt r hr).1))
          clear o8 g8 O7
          go_wp2_with fail
          go_roundw
          case rel => exact ⟨j + 1, k + 1, c8, a8, by omega, by go_num, rfl, by omega, hid (by rw [HQ2.out]; simp [HKK.out]), hid (by rw [HQ2.out]; exact HN.out), HS8⟩
          case measure => simp [intOf]; omega
        · have HQ2 := hid (show (rs.take (j + 1)).filter (verW K N f kn zs) = (rs.take j).filter (verW K N f kn zs) by rw [HStep.out, decide_eq_false hcc]; simp)
          go_wp2_with fail
          go_roundw
          case rel => exact ⟨j + 1, k, c2, a2, by omega, by go_num, rfl, by omega, hid (by rw [HQ2.out]; exact HKK.out), hid (by rw [HQ2.out]; exact HP.out.skip), HS⟩
          case measure => simp [intOf]; omega
      · have hlt' : ¬ (j : Int) < (m : Int) := by omega
        go_wp2_with fail
        go_ret
        have ej : rs.take j = rs := List.take_of_length_le (by rw [HM.out]; omega)
        have hK := HKK.out
        have hP := HP.out
        rw [ej] at hK hP
        rw [HD.out]
        exact ⟨_, rfl, (hP.own hK HLO.out).mono HLO0.out (Nat.le_refl _), by omega, HB.out.trans (HS.out.mono HB.out.size)⟩
end Go.Proofs.YtebhipicfgnajaaGreat
