/- The contract of the laws' markRecordS at a list of the call's own. Conditions: sizes of at most 2^21, numbers of at most 10^9. -/
import Derived.Test.YtdlddgejpcbofaaRl
namespace Go.Proofs.Ytdlddgejpcbofaa
open Go.RowKit
set_option maxRecDepth 100000

set_option maxHeartbeats 12800000 in
theorem markRecordS {lo hi n : Nat} {v : Value} {ys : List Value} {rs : List Rc} {w : World} (k : Int) (hl : rs.length = n) (hy : ys.length = n) (hn : n ≤ 2097152) (ht : tr rs ≤ 20971520) (hk0 : 0 ≤ k) (hk1 : k ≤ 500000000) (hb : ∀ i, (rs.getD i r0).D.length ≤ 2097152)
    (o : w.ownsRow lo 41 6 v n (cellsR rs ys)) (hB : Bands w lo hi ys (rs.map (·.D))) (htop : ∀ g, v.ownBlock = some g → g < hi) :
    Calls Try.prog 12 #[v, .int .i64 k] w fun e w' => e = .returned (.int .i64 (k + tr rs)) ∧ w'.ownsRow lo 41 6 v n (cellsR (mkR k rs) ys) ∧ Bands w' lo hi ys ((mkR k rs).map (·.D)) ∧ Within lo hi w w' := by
  rcases o.2 with ⟨rfl, h0⟩ | ⟨g, cap, cur, rfl, hlg, _⟩
  · subst h0
    obtain rfl : rs = [] := List.eq_nil_of_length_eq_zero hl
    have O2 := hid o
    have O3 := hid hB
    clear o hB
    go_enter Try.func12, Try.ntmps12
    go_wp2
    go_loopw [1, 5] (fun kk i wr => i = .int .i64 (0 : Nat) ∧ kk = .int .i64 k ∧ wr = w) (fun _ _ _ => 0)
    case atStart => exact ⟨rfl, rfl, rfl⟩
    case round =>
      obtain ⟨rfl, rfl, rfl⟩ := hrel
      go_wp2
      go_ret
      exact ⟨by simp [tr, tot], O2.out, O3.out, Within.refl _ _ _⟩
  · have O2 := hid o
    have O3 := hid hB
    have hgt := htop g rfl
    have HT0 := hid (And.intro hlg hgt)
    clear o hB htop hlg hgt
    go_enter Try.func12, Try.ntmps12
    go_wp2
    go_loopw [1, 5] (fun kk i wr => ∃ (j : Nat) (q : Int), j ≤ n ∧ i = .int .i64 j ∧ kk = .int .i64 q ∧ 0 ≤ q ∧ q ≤ 1000000000 ∧ Hid (q = k + tr (rs.take j)) ∧ Hid (wr.ownsRow lo 41 6 (.slice (some ⟨g, 0, none⟩) n cap) n (cellsR (mkR k (rs.take j) ++ rs.drop j) ys)) ∧ Hid (Bands wr lo hi ys ((mkR k (rs.take j) ++ rs.drop j).map (·.D))) ∧ Hid (Within lo hi w wr)) (fun _ i _ => n - (intOf i).toNat)
    case atStart => exact ⟨0, k, Nat.zero_le _, rfl, rfl, hk0, by omega, hid (by simp [tr, tot]), hid (by simpa [mkR] using O2.out), hid (by simpa [mkR] using O3.out), hid (Within.refl _ _ _)⟩
    case round =>
      obtain ⟨j, q, hj, rfl, rfl, hq0, hq1, HQ, hW, hB, hG⟩ := hrel
      by_cases hlt : j < n
      · have hlt' : (j : Int) < (n : Int) := by omega
        have hj0 : (0 : Int) ≤ (j : Int) := by omega
        have hlW : (mkR k (rs.take j) ++ rs.drop j).length = n := by rw [List.length_append, mkR_length, List.length_take, List.length_drop]; omega
        obtain ⟨hc0, hc1, hc2, hc3, hc4, hc5⟩ := cellR_at hlW hy hW.out hlt
        have ho := hB.out.own j
        rw [mapD_getD, mkdropR_at k rs j (by omega)] at ho
        have HT := hid (tr_step rs j (by omega))
        have HU := hid (tr_take rs (j + 1))
        have HSt := hid (set_mkR k rs j (by omega))
        have hbj := hb j
        generalize mkR k (rs.take j) ++ rs.drop j = wj at *
        generalize (rs.getD j r0).D = zs at *
        generalize wj.getD j r0 = p at *
        obtain ⟨m, hm'⟩ : ∃ m, zs.length = m := ⟨_, rfl⟩
        rw [hm'] at ho HT HSt hbj
        clear hm'
        simp only [Nat.add_zero] at hc0 hc1 hc2 hc3 hc4 hc5
        have R0 := hW.out.stored (j * 6 + 0) (.int .i64 q)
        have R1 := R0.1.stored (j * 6 + 1) (.int .i64 (q + 1))
        have R2 := R1.1.stored (j * 6 + 2) (.int .i64 (q + 2))
        have R3 := R2.1.stored (j * 6 + 3) (.int .i64 (q + 3))
        have R4 := R3.1.stored (j * 6 + 4) (.int .i64 (q + 4))
        have hcs := cellsR_set5 wj ys j ⟨q, q + 1, q + 2, q + 3, q + 4, marks (q + 5) m⟩ (by omega) (by omega)
        simp only [] at hcs
        have hN := R4.1
        rw [hcs] at hN
        simp only [Nat.add_zero] at R0 R1 R2 R3 R4 hN
        have fr0 : wr.frozen? ⟨g, j * 6, none⟩ = false := hW.out.frozenAt (j * 6)
        have fr1 : (wr.setCell ⟨g, j * 6, none⟩ (.int .i64 q)).frozen? ⟨g, j * 6 + 1, none⟩ = false := R0.1.frozenAt (j * 6 + 1)
        have fr2 : ((wr.setCell ⟨g, j * 6, none⟩ (.int .i64 q)).setCell ⟨g, j * 6 + 1, none⟩ (.int .i64 (q + 1))).frozen? ⟨g, j * 6 + 2, none⟩ = false := R1.1.frozenAt (j * 6 + 2)
        have fr3 : (((wr.setCell ⟨g, j * 6, none⟩ (.int .i64 q)).setCell ⟨g, j * 6 + 1, none⟩ (.int .i64 (q + 1))).setCell ⟨g, j * 6 + 2, none⟩ (.int .i64 (q + 2))).frozen? ⟨g, j * 6 + 3, none⟩ = false := R2.1.frozenAt (j * 6 + 3)
        have fr4 : ((((wr.setCell ⟨g, j * 6, none⟩ (.int .i64 q)).setCell ⟨g, j * 6 + 1, none⟩ (.int .i64 (q + 1))).setCell ⟨g, j * 6 + 2, none⟩ (.int .i64 (q + 2))).setCell ⟨g, j * 6 + 3, none⟩ (.int .i64 (q + 3))).frozen? ⟨g, j * 6 + 4, none⟩ = false := R3.1.frozenAt (j * 6 + 4)
        have hB0 := hB.out
        have B0' := hB0.beside R0.2 (fun i => owns_ne (hB0.own i) hW.out (by decide))
        have o0' := ho.kept R0.2 (owns_ne ho hW.out (by decide))
        have B1' := B0'.beside R1.2 (fun i => owns_ne (B0'.own i) R0.1 (by decide))
        have o1' := o0'.kept R1.2 (owns_ne o0' R0.1 (by decide))
        have B2' := B1'.beside R2.2 (fun i => owns_ne (B1'.own i) R1.1 (by decide))
        have o2' := o1'.kept R2.2 (owns_ne o1' R1.1 (by decide))
        have B3' := B2'.beside R3.2 (fun i => owns_ne (B2'.own i) R2.1 (by decide))
        have o3' := o2'.kept R3.2 (owns_ne o2' R2.1 (by decide))
        have B4' := B3'.beside R4.2 (fun i => owns_ne (B3'.own i) R3.1 (by decide))
        have o4' := o3'.kept R4.2 (owns_ne o3' R3.1 (by decide))
        have hGs := (((((hG.out).trans (Within.setCell wr (p := ⟨g, j * 6, none⟩) HT0.out (.int .i64 q))).trans (Within.setCell (wr.setCell ⟨g, j * 6, none⟩ (.int .i64 q)) (p := ⟨g, j * 6 + 1, none⟩) HT0.out (.int .i64 (q + 1)))).trans (Within.setCell ((wr.setCell ⟨g, j * 6, none⟩ (.int .i64 q)).setCell ⟨g, j * 6 + 1, none⟩ (.int .i64 (q + 1))) (p := ⟨g, j * 6 + 2, none⟩) HT0.out (.int .i64 (q + 2)))).trans (Within.setCell (((wr.setCell ⟨g, j * 6, none⟩ (.int .i64 q)).setCell ⟨g, j * 6 + 1, none⟩ (.int .i64 (q + 1))).setCell ⟨g, j * 6 + 2, none⟩ (.int .i64 (q + 2))) (p := ⟨g, j * 6 + 3, none⟩) HT0.out (.int .i64 (q + 3)))).trans (Within.setCell ((((wr.setCell ⟨g, j * 6, none⟩ (.int .i64 q)).setCell ⟨g, j * 6 + 1, none⟩ (.int .i64 (q + 1))).setCell ⟨g, j * 6 + 2, none⟩ (.int .i64 (q + 2))).setCell ⟨g, j * 6 + 3, none⟩ (.int .i64 (q + 3))) (p := ⟨g, j * 6 + 4, none⟩) HT0.out (.int .i64 (q + 4)))
        have a2 : q + 1 + 1 = q + 2 := by omega
        have a3 : q + 2 + 1 = q + 3 := by omega
        have a4 : q + 3 + 1 = q + 4 := by omega
        have a5 : q + 4 + 1 = q + 5 := by omega
        rcases ho.2 with ⟨hv, hm⟩ | ⟨g', cap', cur', hv, hrest⟩
        all_goals
          have HO := hid o4'
          have HR := hid hN
          have HBs := hid B4'
          have HGs := hid hGs
          rw [hv] at HO hc5
          have HV := hid hv
          clear hv ho R0 R1 R2 R3 R4 hB0 B0' o0' B1' o1' B2' o2' B3' o3' B4' o4' hGs hB hW hG hcs hN
          first | clear hm | clear hrest
          go_wp2_with fail
          refine (markByteS_any (q + 5) (by omega) (by omega) (by have := HT.out; have := HU.out; have := HQ.out; omega) HO.out).mono ?_
          rintro e w1 ⟨rfl, o1, g1⟩
          have hp := HBs.out.put (i := j) (z := marks (q + 5) m) (by rw [List.length_map]; omega) (by rw [HV.out]; exact g1) (by rw [HV.out, marks_length]; exact o1) (marks_bd (q + 5) m)
          rw [← List.map_set (f := fun x : Rc => x.D) (l := wj) (a := ⟨q, q + 1, q + 2, q + 3, q + 4, marks (q + 5) m⟩)] at hp
          have N1 := HR.out.kept g1 (owns_ne HR.out HO.out (by decide))
          have hSt := HSt.out
          rw [← HQ.out] at hSt
          unfold mkO at hSt
          rw [hSt] at hp N1
          have N1' := hid N1
          have N3 := hid hp
          have N4 := hid (HGs.out.trans (Within.grown g1 (fun k' hk' => by have := HBs.out.inr j; rw [HV.out] at this; exact this k' hk')))
          clear o1 g1 hp N1 hSt
          go_wp2_with fail
          go_roundw
          case rel => exact ⟨j + 1, q + 5 + m, by omega, by go_num, rfl, by omega, by have := HT.out; have := HU.out; have := HQ.out; omega, hid (by have := HT.out; have := HQ.out; omega), N1', N3, N4⟩
          case measure => simp [intOf]; omega
      · have hlt' : ¬ (j : Int) < (n : Int) := by omega
        go_wp2
        go_ret
        have hQ := HQ.out
        have h1 := hW.out
        have h3 := hB.out
        rw [List.take_of_length_le (by omega)] at hQ h1 h3
        rw [List.drop_eq_nil_of_le (by omega), List.append_nil] at h1 h3
        exact ⟨by rw [hQ]; rfl, h1, h3, hG.out⟩
end Go.Proofs.Ytdlddgejpcbofaa
