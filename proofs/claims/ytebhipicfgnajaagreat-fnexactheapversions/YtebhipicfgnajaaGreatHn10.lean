/- The contract of the laws' markRowS. Conditions: rows of at most 2^21 bytes together. -/
import Derived.Test.YtebhipicfgnajaaGreatHm10
namespace Go.Proofs.YtebhipicfgnajaaGreat
open Go.RowKit
set_option maxRecDepth 100000

set_option maxHeartbeats 6400000 in
theorem markRowS {lo hi : Nat} {a : Option Addr} {n : Nat} (c : Nat) {rs : List Rw} {w : World} (k : Int) (h : OwnRw w lo hi (.slice a n c) rs) (hl : rs.length = n) (hn : n ≤ 2097152) (hs : sumR rs ≤ 2097152) (hk0 : 0 ≤ k) (hk1 : k ≤ 400000000) :
    Calls Tryz.prog 44 #[.slice a n c, .int .i64 k] w fun e w' => e = .returned (.int .i64 (k + sumR rs)) ∧ OwnRw w' lo hi (.slice a n c) (mkRs k rs) ∧ Within lo hi w w' := by
  obtain ⟨fs, xs, o, hf, hB, hq⟩ := h.own
  have HT := hid h.top
  have hxl : xs.length = n * 2 := by rw [hB.len, textsR_len, hl]
  rw [hl] at o hf
  have HO := hid o
  have HF := hid hf
  have HBB := hid hB
  have HQ := hid hq
  clear h o hB hq hf
  go_enter Tryz.func44, Tryz.ntmps44
  go_wp2
  go_loopw [1, 5] (fun x i wr => ∃ (j : Nat) (fs : List (Nat × Nat)), j ≤ n ∧ i = .int .i64 j ∧ x = .int .i64 (k + sumR (rs.take j)) ∧ Hid (fs.length = n) ∧ Hid (∀ q, q < n → SameR ((mkRs k (rs.take j) ++ rs.drop j).getD q rw0) (fs.getD q (0, 0))) ∧ Hid (wr.ownsRow lo 42 12 (.slice a n c) n (cellsRw (mkRs k (rs.take j) ++ rs.drop j) fs xs)) ∧ Hid (Bands wr lo hi xs (textsR (mkRs k (rs.take j) ++ rs.drop j))) ∧ Hid (Within lo hi w wr)) (fun _ i _ => n - (intOf i).toNat)
  case atStart => exact ⟨0, fs, Nat.zero_le _, rfl, by simp [sumR], HF, hid (by simpa [mkRs, hl] using HQ.out), hid (by simpa [mkRs] using HO.out), hid (by simpa [mkRs] using HBB.out), hid (Within.refl _ _ _)⟩
  case round =>
    clear HO HF HBB HQ
    obtain ⟨j, fs, hj, rfl, rfl, HF, HQ, HO, HB, HW⟩ := hrel
    by_cases hlt : j < n
    · have hlt' : (j : Int) < (n : Int) := by omega
      have hj0 : (0 : Int) ≤ (j : Int) := by omega
      have hpl : (mkRs k (rs.take j) ++ rs.drop j).length = n := by rw [List.length_append, mkRs_length, List.length_take, List.length_drop]; omega
      have HSet := hid (set_mkRs k rs j (by omega))
      have hat := mkdropR_at k rs j (by omega)
      have HStep := hid (sumR_step rs j (by omega))
      have hz1 := sumR_take rs (j + 1)
      obtain ⟨X, hX⟩ : ∃ X : Int, k + sumR (rs.take j) = X := ⟨_, rfl⟩
      have hX0 : 0 ≤ X ∧ X ≤ 440000000 := by have := sumR_take rs j; omega
      rw [hX] at HSet ⊢
      have HX := hid hX
      generalize mkRs k (rs.take j) ++ rs.drop j = qs at *
      have hrow : ∃ g, a = some ⟨g, 0, none⟩ := by
        rcases HO.out.2 with ⟨_, h0⟩ | ⟨g, cap, cur, e, _⟩
        · omega
        · cases e; exact ⟨g, rfl⟩
      obtain ⟨g, rfl⟩ := hrow
      have hca := fun q (hq : q < 12) => (HO.out.cellAt (j * 12 + q) (by omega)).trans (cellsRw_at qs fs xs j q (by rw [HF.out, hpl]) (by omega) (by omega) hq)
      rw [hat] at hca
      have hfr : ∀ q, wr.frozen? ⟨g, j * 12 + q, none⟩ = false := fun q => HO.out.frozenAt (j * 12 + q)
      have hr1 := HB.out.own (j * 2)
      have hr2 := HB.out.own (j * 2 + 1)
      rw [(textsR_at qs j).1, hat] at hr1
      rw [(textsR_at qs j).2, hat] at hr2
      obtain ⟨a1, c1, e1⟩ := own_sl hr1
      obtain ⟨a2, c2, e2⟩ := own_sl hr2
      rw [e1, e2] at hca
      generalize rs.getD j rw0 = r at *
      obtain ⟨P, S, A, B, K, N, F, Z, L, M, G, Y, okk⟩ := r
      generalize fs.getD j (0, 0) = ff at hca
      obtain ⟨f1, f2⟩ := ff
      simp only [nmR] at HStep hr1 hr2
      obtain ⟨zl, hzl⟩ : ∃ zl, Z.length = zl := ⟨_, rfl⟩
      obtain ⟨yl, hyl⟩ : ∃ yl, Y.length = yl := ⟨_, rfl⟩
      simp only at e1 e2
      rw [hzl] at e1
      rw [hyl] at e2
      have hzy : zl + yl ≤ 2097152 := by have := HStep.out; omega
      have x0 : wr.cell? ⟨g, j * 12, none⟩ = some (.int .i64 P) := by have := hca 0 (by omega); simpa [cellsOne, hzl, hyl] using this
      have y0 : wr.frozen? ⟨g, j * 12, none⟩ = false := hfr 0
      have x1 : wr.cell? ⟨g, j * 12 + 1, none⟩ = some (.int .i64 S) := by have := hca 1 (by omega); simpa [cellsOne, hzl, hyl] using this
      have y1 : wr.frozen? ⟨g, j * 12 + 1, none⟩ = false := hfr 1
      have x2 : wr.cell? ⟨g, j * 12 + 2, none⟩ = some (.int .i64 A) := by have := hca 2 (by omega); simpa [cellsOne, hzl, hyl] using this
      have y2 : wr.frozen? ⟨g, j * 12 + 2, none⟩ = false := hfr 2
      have x3 : wr.cell? ⟨g, j * 12 + 3, none⟩ = some (.int .i64 B) := by have := hca 3 (by omega); simpa [cellsOne, hzl, hyl] using this
      have y3 : wr.frozen? ⟨g, j * 12 + 3, none⟩ = false := hfr 3
      have x4 : wr.cell? ⟨g, j * 12 + 4, none⟩ = some (.int .i64 K) := by have := hca 4 (by omega); simpa [cellsOne, hzl, hyl] using this
      have y4 : wr.frozen? ⟨g, j * 12 + 4, none⟩ = false := hfr 4
      have x5 : wr.cell? ⟨g, j * 12 + 5, none⟩ = some (.int .i64 N) := by have := hca 5 (by omega); simpa [cellsOne, hzl, hyl] using this
      have y5 : wr.frozen? ⟨g, j * 12 + 5, none⟩ = false := hfr 5
      have x6 : wr.cell? ⟨g, j * 12 + 6, none⟩ = some (.float .f64 f1) := by have := hca 6 (by omega); simpa [cellsOne, hzl, hyl] using this
      have y6 : wr.frozen? ⟨g, j * 12 + 6, none⟩ = false := hfr 6
      have x7 : wr.cell? ⟨g, j * 12 + 7, none⟩ = some (.slice a1 zl c1) := by have := hca 7 (by omega); simpa [cellsOne, hzl, hyl] using this
      have y7 : wr.frozen? ⟨g, j * 12 + 7, none⟩ = false := hfr 7
      have x8 : wr.cell? ⟨g, j * 12 + 8, none⟩ = some (.int .i64 L) := by have := hca 8 (by omega); simpa [cellsOne, hzl, hyl] using this
      have y8 : wr.frozen? ⟨g, j * 12 + 8, none⟩ = false := hfr 8
      have x9 : wr.cell? ⟨g, j * 12 + 9, none⟩ = some (.int .i64 M) := by have := hca 9 (by omega); simpa [cellsOne, hzl, hyl] using this
      have y9 : wr.frozen? ⟨g, j * 12 + 9, none⟩ = false := hfr 9
      have x10 : wr.cell? ⟨g, j * 12 + 10, none⟩ = some (.float .f64 f2) := by have := hca 10 (by omega); simpa [cellsOne, hzl, hyl] using this
      have y10 : wr.frozen? ⟨g, j * 12 + 10, none⟩ = false := hfr 10
      have x11 : wr.cell? ⟨g, j * 12 + 11, none⟩ = some (.slice a2 yl c2) := by have := hca 11 (by omega); simpa [cellsOne, hzl, hyl] using this
      have y11 : wr.frozen? ⟨g, j * 12 + 11, none⟩ = false := hfr 11
      have HCA := hid hca
      clear hca hfr
      have hst := fun w a z m => run_store Tryz.prog w a (.float .f64 (floatOfInt .f64 z)) m rfl
      go_wp2_with fail
      have hqj : qs.getD j rw0 = ⟨P, S, ⟨A, B, K, N, F, Z, L, M, G, Y, okk⟩⟩ := hat
      have HQJ := hid hqj
      have H1 := hid (show fs.length = qs.length by rw [HF.out, hpl])
      have H2 := hid (show xs.length = qs.length * 2 by omega)
      have H3 := hid (show j < qs.length by omega)
      have O0 : wr.ownsRow lo 42 12 (.slice (some ⟨g, 0, none⟩) n c) n (cellsRw (qs.set j ⟨P, S, ⟨A, B, K, N, F, Z, L, M, G, Y, okk⟩⟩) fs xs) := by rw [← hqj, set_self qs j H3.out]; exact HO.out
      have hgin : lo ≤ g ∧ g < hi := ⟨(HO.out.lt g rfl).1, HT.out g rfl⟩
      have S0 := (O0).stored (j * 12) (.int .i64 (X))
      have O1 : World.ownsRow (wr.setCell ⟨g, j * 12, none⟩ (.int .i64 (X))) lo 42 12 (.slice (some ⟨g, 0, none⟩) n c) n (cellsRw (qs.set j ⟨X, S, ⟨A, B, K, N, F, Z, L, M, G, Y, okk⟩⟩) fs xs) := by rw [← cws_p (X) qs fs xs j ⟨P, S, ⟨A, B, K, N, F, Z, L, M, G, Y, okk⟩⟩ H1.out H2.out H3.out]; exact S0.1
      have B1 := (HB.out).beside S0.2 (fun i => owns_ne ((HB.out).own i) O0 (by decide))
      have V1 := (HW.out).trans (Within.setCell _ (p := ⟨g, j * 12, none⟩) hgin (.int .i64 (X)))
      have S1 := (O1).stored (j * 12 + 1) (.int .i64 (X + 1))
      have O2 : World.ownsRow ((wr.setCell ⟨g, j * 12, none⟩ (.int .i64 (X))).setCell ⟨g, j * 12 + 1, none⟩ (.int .i64 (X + 1))) lo 42 12 (.slice (some ⟨g, 0, none⟩) n c) n (cellsRw (qs.set j ⟨X, X + 1, ⟨A, B, K, N, F, Z, L, M, G, Y, okk⟩⟩) fs xs) := by rw [← cws_s (X + 1) qs fs xs j ⟨X, S, ⟨A, B, K, N, F, Z, L, M, G, Y, okk⟩⟩ H1.out H2.out H3.out]; exact S1.1
      have B2 := (B1).beside S1.2 (fun i => owns_ne ((B1).own i) O1 (by decide))
      have V2 := (V1).trans (Within.setCell _ (p := ⟨g, j * 12 + 1, none⟩) hgin (.int .i64 (X + 1)))
      have S2 := (O2).stored (j * 12 + 2) (.int .i64 (X + 1 + 1))
      have O3 : World.ownsRow (((wr.setCell ⟨g, j * 12, none⟩ (.int .i64 (X))).setCell ⟨g, j * 12 + 1, none⟩ (.int .i64 (X + 1))).setCell ⟨g, j * 12 + 2, none⟩ (.int .i64 (X + 1 + 1))) lo 42 12 (.slice (some ⟨g, 0, none⟩) n c) n (cellsRw (qs.set j ⟨X, X + 1, ⟨X + 1 + 1, B, K, N, F, Z, L, M, G, Y, okk⟩⟩) fs xs) := by rw [← cws_A (X + 1 + 1) qs fs xs j ⟨X, X + 1, ⟨A, B, K, N, F, Z, L, M, G, Y, okk⟩⟩ H1.out H2.out H3.out]; exact S2.1
      have B3 := (B2).beside S2.2 (fun i => owns_ne ((B2).own i) O2 (by decide))
      have V3 := (V2).trans (Within.setCell _ (p := ⟨g, j * 12 + 2, none⟩) hgin (.int .i64 (X + 1 + 1)))
      have S3 := (O3).stored (j * 12 + 2 + 1) (.int .i64 (X + 1 + 1 + 1))
      have O4 : World.ownsRow ((((wr.setCell ⟨g, j * 12, none⟩ (.int .i64 (X))).setCell ⟨g, j * 12 + 1, none⟩ (.int .i64 (X + 1))).setCell ⟨g, j * 12 + 2, none⟩ (.int .i64 (X + 1 + 1))).setCell ⟨g, j * 12 + 2 + 1, none⟩ (.int .i64 (X + 1 + 1 + 1))) lo 42 12 (.slice (some ⟨g, 0, none⟩) n c) n (cellsRw (qs.set j ⟨X, X + 1, ⟨X + 1 + 1, X + 1 + 1 + 1, K, N, F, Z, L, M, G, Y, okk⟩⟩) fs xs) := by rw [← cws_B (X + 1 + 1 + 1) qs fs xs j ⟨X, X + 1, ⟨X + 1 + 1, B, K, N, F, Z, L, M, G, Y, okk⟩⟩ H1.out H2.out H3.out]; exact S3.1
      have B4 := (B3).beside S3.2 (fun i => owns_ne ((B3).own i) O3 (by decide))
      have V4 := (V3).trans (Within.setCell _ (p := ⟨g, j * 12 + 2 + 1, none⟩) hgin (.int .i64 (X + 1 + 1 + 1)))
      have S4 := (O4).stored (j * 12 + 4) (.int .i64 (X + 1 + 1 + 1 + 1))
      have O5 : World.ownsRow (((((wr.setCell ⟨g, j * 12, none⟩ (.int .i64 (X))).setCell ⟨g, j * 12 + 1, none⟩ (.int .i64 (X + 1))).setCell ⟨g, j * 12 + 2, none⟩ (.int .i64 (X + 1 + 1))).setCell ⟨g, j * 12 + 2 + 1, none⟩ (.int .i64 (X + 1 + 1 + 1))).setCell ⟨g, j * 12 + 4, none⟩ (.int .i64 (X + 1 + 1 + 1 + 1))) lo 42 12 (.slice (some ⟨g, 0, none⟩) n c) n (cellsRw (qs.set j ⟨X, X + 1, ⟨X + 1 + 1, X + 1 + 1 + 1, X + 1 + 1 + 1 + 1, N, F, Z, L, M, G, Y, okk⟩⟩) fs xs) := by rw [← cws_K (X + 1 + 1 + 1 + 1) qs fs xs j ⟨X, X + 1, ⟨X + 1 + 1, X + 1 + 1 + 1, K, N, F, Z, L, M, G, Y, okk⟩⟩ H1.out H2.out H3.out]; exact S4.1
      have B5 := (B4).beside S4.2 (fun i => owns_ne ((B4).own i) O4 (by decide))
      have V5 := (V4).trans (Within.setCell _ (p := ⟨g, j * 12 + 4, none⟩) hgin (.int .i64 (X + 1 + 1 + 1 + 1)))
      have S5 := (O5).stored (j * 12 + 2 + 2 + 1) (.int .i64 (X + 1 + 1 + 1 + 1 + 1))
      have O6 : World.ownsRow ((((((wr.setCell ⟨g, j * 12, none⟩ (.int .i64 (X))).setCell ⟨g, j * 12 + 1, none⟩ (.int .i64 (X + 1))).setCell ⟨g, j * 12 + 2, none⟩ (.int .i64 (X + 1 + 1))).setCell ⟨g, j * 12 + 2 + 1, none⟩ (.int .i64 (X + 1 + 1 + 1))).setCell ⟨g, j * 12 + 4, none⟩ (.int .i64 (X + 1 + 1 + 1 + 1))).setCell ⟨g, j * 12 + 2 + 2 + 1, none⟩ (.int .i64 (X + 1 + 1 + 1 + 1 + 1))) lo 42 12 (.slice (some ⟨g, 0, none⟩) n c) n (cellsRw (qs.set j ⟨X, X + 1, ⟨X + 1 + 1, X + 1 + 1 + 1, X + 1 + 1 + 1 + 1, X + 1 + 1 + 1 + 1 + 1, F, Z, L, M, G, Y, okk⟩⟩) fs xs) := by rw [← cws_N (X + 1 + 1 + 1 + 1 + 1) qs fs xs j ⟨X, X + 1, ⟨X + 1 + 1, X + 1 + 1 + 1, X + 1 + 1 + 1 + 1, N, F, Z, L, M, G, Y, okk⟩⟩ H1.out H2.out H3.out]; exact S5.1
      have B6 := (B5).beside S5.2 (fun i => owns_ne ((B5).own i) O5 (by decide))
      have V6 := (V5).trans (Within.setCell _ (p := ⟨g, j * 12 + 2 + 2 + 1, none⟩) hgin (.int .i64 (X + 1 + 1 + 1 + 1 + 1)))
      have S6 := (O6).stored (j * 12 + 2 + 2 + 2) (.float .f64 (floatOfInt .f64 (X + 1 + 1 + 1 + 1 + 1 + 1)))
      have O7 : World.ownsRow (((((((wr.setCell ⟨g, j * 12, none⟩ (.int .i64 (X))).setCell ⟨g, j * 12 + 1, none⟩ (.int .i64 (X + 1))).setCell ⟨g, j * 12 + 2, none⟩ (.int .i64 (X + 1 + 1))).setCell ⟨g, j * 12 + 2 + 1, none⟩ (.int .i64 (X + 1 + 1 + 1))).setCell ⟨g, j * 12 + 4, none⟩ (.int .i64 (X + 1 + 1 + 1 + 1))).setCell ⟨g, j * 12 + 2 + 2 + 1, none⟩ (.int .i64 (X + 1 + 1 + 1 + 1 + 1))).setCell ⟨g, j * 12 + 2 + 2 + 2, none⟩ (.float .f64 (floatOfInt .f64 (X + 1 + 1 + 1 + 1 + 1 + 1)))) lo 42 12 (.slice (some ⟨g, 0, none⟩) n c) n (cellsRw (qs.set j ⟨X, X + 1, ⟨X + 1 + 1, X + 1 + 1 + 1, X + 1 + 1 + 1 + 1, X + 1 + 1 + 1 + 1 + 1, F, Z, L, M, G, Y, okk⟩⟩) (fs.set j (floatOfInt .f64 (X + 1 + 1 + 1 + 1 + 1 + 1), (fs.getD j (0, 0)).2)) xs) := by rw [← cw_F (floatOfInt .f64 (X + 1 + 1 + 1 + 1 + 1 + 1)) (qs.set j ⟨X, X + 1, ⟨X + 1 + 1, X + 1 + 1 + 1, X + 1 + 1 + 1 + 1, X + 1 + 1 + 1 + 1 + 1, F, Z, L, M, G, Y, okk⟩⟩) fs xs j (by rw [List.length_set]; exact H1.out) (by rw [List.length_set]; exact H2.out) (by rw [List.length_set]; exact H3.out)]; exact S6.1
      have B7 := (B6).beside S6.2 (fun i => owns_ne ((B6).own i) O6 (by decide))
      have V7 := (V6).trans (Within.setCell _ (p := ⟨g, j * 12 + 2 + 2 + 2, none⟩) hgin (.float .f64 (floatOfInt .f64 (X + 1 + 1 + 1 + 1 + 1 + 1))))
      have r7 := B7.own (j * 2)
      rw [(textsR_at qs j).1, hqj, e1] at r7
      simp only at r7
      rw [hzl] at r7
      have i7 := B7.inr (j * 2)
      rw [e1] at i7
      have K7 := hid O7
      have BB7 := hid B7
      have R7 := hid r7
      have I7 := hid i7
      have VV7 := hid V7
      clear S0 O0 B1 V1 S1 O1 B2 V2 S2 O2 B3 V3 S3 O3 B4 V4 S4 O4 B5 V5 S5 O5 B6 V6 S6 O6 B7 V7 O7 r7 i7 x0 y0 x1 y1 x2 y2 x3 y3 x4 y4 x5 y5 x6 y6 x7 y7 x8 y8 x9 y9 x10 y10 x11 y11
      clear hr1 hr2 HB HO HW hqj hat
      refine (markByteS_any (X + 1 + 1 + 1 + 1 + 1 + 1 + 1) (by omega) (by omega) (by omega) R7.out).mono ?_
      rintro e W8 ⟨rfl, o8, g8⟩
      have k8 := K7.out.kept g8 (owns_ne K7.out R7.out (by decide))
      have b8 := BB7.out.put (i := j * 2) (by rw [textsR_len]; omega) (z := marks (X + 1 + 1 + 1 + 1 + 1 + 1 + 1) zl) (by rw [e1]; exact g8) (by rw [e1, marks_length]; exact o8) (marks_bd _ _)
      have v8 := VV7.out.trans (Within.grown g8 I7.out)
      have hF8 : (fs.set j (floatOfInt .f64 (X + 1 + 1 + 1 + 1 + 1 + 1), (fs.getD j (0, 0)).2)).length = qs.length := by rw [List.length_set]; exact H1.out
      have hca := fun q (hq : q < 12) => (k8.cellAt (j * 12 + q) (by omega)).trans (cellsRw_at (qs.set j ⟨X, X + 1, ⟨X + 1 + 1, X + 1 + 1 + 1, X + 1 + 1 + 1 + 1, X + 1 + 1 + 1 + 1 + 1, F, Z, L, M, G, Y, okk⟩⟩) (fs.set j (floatOfInt .f64 (X + 1 + 1 + 1 + 1 + 1 + 1), (fs.getD j (0, 0)).2)) xs j q (by rw [List.length_set, List.length_set]; exact H1.out) (by rw [List.length_set]; exact H2.out) (by rw [List.length_set]; exact H3.out) hq)
      rw [getD_set_rw _ _ _ H3.out, e1, e2] at hca
      generalize (fs.set j (floatOfInt .f64 (X + 1 + 1 + 1 + 1 + 1 + 1), (fs.getD j (0, 0)).2)).getD j (0, 0) = ff at hca
      obtain ⟨h1, h2⟩ := ff
      have x8 : W8.cell? ⟨g, j * 12 + 8, none⟩ = some (.int .i64 L) := by have := hca 8 (by omega); simpa [cellsOne, hzl, hyl] using this
      have y8 : W8.frozen? ⟨g, j * 12 + 8, none⟩ = false := k8.frozenAt (j * 12 + 8)
      have x9 : W8.cell? ⟨g, j * 12 + 9, none⟩ = some (.int .i64 M) := by have := hca 9 (by omega); simpa [cellsOne, hzl, hyl] using this
      have y9 : W8.frozen? ⟨g, j * 12 + 9, none⟩ = false := k8.frozenAt (j * 12 + 9)
      have x10 : W8.cell? ⟨g, j * 12 + 10, none⟩ = some (.float .f64 h2) := by have := hca 10 (by omega); simpa [cellsOne, hzl, hyl] using this
      have y10 : W8.frozen? ⟨g, j * 12 + 10, none⟩ = false := k8.frozenAt (j * 12 + 10)
      have x11 : W8.cell? ⟨g, j * 12 + 11, none⟩ = some (.slice a2 yl c2) := by have := hca 11 (by omega); simpa [cellsOne, hzl, hyl] using this
      have y11 : W8.frozen? ⟨g, j * 12 + 11, none⟩ = false := k8.frozenAt (j * 12 + 11)
      have K8 := hid k8
      have BB8 := hid b8
      have VV8 := hid v8
      clear k8 b8 v8 hca o8 g8 K7 BB7 R7 I7 VV7
      obtain ⟨Q, hQ⟩ : ∃ Q : Int, X + 1 + 1 + 1 + 1 + 1 + 1 + 1 + (zl : Int) = Q := ⟨_, rfl⟩
      rw [hQ]
      have HQ9 := hid hQ
      have hQ0 : 0 ≤ Q ∧ Q ≤ 450000000 := by omega
      clear hQ
      go_wp2_with fail
      have hH8 : (fs.set j (floatOfInt .f64 (X + 1 + 1 + 1 + 1 + 1 + 1), (fs.getD j (0, 0)).2)).length = qs.length := by rw [List.length_set]; exact H1.out
      have S0 := (K8.out).stored (j * 12 + 8) (.int .i64 Q)
      have O1 : World.ownsRow (W8.setCell ⟨g, j * 12 + 8, none⟩ (.int .i64 Q)) lo 42 12 (.slice (some ⟨g, 0, none⟩) n c) n (cellsRw (qs.set j ⟨X, X + 1, ⟨X + 1 + 1, X + 1 + 1 + 1, X + 1 + 1 + 1 + 1, X + 1 + 1 + 1 + 1 + 1, F, Z, Q, M, G, Y, okk⟩⟩) (fs.set j (floatOfInt .f64 (X + 1 + 1 + 1 + 1 + 1 + 1), (fs.getD j (0, 0)).2)) xs) := by rw [← cws_L (Q) qs (fs.set j (floatOfInt .f64 (X + 1 + 1 + 1 + 1 + 1 + 1), (fs.getD j (0, 0)).2)) xs j ⟨X, X + 1, ⟨X + 1 + 1, X + 1 + 1 + 1, X + 1 + 1 + 1 + 1, X + 1 + 1 + 1 + 1 + 1, F, Z, L, M, G, Y, okk⟩⟩ hH8 H2.out H3.out]; exact S0.1
      have B1 := (BB8.out).beside S0.2 (fun i => owns_ne ((BB8.out).own i) (K8.out) (by decide))
      have V1 := (VV8.out).trans (Within.setCell _ (p := ⟨g, j * 12 + 8, none⟩) hgin (.int .i64 Q))
      have S1 := (O1).stored (j * 12 + 2 + 6 + 1) (.int .i64 (Q + 1))
      have O2 : World.ownsRow ((W8.setCell ⟨g, j * 12 + 8, none⟩ (.int .i64 Q)).setCell ⟨g, j * 12 + 2 + 6 + 1, none⟩ (.int .i64 (Q + 1))) lo 42 12 (.slice (some ⟨g, 0, none⟩) n c) n (cellsRw (qs.set j ⟨X, X + 1, ⟨X + 1 + 1, X + 1 + 1 + 1, X + 1 + 1 + 1 + 1, X + 1 + 1 + 1 + 1 + 1, F, Z, Q, Q + 1, G, Y, okk⟩⟩) (fs.set j (floatOfInt .f64 (X + 1 + 1 + 1 + 1 + 1 + 1), (fs.getD j (0, 0)).2)) xs) := by rw [← cws_M (Q + 1) qs (fs.set j (floatOfInt .f64 (X + 1 + 1 + 1 + 1 + 1 + 1), (fs.getD j (0, 0)).2)) xs j ⟨X, X + 1, ⟨X + 1 + 1, X + 1 + 1 + 1, X + 1 + 1 + 1 + 1, X + 1 + 1 + 1 + 1 + 1, F, Z, Q, M, G, Y, okk⟩⟩ hH8 H2.out H3.out]; exact S1.1
      have B2 := (B1).beside S1.2 (fun i => owns_ne ((B1).own i) (O1) (by decide))
      have V2 := (V1).trans (Within.setCell _ (p := ⟨g, j * 12 + 2 + 6 + 1, none⟩) hgin (.int .i64 (Q + 1)))
      have S2 := (O2).stored (j * 12 + 2 + 6 + 2) (.float .f64 (floatOfInt .f64 (Q + 1 + 1)))
      have O3 : World.ownsRow (((W8.setCell ⟨g, j * 12 + 8, none⟩ (.int .i64 Q)).setCell ⟨g, j * 12 + 2 + 6 + 1, none⟩ (.int .i64 (Q + 1))).setCell ⟨g, j * 12 + 2 + 6 + 2, none⟩ (.float .f64 (floatOfInt .f64 (Q + 1 + 1)))) lo 42 12 (.slice (some ⟨g, 0, none⟩) n c) n (cellsRw (qs.set j ⟨X, X + 1, ⟨X + 1 + 1, X + 1 + 1 + 1, X + 1 + 1 + 1 + 1, X + 1 + 1 + 1 + 1 + 1, F, Z, Q, Q + 1, G, Y, okk⟩⟩) (fs.set j (floatOfInt .f64 (X + 1 + 1 + 1 + 1 + 1 + 1), floatOfInt .f64 (Q + 1 + 1))) xs) := by
        have e3 := cw_H (floatOfInt .f64 (Q + 1 + 1)) (qs.set j ⟨X, X + 1, ⟨X + 1 + 1, X + 1 + 1 + 1, X + 1 + 1 + 1 + 1, X + 1 + 1 + 1 + 1 + 1, F, Z, Q, Q + 1, G, Y, okk⟩⟩) (fs.set j (floatOfInt .f64 (X + 1 + 1 + 1 + 1 + 1 + 1), (fs.getD j (0, 0)).2)) xs j (by rw [List.length_set, List.length_set]; exact H1.out) (by rw [List.length_set]; exact H2.out) (by rw [List.length_set]; exact H3.out)
        rw [getD_set' fs j j _ (0, 0) (by rw [H1.out]; exact H3.out), if_pos rfl, List.set_set] at e3
        rw [← e3]; exact S2.1
      have B3 := (B2).beside S2.2 (fun i => owns_ne ((B2).own i) (O2) (by decide))
      have V3 := (V2).trans (Within.setCell _ (p := ⟨g, j * 12 + 2 + 6 + 2, none⟩) hgin (.float .f64 (floatOfInt .f64 (Q + 1 + 1))))
      have r7 := B3.own (j * 2 + 1)
      rw [getD_set' _ _ _ _ [] (by rw [textsR_len]; omega), if_neg (by omega), (textsR_at qs j).2, HQJ.out, e2] at r7
      simp only at r7
      rw [hyl] at r7
      have i7 := B3.inr (j * 2 + 1)
      rw [e2] at i7
      have K9 := hid O3
      have BB9 := hid B3
      have R9 := hid r7
      have I9 := hid i7
      have VV9 := hid V3
      clear S0 S1 S2 O1 O2 O3 B1 B2 B3 V1 V2 V3 r7 i7 x8 x9 x10 x11 y8 y9 y10 y11 K8 BB8 VV8
      refine (markByteS_any (Q + 1 + 1 + 1) (by omega) (by omega) (by omega) R9.out).mono ?_
      rintro e W10 ⟨rfl, o10, g10⟩
      have k10 := K9.out.kept g10 (owns_ne K9.out R9.out (by decide))
      have b10 := BB9.out.put (i := j * 2 + 1) (by rw [List.length_set, textsR_len]; omega) (z := marks (Q + 1 + 1 + 1) yl) (by rw [e2]; exact g10) (by rw [e2, marks_length]; exact o10) (marks_bd _ _)
      have v10 := VV9.out.trans (Within.grown g10 I9.out)
      have hmk : mkR1 X ⟨P, S, ⟨A, B, K, N, F, Z, L, M, G, Y, okk⟩⟩ = ⟨X, X + 1, ⟨X + 2, X + 3, X + 4, X + 5, flI (X + 6), marks (X + 7) zl, X + 7 + zl, X + 8 + zl, flI (X + 9 + zl), marks (X + 10 + zl) yl, okk⟩⟩ := by simp only [mkR1, hzl, hyl]
      have q10 := HQ9.out
      have hOn : W10.ownsRow lo 42 12 (.slice (some ⟨g, 0, none⟩) n c) n (cellsRw (qs.set j (mkR1 X ⟨P, S, ⟨A, B, K, N, F, Z, L, M, G, Y, okk⟩⟩)) (fs.set j (floatOfInt .f64 (X + 1 + 1 + 1 + 1 + 1 + 1), floatOfInt .f64 (Q + 1 + 1))) xs) := by
        have e4 := cw_t (mkR1 X ⟨P, S, ⟨A, B, K, N, F, Z, L, M, G, Y, okk⟩⟩) (qs.set j ⟨X, X + 1, ⟨X + 1 + 1, X + 1 + 1 + 1, X + 1 + 1 + 1 + 1, X + 1 + 1 + 1 + 1 + 1, F, Z, Q, Q + 1, G, Y, okk⟩⟩) (fs.set j (floatOfInt .f64 (X + 1 + 1 + 1 + 1 + 1 + 1), floatOfInt .f64 (Q + 1 + 1))) xs j (by rw [List.length_set, List.length_set]; exact H1.out) (by rw [List.length_set]; exact H2.out) (by rw [List.length_set]; exact H3.out) (by rw [getD_set_rw _ _ _ H3.out, hmk]; refine ⟨rfl, rfl, ?_, ?_, ?_, ?_, ?_, ?_⟩ <;> simp only <;> omega)
        rw [List.set_set] at e4
        rw [← e4]; exact k10
      have hBn : Bands W10 lo hi xs (textsR (qs.set j (mkR1 X ⟨P, S, ⟨A, B, K, N, F, Z, L, M, G, Y, okk⟩⟩))) := by
        rw [textsR_set _ _ _ H3.out, hmk]
        simp only
        rw [show X + 7 = X + 1 + 1 + 1 + 1 + 1 + 1 + 1 by omega, show X + 10 + (zl : Int) = Q + 1 + 1 + 1 by omega]
        exact b10
      have hQn : ∀ q, q < n → SameR ((qs.set j (mkR1 X ⟨P, S, ⟨A, B, K, N, F, Z, L, M, G, Y, okk⟩⟩)).getD q rw0) ((fs.set j (floatOfInt .f64 (X + 1 + 1 + 1 + 1 + 1 + 1), floatOfInt .f64 (Q + 1 + 1))).getD q (0, 0)) := by
        intro q hq
        rw [getD_set' qs j q _ rw0 H3.out, getD_set' fs j q _ (0, 0) (by rw [H1.out]; exact H3.out)]
        by_cases e : q = j
        · rw [if_pos e, if_pos e, hmk]
          have z1 := flI_ok (z := X + 6) (by omega) (by omega)
          have z2 := flI_ok (z := X + 9 + zl) (by omega) (by omega)
          refine ⟨?_, ?_, ?_, ?_⟩ <;> simp only
          · rw [show X + 1 + 1 + 1 + 1 + 1 + 1 = X + 6 by omega]; exact Same.refl _
          · rw [show Q + 1 + 1 = X + 9 + zl by omega]; exact Same.refl _
          · rw [show X + 1 + 1 + 1 + 1 + 1 + 1 = X + 6 by omega]; exact z1.1
          · rw [show Q + 1 + 1 = X + 9 + zl by omega]; exact z2.1
        · rw [if_neg e, if_neg e]; exact HQ.out q hq
      rw [HSet.out] at hOn hBn hQn
      have N1 := hid hOn
      have N2 := hid hBn
      have N3 := hid hQn
      have N4 := hid v10
      have N5 := hid (show (fs.set j (floatOfInt .f64 (X + 1 + 1 + 1 + 1 + 1 + 1), floatOfInt .f64 (Q + 1 + 1))).length = n by rw [List.length_set]; exact HF.out)
      have N6 := hid (show Q + 1 + 1 + 1 + (yl : Int) = k + sumR (rs.take (j + 1)) by have := HStep.out; have := HX.out; omega)
      rw [N6.out]
      clear hOn hBn hQn v10 k10 b10 o10 g10 K9 BB9 R9 I9 VV9 hmk q10
      go_wp2_with fail
      go_roundw
      case rel => exact ⟨j + 1, (fs.set j (floatOfInt .f64 (X + 1 + 1 + 1 + 1 + 1 + 1), floatOfInt .f64 (Q + 1 + 1))), by omega, by go_num, rfl, N5, N3, N1, N2, N4⟩
      case measure => simp [intOf]; omega
    · have hlt' : ¬ (j : Int) < (n : Int) := by omega
      have hjn : j = n := by omega
      subst hjn
      go_wp2
      go_ret
      have e0 : mkRs k (rs.take j) ++ rs.drop j = mkRs k rs := by rw [List.take_of_length_le (by omega), List.drop_eq_nil_of_le (by omega), List.append_nil]
      have e1 := HO.out
      have e2 := HB.out
      have e3 := HQ.out
      rw [e0] at e1 e2 e3
      exact ⟨by rw [List.take_of_length_le (by omega)]; rfl, ⟨⟨fs, xs, by rw [mkRs_length, hl]; exact e1, by rw [mkRs_length, hl]; exact HF.out, e2, fun i hi => e3 i (by rw [mkRs_length] at hi; omega)⟩, HT.out⟩, HW.out⟩
end Go.Proofs.YtebhipicfgnajaaGreat
