/- The contracts of the specification's DiskOk and of the program's. Conditions: lists of at most 2^21. -/
import Derived.Test.YtnnnehjlegjejaaDoorDm
import Derived.Test.YtnnnehjlegjejaaDoorAl
namespace Go.Proofs.YtnnnehjlegjejaaDoor
open Go.RowKit

theorem okD_head {d : Dk} (h : okH d = false) : okD d = false := by unfold okD; rw [h]; rfl
theorem okD_S {d : Dk} (h : okS d.S = false) : okD d = false := by unfold okD; rw [h]; cases okH d <;> rfl
theorem okD_W {d : Dk} (h : okH d = true) (h' : okS d.S = true) : okD d = okW d.S.length d.W := by unfold okD; rw [h, h']; rfl

set_option maxRecDepth 100000 in
set_option maxHeartbeats 3200000 in
theorem spec_DiskOk {aS aW : Option Addr} {nS nW : Nat} (cS cW : Nat) {ss : List (List Int)} {ws : List (Int × List Int)} (F : Int) (D : Bool) {w : World} (h : ReadsD w aS aW ss ws) (lS : ss.length = nS) (lW : ws.length = nW) :
    Calls Tryd.prog 13 #[.agg #[.slice aS nS cS, .slice aW nW cW, .int .i64 F, .bool D]] w fun e w' => e = .returned (.bool (okD ⟨ss, ws, F, D⟩)) ∧ Below w.heap.size w w' := by
  have hA := Below.alloc1 w (.cells #[.slice aS nS cS, .slice aW nW cW, .int .i64 F, .bool D] 27)
  have X0 := heap_alloc_new w (.cells #[.slice aS nS cS, .slice aW nW cW, .int .i64 F, .bool D] 27)
  have z := alloc_size w (.cells #[.slice aS nS cS, .slice aW nW cW, .int .i64 F, .bool D] 27)
  by_cases hH : okH ⟨ss, ws, F, D⟩ = true
  · have hh := of_decide_eq_true (show decide _ = true from hH)
    simp only [lS, lW] at hh
    obtain ⟨g1, g2, g3, g4⟩ := hh
    have q1 : ¬ (nS : Int) < 1 := by omega
    have q2 : ¬ (512 : Int) < nS := by omega
    have q3 : ¬ (600 : Int) < nW := by omega
    have q4 : ¬ F < -1 := by omega
    have HHd := hid hH
    have HA := hid hA
    have h1 := hid (h.below hA (Nat.le_refl _))
    have HX := hid X0
    have HZ := hid z
    clear hH h hA X0 z
    go_enter Tryd.func13, Tryd.ntmps13
    go_wp2
    generalize w.alloc (.cells #[.slice aS nS cS, .slice aW nW cW, .int .i64 F, .bool D] 27) = W at *
    have c0 : W.cell? ⟨w.heap.size, 0, none⟩ = some (.slice aS nS cS) := by rw [cell_of_row _ _ _ _ _ _ HX.out]; rfl
    go_loopw [3] (fun i wr => ∃ k : Nat, k ≤ nS ∧ i = .int .i64 k ∧ Hid (okS ss = okS (ss.drop k)) ∧ wr = W) (fun i _ => nS - (intOf i).toNat)
    case atStart => exact ⟨0, Nat.zero_le _, rfl, hid rfl, rfl⟩
    case round =>
      obtain ⟨k, hk, rfl, HO, hw⟩ := hrel
      obtain rfl := hw.symm
      by_cases hlt : k < nS
      · have hlt' : (k : Int) < (nS : Int) := by omega
        have hk0 : (0 : Int) ≤ (k : Int) := by omega
        rcases h1.out.s.cells with h0 | ⟨b, off, rfl, hc⟩
        · omega
        obtain ⟨v, hcx, a, c, rfl, hr0, _, _⟩ := hc k (by omega)
        have HT := hid (okS_step ss k (by omega))
        generalize ss.getD k [] = zs at *
        obtain ⟨m, hm⟩ : ∃ m, zs.length = m := ⟨_, rfl⟩
        rw [hm] at hcx HT
        clear hc hr0 hm
        by_cases hm : m = 64
        · subst hm
          go_wp2
          go_roundw
          case rel => exact ⟨k + 1, by omega, by go_num, hid (by rw [HO.out, HT.out]; rfl), by first | trivial | rfl⟩
          case measure => simp [intOf]; omega
        · have q : ((m : Int) != 64) = true := by simp; omega
          have HM := hid hm
          go_wp2
          go_ret
          refine ⟨?_, HA.out⟩
          rw [okD_S (d := ⟨ss, ws, F, D⟩) (by rw [HO.out, HT.out, decide_eq_false HM.out]; rfl)]
          rfl
      · have hlt' : ¬ (k : Int) < (nS : Int) := by omega
        have HS := hid (show okS ss = true by rw [HO.out]; exact okS_end ss k (by omega))
        have HD := hid (okD_W HHd.out HS.out)
        go_wp2
        go_loopw [4] (fun i u => ∃ k : Nat, k ≤ nW ∧ i = .int .i64 k ∧ Hid (okW nS ws = okW nS (ws.drop k)) ∧ Hid (Below (w.heap.size + 1) W u)) (fun i _ => nW - (intOf i).toNat)
        case atStart => exact ⟨0, Nat.zero_le _, rfl, hid rfl, hid (Below.refl _ _)⟩
        case round =>
          obtain ⟨k, hk, rfl, HO, HB⟩ := hrel
          have Y0 := (HB.out.block w.heap.size (by omega)).trans HX.out
          have d0 : wr.cell? ⟨w.heap.size, 0, none⟩ = some (.slice aS nS cS) := by rw [cell_of_row _ _ _ _ _ _ Y0]; rfl
          have d1 : wr.cell? ⟨w.heap.size, 1, none⟩ = some (.slice aW nW cW) := by rw [cell_of_row _ _ _ _ _ _ Y0]; rfl
          have hzu : w.heap.size < wr.heap.size := by have := HB.out.size; have := HZ.out; omega
          have hne : ¬ w.heap.size = wr.heap.size := by omega
          have HBw := hid (HA.out.trans (HB.out.mono (by omega)))
          clear Y0
          by_cases hlt2 : k < nW
          · have hlt' : (k : Int) < (nW : Int) := by omega
            have hk0 : (0 : Int) ≤ (k : Int) := by omega
            rcases h1.out.w.cells with h0 | ⟨b, off, rfl, hc⟩
            · omega
            obtain ⟨hca0, v, hcx0, a, c, rfl, hr0, _, _⟩ := hc k (by omega)
            have bl := World.block_lt_of_cell? W _ hca0
            have hbl : b < w.heap.size + 1 := by have := HZ.out; simpa [this] using bl
            have hca := (HB.out.cell (p := ⟨b, off + k * 2, none⟩) hbl).trans hca0
            have hcx := (HB.out.cell (p := ⟨b, off + k * 2 + 1, none⟩) hbl).trans hcx0
            have hnb : ¬ b = wr.heap.size := by omega
            have HT := hid (okW_step nS ws k (by omega))
            generalize ws.getD k w0 = p at *
            obtain ⟨A, zs⟩ := p
            obtain ⟨m, hm⟩ : ∃ m, zs.length = m := ⟨_, rfl⟩
            simp only at hca hcx HT
            rw [hm] at hcx HT
            have HB2 := hid (HB.out.alloc (by omega) (.cells #[.int .i64 A, .slice a m c] 40))
            have HBw2 := hid (HBw.out.alloc (by omega) (.cells #[.int .i64 A, .slice a m c] 40))
            clear hc hr0 hm hca0 hcx0 bl
            by_cases e1 : A < 0
            · have HF := hid (show okW nS (ws.drop k) = false by rw [HT.out, decide_eq_false (by omega)]; rfl)
              go_wp2
              go_ret
              exact ⟨by rw [HD.out, lS, HO.out, HF.out]; rfl, HBw2.out⟩
            · by_cases e2 : (nS : Int) ≤ A
              · have HF := hid (show okW nS (ws.drop k) = false by rw [HT.out, decide_eq_false (by omega)]; rfl)
                go_wp2
                go_ret
                exact ⟨by rw [HD.out, lS, HO.out, HF.out]; rfl, HBw2.out⟩
              · by_cases e3 : m = 64
                · subst e3
                  have HF := hid (show okW nS (ws.drop k) = okW nS (ws.drop (k + 1)) by rw [HT.out, decide_eq_true (by omega)]; rfl)
                  go_wp2
                  go_roundw
                  case rel => exact ⟨k + 1, by omega, by go_num, hid (by rw [HO.out, HF.out]), HB2⟩
                  case measure => simp [intOf]; omega
                · have HF := hid (show okW nS (ws.drop k) = false by rw [HT.out, decide_eq_false (by omega)]; rfl)
                  have q : ((m : Int) != 64) = true := by simp; omega
                  go_wp2
                  go_ret
                  exact ⟨by rw [HD.out, lS, HO.out, HF.out]; rfl, HBw2.out⟩
          · have hlt' : ¬ (k : Int) < (nW : Int) := by omega
            have HF := hid (show okW nS (ws.drop k) = true from okW_end nS ws k (by omega))
            go_wp2
            go_ret
            exact ⟨by rw [HD.out, lS, HO.out, HF.out]; rfl, HBw.out⟩
  · have hH' : okH ⟨ss, ws, F, D⟩ = false := by simpa using hH
    have HE := hid (okD_head hH')
    have hh : ¬ (1 ≤ nS ∧ nS ≤ 512 ∧ nW ≤ 600 ∧ -1 ≤ F) := by
      have := of_decide_eq_false (show decide _ = false from hH')
      simpa only [lS, lW] using this
    have hh2 : (nS : Int) < 1 ∨ (¬ (nS : Int) < 1 ∧ (512 : Int) < nS) ∨ (¬ (nS : Int) < 1 ∧ ¬ (512 : Int) < nS ∧ (600 : Int) < nW) ∨ (¬ (nS : Int) < 1 ∧ ¬ (512 : Int) < nS ∧ ¬ (600 : Int) < nW ∧ F < -1) := by omega
    clear hh hH hH' h X0 z
    rcases hh2 with q1 | ⟨q1, q2⟩ | ⟨q1, q2, q3⟩ | ⟨q1, q2, q3, q4⟩
    all_goals
      go_enter Tryd.func13, Tryd.ntmps13
      go_wp2
      go_ret
      exact ⟨by rw [HE.out]; rfl, hA⟩
end Go.Proofs.YtnnnehjlegjejaaDoor
