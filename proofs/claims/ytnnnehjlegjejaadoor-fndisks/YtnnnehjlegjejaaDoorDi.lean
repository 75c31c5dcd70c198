/- The contracts of the program's has, fits and DiskOk. Conditions: none beside what is read. -/
import Derived.Test.YtnnnehjlegjejaaDoorDo
namespace Go.Proofs.YtnnnehjlegjejaaDoor
open Go.RowKit

def inS (at' : Int) (nS : Nat) : Bool := decide (0 ≤ at' ∧ at' < nS)
def fitS (at' : Int) (nS m : Nat) : Bool := decide (0 ≤ at' ∧ at' < nS ∧ m = 64)

set_option maxRecDepth 100000 in
theorem impl_has (g : Nat) (at' : Int) (aS : Option Addr) (nS cS : Nat) {w : World} (c0 : w.cell? ⟨g, 0, none⟩ = some (.slice aS nS cS)) :
    Calls Tryd.prog 40 #[.pointer (some ⟨g, 0, none⟩), .int .i64 at'] w fun e w' => e = .returned (.bool (inS at' nS)) ∧ w' = w := by
  by_cases h1 : 0 ≤ at'
  · by_cases h2 : at' < nS
    · rw [show inS at' nS = true from decide_eq_true ⟨h1, h2⟩]
      go_enter Tryd.func40, Tryd.ntmps40
      go_wp2
      go_ret
      exact ⟨rfl, rfl⟩
    · rw [show inS at' nS = false from decide_eq_false (by omega)]
      have h3 : (nS : Int) ≤ at' := by omega
      go_enter Tryd.func40, Tryd.ntmps40
      go_wp2
      go_ret
      exact ⟨rfl, rfl⟩
  · rw [show inS at' nS = false from decide_eq_false (by omega)]
    have h3 : at' < 0 := by omega
    go_enter Tryd.func40, Tryd.ntmps40
    go_wp2
    go_ret
    exact ⟨rfl, rfl⟩

set_option maxRecDepth 100000 in
theorem impl_fits (g : Nat) (at' : Int) (a : Option Addr) (m c : Nat) (aS : Option Addr) (nS cS : Nat) {w : World} (c0 : w.cell? ⟨g, 0, none⟩ = some (.slice aS nS cS)) :
    Calls Tryd.prog 36 #[.pointer (some ⟨g, 0, none⟩), .int .i64 at', .slice a m c] w fun e w' => e = .returned (.bool (fitS at' nS m)) ∧ w' = w := by
  have hh := impl_has g at' aS nS cS c0
  by_cases h1 : 0 ≤ at' ∧ at' < nS
  · rw [show inS at' nS = true from decide_eq_true h1] at hh
    by_cases h2 : m = 64
    · subst h2
      rw [show fitS at' nS 64 = true from decide_eq_true (by omega)]
      go_enter Tryd.func36, Tryd.ntmps36
      go_wp2_with fail
      refine hh.mono ?_
      rintro e w1 ⟨rfl, rfl⟩
      go_wp2_with fail
      go_ret
      exact ⟨rfl, rfl⟩
    · rw [show fitS at' nS m = false from decide_eq_false (by omega)]
      have q : ((m : Int) == 64) = false := by simp; omega
      go_enter Tryd.func36, Tryd.ntmps36
      go_wp2_with fail
      refine hh.mono ?_
      rintro e w1 ⟨rfl, rfl⟩
      go_wp2_with fail
      go_ret
      exact ⟨rfl, rfl⟩
  · rw [show inS at' nS = false from decide_eq_false h1] at hh
    rw [show fitS at' nS m = false from decide_eq_false (by omega)]
    go_enter Tryd.func36, Tryd.ntmps36
    go_wp2_with fail
    refine hh.mono ?_
    rintro e w1 ⟨rfl, rfl⟩
    go_wp2_with fail
    go_ret
    exact ⟨rfl, rfl⟩

set_option maxRecDepth 100000 in
set_option maxHeartbeats 3200000 in
theorem impl_DiskOk {aS aW : Option Addr} {nS nW : Nat} (cS cW : Nat) {ss : List (List Int)} {ws : List (Int × List Int)} (F : Int) (D : Bool) {w : World} (h : ReadsD w aS aW ss ws) (lS : ss.length = nS) (lW : ws.length = nW) :
    Calls Tryd.prog 12 #[.agg #[.slice aS nS cS, .slice aW nW cW, .int .i64 F, .bool D]] w fun e w' => e = .returned (.bool (okD ⟨ss, ws, F, D⟩)) ∧ Below w.heap.size w w' := by
  have hA := Below.alloc1 w (.cells #[.slice aS nS cS, .slice aW nW cW, .int .i64 F, .bool D] 27)
  have X0 := heap_alloc_new w (.cells #[.slice aS nS cS, .slice aW nW cW, .int .i64 F, .bool D] 27)
  have z := alloc_size w (.cells #[.slice aS nS cS, .slice aW nW cW, .int .i64 F, .bool D] 27)
  by_cases hH : okH ⟨ss, ws, F, D⟩ = true
  · have hh := of_decide_eq_true (show decide _ = true from hH)
    simp only [lS, lW] at hh
    obtain ⟨g1, g2, g3, g4⟩ := hh
    have q1 : ¬ (nS : Int) < 1 := by omega
    have q2 : ¬ (512 : Int) < nS := by omega
    have q3 : ¬ (600 : Int) < nW := by omega
    have q4 : ¬ F < -1 := by omega
    have HHd := hid hH
    have HA := hid hA
    have h1 := hid (h.below hA (Nat.le_refl _))
    have HX := hid X0
    have HZ := hid z
    clear hH h hA X0 z
    go_enter Tryd.func12, Tryd.ntmps12
    go_wp2
    generalize w.alloc (.cells #[.slice aS nS cS, .slice aW nW cW, .int .i64 F, .bool D] 27) = W at *
    have c1 : W.cell? ⟨w.heap.size, 1, none⟩ = some (.slice aW nW cW) := by rw [cell_of_row _ _ _ _ _ _ HX.out]; rfl
    go_loopw [31] (fun i wr => ∃ k : Nat, k ≤ nS ∧ i = .int .i64 k ∧ Hid (okS ss = okS (ss.drop k)) ∧ wr = W) (fun i _ => nS - (intOf i).toNat)
    case atStart => exact ⟨0, Nat.zero_le _, rfl, hid rfl, rfl⟩
    case round =>
      obtain ⟨k, hk, rfl, HO, hw⟩ := hrel
      obtain rfl := hw.symm
      by_cases hlt : k < nS
      · have hlt' : (k : Int) < (nS : Int) := by omega
        have hk0 : (0 : Int) ≤ (k : Int) := by omega
        rcases h1.out.s.cells with h0 | ⟨b, off, rfl, hc⟩
        · omega
        obtain ⟨v, hcx, a, c, rfl, hr0, _, _⟩ := hc k (by omega)
        have HT := hid (okS_step ss k (by omega))
        generalize ss.getD k [] = zs at *
        obtain ⟨m, hm⟩ : ∃ m, zs.length = m := ⟨_, rfl⟩
        rw [hm] at hcx HT
        clear hc hr0 hm
        by_cases hm : m = 64
        · subst hm
          go_wp2
          go_roundw
          case rel => exact ⟨k + 1, by omega, by go_num, hid (by rw [HO.out, HT.out]; rfl), by first | trivial | rfl⟩
          case measure => simp [intOf]; omega
        · have q : ((m : Int) != 64) = true := by simp; omega
          have HM := hid hm
          go_wp2
          go_ret
          refine ⟨?_, HA.out⟩
          rw [okD_S (d := ⟨ss, ws, F, D⟩) (by rw [HO.out, HT.out, decide_eq_false HM.out]; rfl)]
          rfl
      · have hlt' : ¬ (k : Int) < (nS : Int) := by omega
        have HS := hid (show okS ss = true by rw [HO.out]; exact okS_end ss k (by omega))
        have HD := hid (okD_W HHd.out HS.out)
        go_wp2
        go_loopw [42] (fun i u => ∃ k : Nat, k ≤ nW ∧ i = .int .i64 k ∧ Hid (okW nS ws = okW nS (ws.drop k)) ∧ Hid (Below (w.heap.size + 1) W u)) (fun i _ => nW - (intOf i).toNat)
        case atStart => exact ⟨0, Nat.zero_le _, rfl, hid rfl, hid (Below.refl _ _)⟩
        case round =>
          obtain ⟨k, hk, rfl, HO, HB⟩ := hrel
          have Y0 := (HB.out.block w.heap.size (by omega)).trans HX.out
          have d0 : wr.cell? ⟨w.heap.size, 0, none⟩ = some (.slice aS nS cS) := by rw [cell_of_row _ _ _ _ _ _ Y0]; rfl
          have hzu : w.heap.size < wr.heap.size := by have := HB.out.size; have := HZ.out; omega
          have hne : ¬ w.heap.size = wr.heap.size := by omega
          have HBw := hid (HA.out.trans (HB.out.mono (by omega)))
          clear Y0 c1
          by_cases hlt2 : k < nW
          · have hlt' : (k : Int) < (nW : Int) := by omega
            have hk0 : (0 : Int) ≤ (k : Int) := by omega
            rcases h1.out.w.cells with h0 | ⟨b, off, rfl, hc⟩
            · omega
            obtain ⟨hca0, v, hcx0, a, c, rfl, hr0, _, _⟩ := hc k (by omega)
            have bl := World.block_lt_of_cell? W _ hca0
            have hbl : b < w.heap.size + 1 := by have := HZ.out; simpa [this] using bl
            have hca := (HB.out.cell (p := ⟨b, off + k * 2, none⟩) hbl).trans hca0
            have hcx := (HB.out.cell (p := ⟨b, off + k * 2 + 1, none⟩) hbl).trans hcx0
            have HT := hid (okW_step nS ws k (by omega))
            generalize ws.getD k w0 = p at *
            obtain ⟨A, zs⟩ := p
            obtain ⟨m, hm⟩ : ∃ m, zs.length = m := ⟨_, rfl⟩
            simp only at hca hcx HT
            rw [hm] at hcx HT
            have HB2 := hid (HB.out.alloc (by omega) (.cells #[.int .i64 A, .slice a m c] 40))
            have HBw2 := hid (HBw.out.alloc (by omega) (.cells #[.int .i64 A, .slice a m c] 40))
            have hd0 : (wr.alloc (.cells #[.int .i64 A, .slice a m c] 40)).cell? ⟨w.heap.size, 0, none⟩ = some (.slice aS nS cS) := ((Below.alloc1 wr _).cell (p := ⟨w.heap.size, 0, none⟩) hzu).trans d0
            have HFi := hid (impl_fits w.heap.size A a m c aS nS cS hd0)
            clear hc hr0 hm hca0 hcx0 bl hd0
            by_cases e1 : 0 ≤ A ∧ A < nS ∧ m = 64
            · have HF := hid (show okW nS (ws.drop k) = okW nS (ws.drop (k + 1)) by rw [HT.out, decide_eq_true e1]; rfl)
              rw [show fitS A nS m = true from decide_eq_true e1] at HFi
              clear e1
              go_wp2_with fail
              refine HFi.out.mono ?_
              rintro e w1 ⟨rfl, rfl⟩
              go_wp2_with fail
              go_roundw
              case rel => exact ⟨k + 1, by omega, by go_num, hid (by rw [HO.out, HF.out]), HB2⟩
              case measure => simp [intOf]; omega
            · have HF := hid (show okW nS (ws.drop k) = false by rw [HT.out, decide_eq_false e1]; rfl)
              rw [show fitS A nS m = false from decide_eq_false e1] at HFi
              clear e1
              go_wp2_with fail
              refine HFi.out.mono ?_
              rintro e w1 ⟨rfl, rfl⟩
              go_wp2_with fail
              go_ret
              exact ⟨by rw [HD.out, lS, HO.out, HF.out]; rfl, HBw2.out⟩
          · have hlt' : ¬ (k : Int) < (nW : Int) := by omega
            have HF := hid (show okW nS (ws.drop k) = true from okW_end nS ws k (by omega))
            go_wp2
            go_ret
            exact ⟨by rw [HD.out, lS, HO.out, HF.out]; rfl, HBw.out⟩
  · have hH' : okH ⟨ss, ws, F, D⟩ = false := by simpa using hH
    have HE := hid (okD_head hH')
    have hh : ¬ (1 ≤ nS ∧ nS ≤ 512 ∧ nW ≤ 600 ∧ -1 ≤ F) := by
      have := of_decide_eq_false (show decide _ = false from hH')
      simpa only [lS, lW] using this
    have hh2 : (nS : Int) < 1 ∨ (¬ (nS : Int) < 1 ∧ (512 : Int) < nS) ∨ (¬ (nS : Int) < 1 ∧ ¬ (512 : Int) < nS ∧ (600 : Int) < nW) ∨ (¬ (nS : Int) < 1 ∧ ¬ (512 : Int) < nS ∧ ¬ (600 : Int) < nW ∧ F < -1) := by omega
    clear hh hH hH' h X0 z
    rcases hh2 with q1 | ⟨q1, q2⟩ | ⟨q1, q2, q3⟩ | ⟨q1, q2, q3, q4⟩
    all_goals
      go_enter Tryd.func12, Tryd.ntmps12
      go_wp2
      go_ret
      exact ⟨by rw [HE.out]; rfl, hA⟩
end Go.Proofs.YtnnnehjlegjejaaDoor
