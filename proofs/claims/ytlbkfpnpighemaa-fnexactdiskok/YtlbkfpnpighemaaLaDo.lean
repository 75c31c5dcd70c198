/- FnExactDiskOk's walk. -/
import Derived.Test.YtlbkfpnpighemaaDt3
import Derived.Test.YtlbkfpnpighemaaDe
import Derived.Test.YtlbkfpnpighemaaDi
import Derived.Test.YtlbkfpnpighemaaDa
namespace Go.Proofs.Ytlbkfpnpighemaa
open Go.RowKit

set_option maxRecDepth 100000 in
set_option maxHeartbeats 12800000 in
theorem exactDiskOk {aS aW : Option Addr} {nS nW : Nat} (cS cW : Nat) {ss : List (List Int)} {ws : List (Int × List Int)} (F : Int) (D : Bool) {w : World} (h : ReadsD w aS aW ss ws) (lS : ss.length = nS) (lW : ws.length = nW) (hS : nS ≤ maxLen) (hW : nW ≤ maxLen) :
    Calls Try.prog 5 #[.agg #[.slice aS nS cS, .slice aW nW cW, .int .i64 F, .bool D]] w fun e w' => e = .returned (.bool true) ∧ Below w.heap.size w w' := by
  unfold maxLen at hS hW
  have HA := hid (ArgD.new (nS := nS) (nW := nW) cS cW F D h 43 w.heap.size rfl)
  have HB := hid (Below.alloc1 w (.cells #[.slice aS nS cS, .slice aW nW cW, .int .i64 F, .bool D] 43))
  go_enter Try.func5, Try.ntmps5
  go_wp2_with fail
  refine (szDisk cS cW F D HA.out.reads lS lW (by omega) (by omega)).mono ?_
  rintro e w1 ⟨rfl, b⟩
  replace HA := hid (HA.out.below b (Nat.le_refl _))
  replace HB := hid (HB.out.trans (b.mono HB.out.size))
  clear b
  by_cases hbig : (1048576 : Int) < szOf ss ws
  · rw [show lft 1048576 (szOf ss ws) = -1 by unfold lft; rw [if_pos hbig]]
    go_wp2_with fail
    go_ret
    exact ⟨rfl, HB.out⟩
  obtain ⟨L, hL⟩ : ∃ L : Int, (1048576 : Int) - szOf ss ws = L := ⟨_, rfl⟩
  rw [show lft 1048576 (szOf ss ws) = L by unfold lft; rw [if_neg hbig, hL]]
  have hq : ¬ L < 0 := by omega
  obtain ⟨b1, b2, b3, b4, b5, b6⟩ := szOf_S (show szOf ss ws ≤ 1048576 by omega)
  have HS5 := hid (fun i => Nat.le_trans (b5 i) (show 1048576 ≤ 2097152 by omega))
  have HS6 := hid (fun i => Nat.le_trans (b6 i) (show 1048576 ≤ 2097152 by omega))
  have hnS : nS ≤ 1048576 := by omega
  have hnW : nW ≤ 1048576 := by omega
  clear hbig hL b1 b2 b3 b4 b5 b6 h
  obtain ⟨c0, c1, c2, c3⟩ := HA.out.box
  go_wp2_with fail
  clear c0 c1 c2 c3 hq
  refine (toDisk cS cW F D HA.out.reads lS lW (by omega) (by omega) HS5.out HS6.out).mono ?_
  rintro e w2 ⟨gS, gW, rfl, o, b⟩
  replace HA := hid (HA.out.below b (Nat.le_refl _))
  replace HB := hid (HB.out.trans (b.mono HB.out.size))
  have P := hid o.rd
  clear o b
  go_wp2_with fail
  refine (spec_DiskOk nS nW F D P.out lS lW).mono ?_
  rintro e w3 ⟨rfl, b⟩
  replace HA := hid (HA.out.below b (Nat.le_refl _))
  replace HB := hid (HB.out.trans (b.mono HB.out.size))
  clear b P
  obtain ⟨R, hR⟩ : ∃ R, okD ⟨ss, ws, F, D⟩ = R := ⟨_, rfl⟩
  have HR := hid hR
  rw [hR]
  clear hR
  obtain ⟨c0, c1, c2, c3⟩ := HA.out.box
  go_wp2_with fail
  clear c0 c1 c2 c3
  refine (toDisk cS cW F D HA.out.reads lS lW (by omega) (by omega) HS5.out HS6.out).mono ?_
  rintro e w4 ⟨xS, xW, rfl, o, b⟩
  replace HA := hid (HA.out.below b (Nat.le_refl _))
  replace HB := hid (HB.out.trans (b.mono HB.out.size))
  have P := hid o
  clear o b
  go_wp2_with fail
  have HX := hid (OwnB.new (nS := nS) (cS := nS) (nW := nW) (cW := nW) F D P.out 36 w4.heap.size rfl)
  replace HA := hid (HA.out.alloc (.cells #[.slice (some ⟨xS, 0, none⟩) nS nS, .slice (some ⟨xW, 0, none⟩) nW nW, .int .i64 F, .bool D] 36))
  replace HB := hid (HB.out.trans ((Below.alloc1 w4 (.cells #[.slice (some ⟨xS, 0, none⟩) nS nS, .slice (some ⟨xW, 0, none⟩) nW nW, .int .i64 F, .bool D] 36)).mono HB.out.size))
  generalize w4.alloc (.cells #[.slice (some ⟨xS, 0, none⟩) nS nS, .slice (some ⟨xW, 0, none⟩) nW nW, .int .i64 F, .bool D] 36) = t1 at *
  generalize w4.heap.size = GX at *
  clear P
  refine (impl_DiskOk nS nW F D HX.out.reads lS lW).mono ?_
  rintro e w5 ⟨rfl, b⟩
  rw [HR.out]
  have hRR : (R != R) = false := by cases R <;> rfl
  replace HA := hid (HA.out.below b (Nat.le_refl _))
  replace HX := hid (HX.out.below b (Nat.le_refl _))
  replace HB := hid (HB.out.trans (b.mono HB.out.size))
  clear b
  obtain ⟨c0, c1, c2, c3⟩ := HA.out.box
  obtain ⟨d0, d1, d2, d3⟩ := HX.out.box
  go_wp2_with fail
  go_region_held3 (fun W => W.cell? ⟨w.heap.size, 0, none⟩ = some (.slice aS nS cS) ∧ W.cell? ⟨w.heap.size, 1, none⟩ = some (.slice aW nW cW) ∧ W.cell? ⟨w.heap.size, 2, none⟩ = some (.int .i64 F) ∧ W.cell? ⟨w.heap.size, 3, none⟩ = some (.bool D) ∧ W.cell? ⟨GX, 0, none⟩ = some (.slice (some ⟨xS, 0, none⟩) nS nS) ∧ W.cell? ⟨GX, 1, none⟩ = some (.slice (some ⟨xW, 0, none⟩) nW nW) ∧ W.cell? ⟨GX, 2, none⟩ = some (.int .i64 F) ∧ W.cell? ⟨GX, 3, none⟩ = some (.bool D))
    (first | exact ⟨m0, m1, m2, m3, q0, q1, q2, q3⟩ | exact ⟨k0, k1, k2, k3, l0, l1, l2, l3⟩ | exact ⟨by simpa using c0, by simpa using c1, by simpa using c2, by simpa using c3, by simpa using d0, by simpa using d1, by simpa using d2, by simpa using d3⟩)
    (first
    | (go_at_call 17; refine (eqDisk nS nW nS nW F D JX.out.reads JP.out lS lW (by omega) (by omega) HS5.out HS6.out).mono ?_; rintro e w7 ⟨rfl, b⟩; have LA := hid (JA.out.below b (Nat.le_refl _)); have LX := hid (JX.out.below b (Nat.le_refl _)); have LB := hid (JB.out.trans (b.mono JB.out.size)); clear b; obtain ⟨m0, m1, m2, m3⟩ := LA.out.box; obtain ⟨q0, q1, q2, q3⟩ := LX.out.box)
    | (go_at_call 22; refine (toDisk cS cW F D (HA.out.drewN _).reads lS lW (by omega) (by omega) HS5.out HS6.out).mono ?_; rintro e w6 ⟨yS, yW, rfl, o, b⟩; have b0 := Below.trans (Below.drewN (B := w5.heap.size) w5 _) (b.mono (Nat.le_refl _)); have JA := hid (HA.out.below b0 (Nat.le_refl _)); have JX := hid (HX.out.below b0 (Nat.le_refl _)); have JB := hid (HB.out.trans (b0.mono HB.out.size)); have JP := hid o.rd; clear o b b0; obtain ⟨k0, k1, k2, k3⟩ := JA.out.box; obtain ⟨l0, l1, l2, l3⟩ := JX.out.box))
  clear c0 c1 c2 c3 d0 d1 d2 d3 k0 k1 k2 k3 l0 l1 l2 l3 m0 m1 m2 m3 q0 q1 q2 q3 JP JA JX JB HA HX HB
  go_wp2_with fail
  go_ret
  exact ⟨rfl, LB.out⟩
end Go.Proofs.Ytlbkfpnpighemaa
