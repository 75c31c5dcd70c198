/- FnExactRecordOk's walk. -/
import Derived.Test.YtgdnjpdheghfoaaRo
import Derived.Deep.RegionHeld3
namespace Go.Proofs.Ytgdnjpdheghfoaa
open Go.RowKit
set_option maxRecDepth 100000

set_option maxHeartbeats 12800000 in
theorem exactRecordOk (K L X P S : Int) {ad : Option Addr} {n : Nat} (cap : Nat) {zs : List Int} {w : World} (h : Reads w ad n zs) (hm : n ≤ maxLen) :
    Calls Try.prog 5 #[.agg #[.int .i64 K, .int .i64 L, .int .i64 X, .int .i64 P, .int .i64 S, .slice ad n cap]] w fun e w' => e = .returned (.bool true) ∧ Below w.heap.size w w' := by
  unfold maxLen at hm
  have HA := hid (ArgR.new K L X P S cap h 43 w.heap.size rfl)
  have HB := hid (Below.alloc1 w (.cells #[.int .i64 K, .int .i64 L, .int .i64 X, .int .i64 P, .int .i64 S, .slice ad n cap] 43))
  have Hbd := hid h.bd
  clear h
  go_enter Try.func5, Try.ntmps5
  go_wp2_with fail
  refine (szRecord K L X P S ad n cap 1048576 (by omega) (by omega) (by omega) _).mono ?_
  rintro e w1 ⟨rfl, b⟩
  replace HA := hid (HA.out.below b (Nat.le_refl _))
  replace HB := hid (HB.out.trans (b.mono HB.out.size))
  clear b
  by_cases hbig : (1048576 : Int) < n
  · rw [show lft 1048576 n = -1 by unfold lft; rw [if_pos hbig]]
    go_wp2_with fail
    go_ret
    exact ⟨rfl, HB.out⟩
  obtain ⟨LF, hLF⟩ : ∃ L : Int, (1048576 : Int) - n = L := ⟨_, rfl⟩
  rw [show lft 1048576 n = LF by unfold lft; rw [if_neg hbig, hLF]]
  have hq : ¬ LF < 0 := by omega
  have hn : n ≤ 1048576 := by omega
  clear hbig hLF
  obtain ⟨c0, c1, c2, c3, c4, c5⟩ := HA.out.box
  go_wp2_with fail
  clear c0 c1 c2 c3 c4 c5 hq
  refine (toRecord K L X P S cap HA.out.reads (by omega)).mono ?_
  rintro e w2 ⟨g, rfl, o, b⟩
  replace HA := hid (HA.out.below b (Nat.le_refl _))
  replace HB := hid (HB.out.trans (b.mono HB.out.size))
  clear b o
  go_wp2_with fail
  refine (spec_RecordOk K L X P S (some ⟨g, 0, none⟩) n n _).mono ?_
  rintro e w3 ⟨rfl, b⟩
  replace HA := hid (HA.out.below b (Nat.le_refl _))
  replace HB := hid (HB.out.trans (b.mono HB.out.size))
  clear b
  obtain ⟨RR, hR⟩ : ∃ R, okRn K L X P S n = R := ⟨_, rfl⟩
  have HR := hid hR
  rw [hR]
  clear hR
  obtain ⟨c0, c1, c2, c3, c4, c5⟩ := HA.out.box
  go_wp2_with fail
  clear c0 c1 c2 c3 c4 c5
  refine (toRecord K L X P S cap HA.out.reads (by omega)).mono ?_
  rintro e w4 ⟨x, rfl, o, b⟩
  replace HA := hid (HA.out.below b (Nat.le_refl _))
  replace HB := hid (HB.out.trans (b.mono HB.out.size))
  obtain ⟨_, _, e1, rx, _⟩ := Reads.own o Hbd.out
  obtain ⟨rfl, _, rfl⟩ := Value.slice.inj e1
  have RX := hid rx
  clear o b e1 rx
  go_wp2_with fail
  have HX := hid (ArgR.new K L X P S n RX.out 36 w4.heap.size rfl)
  replace HA := hid (HA.out.alloc (.cells #[.int .i64 K, .int .i64 L, .int .i64 X, .int .i64 P, .int .i64 S, .slice (some ⟨x, 0, none⟩) n n] 36))
  replace HB := hid (HB.out.trans ((Below.alloc1 w4 (.cells #[.int .i64 K, .int .i64 L, .int .i64 X, .int .i64 P, .int .i64 S, .slice (some ⟨x, 0, none⟩) n n] 36)).mono HB.out.size))
  generalize w4.alloc (.cells #[.int .i64 K, .int .i64 L, .int .i64 X, .int .i64 P, .int .i64 S, .slice (some ⟨x, 0, none⟩) n n] 36) = t1 at *
  generalize w4.heap.size = GX at *
  clear RX
  refine (impl_RecordOk K L X P S (some ⟨x, 0, none⟩) n n _).mono ?_
  rintro e w5 ⟨rfl, b⟩
  rw [HR.out]
  have hRR : (RR != RR) = false := by cases RR <;> rfl
  replace HA := hid (HA.out.below b (Nat.le_refl _))
  replace HX := hid (HX.out.below b (Nat.le_refl _))
  replace HB := hid (HB.out.trans (b.mono HB.out.size))
  clear b
  obtain ⟨c0, c1, c2, c3, c4, c5⟩ := HA.out.box
  obtain ⟨d0, d1, d2, d3, d4, d5⟩ := HX.out.box
  go_wp2_with fail
  go_region_held3 (fun W => W.cell? ⟨w.heap.size, 0, none⟩ = some (.int .i64 K) ∧ W.cell? ⟨w.heap.size, 1, none⟩ = some (.int .i64 L) ∧ W.cell? ⟨w.heap.size, 2, none⟩ = some (.int .i64 X) ∧ W.cell? ⟨w.heap.size, 3, none⟩ = some (.int .i64 P) ∧ W.cell? ⟨w.heap.size, 4, none⟩ = some (.int .i64 S) ∧ W.cell? ⟨w.heap.size, 5, none⟩ = some (.slice ad n cap) ∧ W.cell? ⟨GX, 0, none⟩ = some (.int .i64 K) ∧ W.cell? ⟨GX, 1, none⟩ = some (.int .i64 L) ∧ W.cell? ⟨GX, 2, none⟩ = some (.int .i64 X) ∧ W.cell? ⟨GX, 3, none⟩ = some (.int .i64 P) ∧ W.cell? ⟨GX, 4, none⟩ = some (.int .i64 S) ∧ W.cell? ⟨GX, 5, none⟩ = some (.slice (some ⟨x, 0, none⟩) n n))
    (first | exact ⟨m0, m1, m2, m3, m4, m5, q0, q1, q2, q3, q4, q5⟩ | exact ⟨k0, k1, k2, k3, k4, k5, l0, l1, l2, l3, l4, l5⟩ | exact ⟨by simpa using c0, by simpa using c1, by simpa using c2, by simpa using c3, by simpa using c4, by simpa using c5, by simpa using d0, by simpa using d1, by simpa using d2, by simpa using d3, by simpa using d4, by simpa using d5⟩)
    (first
    | (go_at_call 26; refine (eqRecord K L X P S n n JX.out.reads JP.out (by omega)).mono ?_; rintro e w7 ⟨rfl, b⟩; have LA := hid (JA.out.below b (Nat.le_refl _)); have LX := hid (JX.out.below b (Nat.le_refl _)); have LB := hid (JB.out.trans (b.mono JB.out.size)); clear b; obtain ⟨m0, m1, m2, m3, m4, m5⟩ := LA.out.box; obtain ⟨q0, q1, q2, q3, q4, q5⟩ := LX.out.box)
    | (go_at_call 24; refine (toRecord K L X P S cap (HA.out.drewN _).reads (by omega)).mono ?_; rintro e w6 ⟨y, rfl, o, b⟩; have b0 := Below.trans (Below.drewN (B := w5.heap.size) w5 _) (b.mono (Nat.le_refl _)); have JA := hid (HA.out.below b0 (Nat.le_refl _)); have JX := hid (HX.out.below b0 (Nat.le_refl _)); have JB := hid (HB.out.trans (b0.mono HB.out.size)); obtain ⟨_, _, e1, ry, _⟩ := Reads.own o Hbd.out; obtain ⟨rfl, _, rfl⟩ := Value.slice.inj e1; have JP := hid ry; clear o b b0 e1 ry; obtain ⟨k0, k1, k2, k3, k4, k5⟩ := JA.out.box; obtain ⟨l0, l1, l2, l3, l4, l5⟩ := JX.out.box))
  clear c0 c1 c2 c3 c4 c5 d0 d1 d2 d3 d4 d5 k0 k1 k2 k3 k4 k5 l0 l1 l2 l3 l4 l5 m0 m1 m2 m3 m4 m5 q0 q1 q2 q3 q4 q5 JP JA JX JB HA HX HB
  go_wp2_with fail
  go_ret
  exact ⟨rfl, LB.out⟩
end Go.Proofs.Ytgdnjpdheghfoaa
