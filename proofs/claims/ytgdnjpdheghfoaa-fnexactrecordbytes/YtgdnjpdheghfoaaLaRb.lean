/- FnExactRecordBytes' walk. -/
import Derived.Test.YtgdnjpdheghfoaaRbi
import Derived.Test.YtgdnjpdheghfoaaNz
import Derived.Deep.RegionHeld3
namespace Go.Proofs.Ytgdnjpdheghfoaa
open Go.RowKit
set_option maxRecDepth 100000

set_option maxHeartbeats 12800000 in
theorem exactRecordBytes (K L X P S : Int) {ad : Option Addr} {n : Nat} (cap : Nat) {zs : List Int} {w : World} (h : Reads w ad n zs) (hm : n ≤ maxLen) :
    Calls Try.prog 6 #[.agg #[.int .i64 K, .int .i64 L, .int .i64 X, .int .i64 P, .int .i64 S, .slice ad n cap]] w fun e w' => e = .returned (.bool true) ∧ Below w.heap.size w w' := by
  unfold maxLen at hm
  have HA := hid (ArgR.new K L X P S cap h 43 w.heap.size rfl)
  have HB := hid (Below.alloc1 w (.cells #[.int .i64 K, .int .i64 L, .int .i64 X, .int .i64 P, .int .i64 S, .slice ad n cap] 43))
  have Hbd := hid h.bd
  have hlb := bytesR_length (r := ⟨K, L, X, P, S, zs⟩) h.bd
  have hbb := bytesR_bd (r := ⟨K, L, X, P, S, zs⟩) h.bd
  obtain ⟨Z, hZ⟩ : ∃ Z, bytesR ⟨K, L, X, P, S, zs⟩ = Z := ⟨_, rfl⟩
  rw [hZ] at hlb hbb
  obtain ⟨N, hN⟩ : ∃ N, Z.length = N := ⟨_, rfl⟩
  rw [hN] at hlb
  have HZ := hid hZ
  have HN := hid hN
  have HBB := hid hbb
  clear h hZ hN hbb
  go_enter Try.func6, Try.ntmps6
  go_wp2_with fail
  generalize w.alloc (.cells #[.int .i64 K, .int .i64 L, .int .i64 X, .int .i64 P, .int .i64 S, .slice ad n cap] 43) = W0 at *
  have HA0 := HA
  have HW := hid (Below.refl W0.heap.size W0)
  refine (szRecord K L X P S ad n cap 1048576 (by omega) (by omega) (by omega) _).mono ?_
  rintro e w1 ⟨rfl, b⟩
  replace HA := hid (HA.out.below b (Nat.le_refl _))
  replace HW := hid (HW.out.trans (b.mono HW.out.size))
  clear b
  by_cases hbig : (1048576 : Int) < n
  · rw [show lft 1048576 n = -1 by unfold lft; rw [if_pos hbig]]
    go_wp2_with fail
    go_ret
    exact ⟨rfl, HB.out.trans (HW.out.mono HB.out.size)⟩
  obtain ⟨LF, hLF⟩ : ∃ L : Int, (1048576 : Int) - n = L := ⟨_, rfl⟩
  rw [show lft 1048576 n = LF by unfold lft; rw [if_neg hbig, hLF]]
  have hq : ¬ LF < 0 := by omega
  have hn : n ≤ 1048576 := by omega
  clear hbig hLF
  obtain ⟨c0, c1, c2, c3, c4, c5⟩ := HA.out.box
  go_wp2_with fail
  clear c0 c1 c2 c3 c4 c5
  clear hq
  refine (toRecord K L X P S cap HA.out.reads (by omega)).mono ?_
  rintro e w2 ⟨g, rfl, o, b⟩
  obtain ⟨_, _, e1, r, _⟩ := Reads.own o Hbd.out
  obtain ⟨rfl, _, rfl⟩ := Value.slice.inj e1
  have HP := hid r
  clear o e1 r
  replace HA := hid (HA.out.below b (Nat.le_refl _))
  replace HW := hid (HW.out.trans (b.mono HW.out.size))
  clear b
  go_wp2_with fail
  refine (spec_RecordBytes K L X P S n HP.out (fun h => by cases h)).mono ?_
  rintro e w3 ⟨v0, rfl, o, b⟩
  rw [HZ.out, HN.out] at o
  obtain ⟨a0, c0', rfl, r, d0, _⟩ := Reads.place o HBB.out
  have Q0 := hid r
  have D0 := hid d0
  clear o r d0 HP
  replace HA := hid (HA.out.below b (Nat.le_refl _))
  replace HW := hid (HW.out.trans (b.mono HW.out.size))
  have S3 := hid (And.intro HW.out.size b.size)
  clear b
  obtain ⟨c0, c1, c2, c3, c4, c5⟩ := HA.out.box
  go_wp2_with fail
  clear c0 c1 c2 c3 c4 c5
  refine (toRecord K L X P S cap HA.out.reads (by omega)).mono ?_
  rintro e w4 ⟨x, rfl, o, b⟩
  obtain ⟨_, _, e1, rx, dx, _⟩ := Reads.place o Hbd.out
  obtain ⟨rfl, _, rfl⟩ := Value.slice.inj e1
  have OX := hid o
  have RX := hid rx
  have DX := hid dx
  clear o e1 rx dx
  replace HA := hid (HA.out.below b (Nat.le_refl _))
  replace Q0 := hid (Q0.out.below b (Nat.le_refl _))
  replace HW := hid (HW.out.trans (b.mono HW.out.size))
  have S4 := hid b.size
  clear b
  go_wp2_with fail
  have bM := Below.alloc1 w4 (.cells #[.int .i64 K, .int .i64 L, .int .i64 X, .int .i64 P, .int .i64 S, .slice (some ⟨x, 0, none⟩) n n] 36)
  have HX := hid (ArgR.new K L X P S n RX.out 36 w4.heap.size rfl)
  have S5 := hid (alloc_size w4 (.cells #[.int .i64 K, .int .i64 L, .int .i64 X, .int .i64 P, .int .i64 S, .slice (some ⟨x, 0, none⟩) n n] 36))
  replace HA := hid (HA.out.below bM (Nat.le_refl _))
  replace Q0 := hid (Q0.out.below bM (Nat.le_refl _))
  replace OX := hid (owns_below bM (Nat.le_refl _) OX.out)
  replace RX := hid (RX.out.below bM (Nat.le_refl _))
  replace HW := hid (HW.out.trans (bM.mono HW.out.size))
  clear bM
  generalize w4.alloc (.cells #[.int .i64 K, .int .i64 L, .int .i64 X, .int .i64 P, .int .i64 S, .slice (some ⟨x, 0, none⟩) n n] 36) = t1 at *
  generalize w4.heap.size = GX at *
  refine (impl_RecordBytes K L X P S n RX.out (fun h => by cases h)).mono ?_
  rintro e w5 ⟨v1, rfl, o, b⟩
  rw [HZ.out, HN.out] at o
  obtain ⟨a1, c1', rfl, r, d1, _⟩ := Reads.place o HBB.out
  have Q1 := hid r
  have O1 := hid o
  have D1 := hid d1
  clear o r d1
  replace HA := hid (HA.out.below b (Nat.le_refl _))
  replace Q0 := hid (Q0.out.below b (Nat.le_refl _))
  replace OX := hid (owns_below b (Nat.le_refl _) OX.out)
  replace RX := hid (RX.out.below b (Nat.le_refl _))
  replace HX := hid (HX.out.below b (Nat.le_refl _))
  replace HW := hid (HW.out.trans (b.mono HW.out.size))
  have S6 := hid b.size
  clear b RX
  go_wp2_with fail
  refine (eqByteS_any c1' c0' Q1.out Q0.out (by omega)).mono ?_
  rintro e w6 ⟨rfl, s⟩
  have b := s.below w5.heap.size
  replace HA := hid (HA.out.below b (Nat.le_refl _))
  replace Q0 := hid (Q0.out.below b (Nat.le_refl _))
  replace OX := hid (owns_below b (Nat.le_refl _) OX.out)
  replace HX := hid (HX.out.below b (Nat.le_refl _))
  replace Q1 := hid (Q1.out.below b (Nat.le_refl _))
  replace O1 := hid (owns_below b (Nat.le_refl _) O1.out)
  replace HW := hid (HW.out.trans (b.mono HW.out.size))
  clear b s
  obtain ⟨c0, c1, c2, c3, c4, c5⟩ := HA.out.box
  obtain ⟨d0, d1, d2, d3, d4, d5⟩ := HX.out.box
  go_wp2_with fail
  go_region_held3 (fun W => W.cell? ⟨w.heap.size, 0, none⟩ = some (.int .i64 K) ∧ W.cell? ⟨w.heap.size, 1, none⟩ = some (.int .i64 L) ∧ W.cell? ⟨w.heap.size, 2, none⟩ = some (.int .i64 X) ∧ W.cell? ⟨w.heap.size, 3, none⟩ = some (.int .i64 P) ∧ W.cell? ⟨w.heap.size, 4, none⟩ = some (.int .i64 S) ∧ W.cell? ⟨w.heap.size, 5, none⟩ = some (.slice ad n cap) ∧ W.cell? ⟨GX, 0, none⟩ = some (.int .i64 K) ∧ W.cell? ⟨GX, 1, none⟩ = some (.int .i64 L) ∧ W.cell? ⟨GX, 2, none⟩ = some (.int .i64 X) ∧ W.cell? ⟨GX, 3, none⟩ = some (.int .i64 P) ∧ W.cell? ⟨GX, 4, none⟩ = some (.int .i64 S) ∧ W.cell? ⟨GX, 5, none⟩ = some (.slice (some ⟨x, 0, none⟩) n n))
    (first | exact ⟨m0, m1, m2, m3, m4, m5, q0, q1, q2, q3, q4, q5⟩ | exact ⟨k0, k1, k2, k3, k4, k5, l0, l1, l2, l3, l4, l5⟩ | exact ⟨by simpa using c0, by simpa using c1, by simpa using c2, by simpa using c3, by simpa using c4, by simpa using c5, by simpa using d0, by simpa using d1, by simpa using d2, by simpa using d3, by simpa using d4, by simpa using d5⟩)
    (first
    | (go_at_call 26; refine (eqRecord K L X P S n n JX.out.reads JP.out (by omega)).mono ?_; rintro e w8 ⟨rfl, b⟩; have LZ := hid (JZ.out.trans (b.mono JZ.out.size)); clear b; obtain ⟨m0, m1, m2, m3, m4, m5⟩ := (HA.out.below LZ.out (Nat.le_refl _)).box; obtain ⟨q0, q1, q2, q3, q4, q5⟩ := (HX.out.below LZ.out (Nat.le_refl _)).box)
    | (go_at_call 24; refine (toRecord K L X P S cap (HA.out.drewN _).reads (by omega)).mono ?_; rintro e w7 ⟨y, rfl, o, b⟩; have b0 := Below.trans (Below.drewN (B := w6.heap.size) w6 _) (b.mono (Nat.le_refl _)); have JX := hid (HX.out.below b0 (Nat.le_refl _)); have JZ := hid b0; obtain ⟨_, _, e1, ry, _⟩ := Reads.own o Hbd.out; obtain ⟨rfl, _, rfl⟩ := Value.slice.inj e1; have JP := hid ry; clear o b e1 ry; obtain ⟨k0, k1, k2, k3, k4, k5⟩ := (HA.out.below b0 (Nat.le_refl _)).box; obtain ⟨l0, l1, l2, l3, l4, l5⟩ := JX.out.box; clear b0))
  clear c0 c1 c2 c3 c4 c5 d0 d1 d2 d3 d4 d5 k0 k1 k2 k3 k4 k5 l0 l1 l2 l3 l4 l5 m0 m1 m2 m3 m4 m5 q0 q1 q2 q3 q4 q5 JP JX JZ
  replace HA := hid (HA.out.below LZ.out (Nat.le_refl _))
  replace Q0 := hid (Q0.out.below LZ.out (Nat.le_refl _))
  replace OX := hid (owns_below LZ.out (Nat.le_refl _) OX.out)
  replace HX := hid (HX.out.below LZ.out (Nat.le_refl _))
  replace Q1 := hid (Q1.out.below LZ.out (Nat.le_refl _))
  replace O1 := hid (owns_below LZ.out (Nat.le_refl _) O1.out)
  replace HW := hid (HW.out.trans (LZ.out.mono HW.out.size))
  clear LZ
  obtain ⟨d0, d1, d2, d3, d4, d5⟩ := HX.out.box
  go_wp2_with fail
  clear d0 d1 d2 d3 d4 d5
  refine (markRecord K L X P S 1 (by omega) (by omega) (by omega) OX.out).mono ?_
  rintro e w9 ⟨rfl, _, g9⟩
  have z3 := S3.out
  have z4 := S4.out
  have z5 := S5.out
  have z6 := S6.out
  replace O1 := hid (O1.out.kept g9 (D1.out.own DX.out (.inr (by omega))))
  replace Q0 := hid (Q0.out.other g9 (D0.out.ne DX.out (.inl (by omega))))
  replace Q1 := hid (Q1.out.other g9 (D1.out.ne DX.out (.inr (by omega))))
  replace HW := hid (HW.out.grown g9 HW.out.size (fun k hk => by have := DX.out.ge k hk; omega))
  replace HA := hid (HA0.out.below HW.out (Nat.le_refl _))
  clear g9 OX HX DX z3 z4 z5 z6
  have hn0 : 0 ≤ (n : Int) := by omega
  go_wp2_with fail
  refine (eqByteS_any c1' c0' Q1.out Q0.out (by omega)).mono ?_
  rintro e w10 ⟨rfl, s⟩
  have b := s.below w9.heap.size
  replace HA := hid (HA.out.below b (Nat.le_refl _))
  replace Q0 := hid (Q0.out.below b (Nat.le_refl _))
  replace Q1 := hid (Q1.out.below b (Nat.le_refl _))
  replace O1 := hid (owns_below b (Nat.le_refl _) O1.out)
  replace HW := hid (HW.out.trans (b.mono HW.out.size))
  clear b s Q1
  go_wp2_with fail
  refine (markByteS_any 1 (by omega) (by omega) (by omega) O1.out).mono ?_
  rintro e w11 ⟨rfl, o, g11⟩
  have z3 := S3.out
  have z4 := S4.out
  have z5 := S5.out
  have z6 := S6.out
  obtain ⟨_, _, e1, r, _⟩ := Reads.own o (marks_bd 1 N)
  obtain ⟨rfl, _, rfl⟩ := Value.slice.inj e1
  have HM := hid r
  replace Q0 := hid (Q0.out.other g11 (D0.out.ne D1.out (.inl (by omega))))
  replace HW := hid (HW.out.grown g11 HW.out.size (fun k hk => by have := D1.out.ge k hk; omega))
  replace HA := hid (HA0.out.below HW.out (Nat.le_refl _))
  clear o e1 r g11 O1 z3 z4 z5 z6
  have hN0 : 0 ≤ (N : Int) := by omega
  go_wp2_with fail
  refine (heldByteS_any c1' 1 HM.out (by omega) (by omega) (by omega)).mono ?_
  rintro e w12 ⟨rfl, rfl⟩
  obtain ⟨c0, c1, c2, c3, c4, c5⟩ := HA.out.box
  go_wp2_with fail
  clear c0 c1 c2 c3 c4 c5
  refine (toRecord K L X P S cap HA.out.reads (by omega)).mono ?_
  rintro e w13 ⟨g, rfl, o, b⟩
  obtain ⟨_, _, e1, r, _⟩ := Reads.own o Hbd.out
  obtain ⟨rfl, _, rfl⟩ := Value.slice.inj e1
  have HP := hid r
  clear o e1 r
  replace HA := hid (HA.out.below b (Nat.le_refl _))
  replace Q0 := hid (Q0.out.below b (Nat.le_refl _))
  replace HM := hid (HM.out.below b (Nat.le_refl _))
  replace HW := hid (HW.out.trans (b.mono HW.out.size))
  clear b
  go_wp2_with fail
  refine (impl_RecordBytes K L X P S n HP.out (fun h => by cases h)).mono ?_
  rintro e w14 ⟨v0, rfl, o, b⟩
  rw [HZ.out, HN.out] at o
  obtain ⟨a2, c2', rfl, r, _, _⟩ := Reads.place o HBB.out
  have Q2 := hid r
  clear o r HP
  replace HA := hid (HA.out.below b (Nat.le_refl _))
  replace Q0 := hid (Q0.out.below b (Nat.le_refl _))
  replace HM := hid (HM.out.below b (Nat.le_refl _))
  replace HW := hid (HW.out.trans (b.mono HW.out.size))
  clear b
  go_wp2_with fail
  refine (eqByteS_any c2' c0' Q2.out Q0.out (by omega)).mono ?_
  rintro e w15 ⟨rfl, s⟩
  have b := s.below w14.heap.size
  replace HA := hid (HA.out.below b (Nat.le_refl _))
  replace Q0 := hid (Q0.out.below b (Nat.le_refl _))
  replace HM := hid (HM.out.below b (Nat.le_refl _))
  replace Q2 := hid (Q2.out.below b (Nat.le_refl _))
  replace HW := hid (HW.out.trans (b.mono HW.out.size))
  clear b s
  go_wp2_with fail
  refine (heldByteS_any c1' 1 HM.out (by omega) (by omega) (by omega)).mono ?_
  rintro e w16 ⟨rfl, rfl⟩
  go_wp2_with fail
  go_ret
  exact ⟨rfl, HB.out.trans (HW.out.mono HB.out.size)⟩
end Go.Proofs.Ytgdnjpdheghfoaa
