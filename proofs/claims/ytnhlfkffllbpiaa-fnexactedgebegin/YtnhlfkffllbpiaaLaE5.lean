/- FnExactEdgeBegin's walk, the program's contract being given. Conditions: none but what the arguments' types say. -/
import Derived.Test.YtnhlfkffllbpiaaEq13
namespace Go.Proofs.Ytnhlfkffllbpiaa
open Go.RowKit
set_option maxRecDepth 100000

set_option maxHeartbeats 12800000 in
theorem exactEdgeBegin (hI : ∀ {a : Option Addr} {n : Nat} {ts : List Tk} {w : World} {lo hi : Nat}, OwnT w lo hi (.slice a n n) ts → ts.length = n → n ≤ 1048576 → sumT ts ≤ 1048576 → bdTs ts → ∀ (x y : Int), (-9223372036854775808 ≤ x ∧ x ≤ 9223372036854775807) → (-9223372036854775808 ≤ y ∧ y ≤ 9223372036854775807) → Calls Try.prog 31 #[.slice a n n, .int .i64 x, .int .i64 y] w fun e w' => ∃ v, e = .returned (.tuple #[v, .int .i64 (beginC ts x y)]) ∧ OwnT w' w.heap.size w'.heap.size v (beginS ts x y) ∧ Below w.heap.size w w')
    {a : Option Addr} {n : Nat} (c : Nat) {ts : List Tk} {w : World} (h : ReadsT w a ts) (hl : ts.length = n) (hn0 : n ≤ maxLen) (hbd : bdTs ts) (x y : Int) (hbx : -9223372036854775808 ≤ x ∧ x ≤ 9223372036854775807) (hby : -9223372036854775808 ≤ y ∧ y ≤ 9223372036854775807) :
    Calls Try.prog 7 #[.slice a n c, .int .i64 x, .int .i64 y] w fun e w' => e = .returned (.bool true) ∧ Below w.heap.size w w' := by
  unfold maxLen at hn0
  have HB := hid (Below.refl w.heap.size w)
  have HL := hid h
  clear h
  go_enter Try.func7, Try.ntmps7
  go_wp2_with fail
  refine (szTrackS c HL.out hl (by omega) 1048576 (by omega) (by omega)).mono ?_
  rintro e w1 ⟨rfl, b⟩
  replace HB := hid (HB.out.trans (b.mono HB.out.size))
  have S0 := hid (b.size)
  clear b
  by_cases hbig : (1048576 : Int) < ((n + sumT ts : Nat) : Int)
  · rw [show lft13 1048576 (n + sumT ts) = -1 by unfold lft13; rw [if_pos hbig]]
    go_wp2_with fail
    go_ret
    exact ⟨rfl, HB.out⟩
  obtain ⟨LF, hLF⟩ : ∃ LF : Int, (1048576 : Int) - ((n + sumT ts : Nat) : Int) = LF := ⟨_, rfl⟩
  rw [show lft13 1048576 (n + sumT ts) = LF by unfold lft13; rw [if_neg hbig, hLF]]
  have hq0 : ¬ LF < 0 := by omega
  have hn : n ≤ 1048576 := by omega
  have hsz : sumT ts ≤ 1048576 := by omega
  have HSM := hid (show smT ts from smT_of hsz)
  have HLN := hid (show lnT ts from lnT_of hsz)
  clear hbig hLF
  go_wp2_with fail
  clear hq0
  refine (toTrackS c (HL.out.below HB.out (Nat.le_refl _)) hl (by omega) (by omega)).mono ?_
  rintro e w2 ⟨rfl, o, b⟩
  replace HB := hid (HB.out.trans (b.mono HB.out.size))
  have S1 := hid (b.size)
  clear b
  have PS := hid o
  clear o
  go_wp2_with fail
  refine (spec_EdgeBegin n PS.out.rd hl hn HSM.out HLN.out x y).mono ?_
  rintro e w3 ⟨an, b⟩
  replace PS := hid (PS.out.below b (by have := S0.out; have := S1.out; omega))
  replace HB := hid (HB.out.trans (b.mono HB.out.size))
  have S2 := hid (b.size)
  clear b
  clear PS
  obtain ⟨aQ, cQ, rfl, rq⟩ := an
  have hsm := begin_small x y (ts := ts) (by omega) hsz
  obtain ⟨R, hR⟩ : ∃ R, beginS ts x y = R := ⟨_, rfl⟩
  obtain ⟨C, hC⟩ : ∃ C, beginC ts x y = C := ⟨_, rfl⟩
  rw [hR] at rq hsm ⊢
  rw [hC]
  obtain ⟨N, hN⟩ : ∃ N, R.length = N := ⟨_, rfl⟩
  rw [hN] at hsm ⊢
  have HRC := hid (And.intro hR hC)
  have HN := hid hN
  have HQ0 := hid rq
  have HQ := hid (Below.refl w3.heap.size w3)
  have hCC : (C != C) = false := by simp
  have hNN : N ≤ 2097152 := by omega
  have hsR : sumT R ≤ 2097152 := by omega
  have hU := sumU_le R
  have hU2 := sumU_le ts
  obtain ⟨M, hM⟩ : ∃ M : Int, 1 + (sumU R : Int) = M := ⟨_, rfl⟩
  have HM := hid hM
  have hMn : ¬ M < 0 := by omega
  have hMM : (M != M) = false := by simp
  obtain ⟨KM, hKM⟩ : ∃ KM : Int, 1 + (sumU ts : Int) = KM := ⟨_, rfl⟩
  have HKM := hid hKM
  have hKMn : ¬ KM < 0 := by omega
  clear hsm hR hC hN rq hM hKM hU hU2
  go_wp2_with fail
  refine (toTrackS c (HL.out.below HB.out (Nat.le_refl _)) hl (by omega) (by omega)).mono ?_
  rintro e w4 ⟨rfl, o, b⟩
  replace HB := hid (HB.out.trans (b.mono HB.out.size))
  replace HQ := hid (HQ.out.trans (b.mono HQ.out.size))
  have S3 := hid (b.size)
  clear b
  have HX := hid o
  clear o
  go_wp2_with fail
  refine (hI HX.out hl hn hsz hbd x y hbx hby).mono ?_
  rintro e w5 ⟨v, rfl, o, b⟩
  replace HX := hid (HX.out.below b (by have := S0.out; have := S1.out; have := S2.out; have := S3.out; omega))
  replace HB := hid (HB.out.trans (b.mono HB.out.size))
  replace HQ := hid (HQ.out.trans (b.mono HQ.out.size))
  have S4 := hid (b.size)
  clear b
  rw [HRC.out.1] at o
  rw [HRC.out.2]
  obtain ⟨aHG, cHG, e1⟩ := o.slice
  rw [HN.out] at e1
  subst e1
  have HG := hid o
  clear o
  go_wp2_with fail
  refine (eqTrackS cHG cQ HG.out.rd (HQ0.out.below HQ.out (Nat.le_refl _)) (SameT.refl _) HN.out hNN hsR).mono ?_
  rintro e w6 ⟨rfl, b⟩
  replace HX := hid (HX.out.below b (by have := S0.out; have := S1.out; have := S2.out; have := S3.out; have := S4.out; omega))
  replace HG := hid (HG.out.below b (by have := S0.out; have := S1.out; have := S2.out; have := S3.out; have := S4.out; omega))
  replace HB := hid (HB.out.trans (b.mono HB.out.size))
  replace HQ := hid (HQ.out.trans (b.mono HQ.out.size))
  have S5 := hid (b.size)
  clear b
  go_wp2_with fail
  refine (toTrackS c (HL.out.below HB.out (Nat.le_refl _)) hl (by omega) (by omega)).mono ?_
  rintro e w7 ⟨rfl, o, b⟩
  replace HX := hid (HX.out.below b (by have := S0.out; have := S1.out; have := S2.out; have := S3.out; have := S4.out; have := S5.out; omega))
  replace HG := hid (HG.out.below b (by have := S0.out; have := S1.out; have := S2.out; have := S3.out; have := S4.out; have := S5.out; omega))
  replace HB := hid (HB.out.trans (b.mono HB.out.size))
  replace HQ := hid (HQ.out.trans (b.mono HQ.out.size))
  have S6 := hid (b.size)
  clear b
  have PY := hid o
  clear o
  go_wp2_with fail
  refine (eqTrackS n n HX.out.rd PY.out.rd (SameT.refl _) hl (by omega) (by omega)).mono ?_
  rintro e w8 ⟨rfl, b⟩
  replace HX := hid (HX.out.below b (by have := S0.out; have := S1.out; have := S2.out; have := S3.out; have := S4.out; have := S5.out; have := S6.out; omega))
  replace HG := hid (HG.out.below b (by have := S0.out; have := S1.out; have := S2.out; have := S3.out; have := S4.out; have := S5.out; have := S6.out; omega))
  replace PY := hid (PY.out.below b (by have := S0.out; have := S1.out; have := S2.out; have := S3.out; have := S4.out; have := S5.out; have := S6.out; omega))
  replace HB := hid (HB.out.trans (b.mono HB.out.size))
  replace HQ := hid (HQ.out.trans (b.mono HQ.out.size))
  have S7 := hid (b.size)
  clear b
  clear PY
  go_wp2_with fail
  refine (markTrackS_own n 1 HX.out hl (by omega) (by omega) (by omega) (by omega)).mono ?_
  rintro e w9 ⟨rfl, -, G⟩
  replace HB := hid (HB.out.trans ((G.below (by have := S0.out; have := S1.out; have := S2.out; have := S3.out; have := S4.out; have := S5.out; have := S6.out; have := S7.out; omega)).mono (by have := S0.out; have := S1.out; have := S2.out; have := S3.out; have := S4.out; have := S5.out; have := S6.out; have := S7.out; omega)))
  replace HQ := hid (HQ.out.trans ((G.below (by have := S0.out; have := S1.out; have := S2.out; have := S3.out; have := S4.out; have := S5.out; have := S6.out; have := S7.out; omega)).mono (by have := S0.out; have := S1.out; have := S2.out; have := S3.out; have := S4.out; have := S5.out; have := S6.out; have := S7.out; omega)))
  replace HG := hid (HG.out.agree (G.agree (by have := S0.out; have := S1.out; have := S2.out; have := S3.out; have := S4.out; have := S5.out; have := S6.out; have := S7.out; omega) (by have := S0.out; have := S1.out; have := S2.out; have := S3.out; have := S4.out; have := S5.out; have := S6.out; have := S7.out; omega)))
  have S8 := hid (G.size)
  clear G
  clear HX
  rw [HKM.out]
  go_wp2_with fail
  refine (eqTrackS cHG cQ HG.out.rd (HQ0.out.below HQ.out (Nat.le_refl _)) (SameT.refl _) HN.out hNN hsR).mono ?_
  rintro e w10 ⟨rfl, b⟩
  replace HG := hid (HG.out.below b (by have := S0.out; have := S1.out; have := S2.out; have := S3.out; have := S4.out; have := S5.out; have := S6.out; have := S7.out; have := S8.out; omega))
  replace HB := hid (HB.out.trans (b.mono HB.out.size))
  replace HQ := hid (HQ.out.trans (b.mono HQ.out.size))
  have S9 := hid (b.size)
  clear b
  go_wp2_with fail
  refine (markTrackS_own cHG 1 HG.out HN.out hNN hsR (by omega) (by omega)).mono ?_
  rintro e w11 ⟨rfl, o, G⟩
  replace HB := hid (HB.out.trans ((G.below (by have := S0.out; have := S1.out; have := S2.out; have := S3.out; have := S4.out; have := S5.out; have := S6.out; have := S7.out; have := S8.out; have := S9.out; omega)).mono (by have := S0.out; have := S1.out; have := S2.out; have := S3.out; have := S4.out; have := S5.out; have := S6.out; have := S7.out; have := S8.out; have := S9.out; omega)))
  replace HQ := hid (HQ.out.trans ((G.below (by have := S0.out; have := S1.out; have := S2.out; have := S3.out; have := S4.out; have := S5.out; have := S6.out; have := S7.out; have := S8.out; have := S9.out; omega)).mono (by have := S0.out; have := S1.out; have := S2.out; have := S3.out; have := S4.out; have := S5.out; have := S6.out; have := S7.out; have := S8.out; have := S9.out; omega)))
  have S10 := hid (G.size)
  clear G
  rw [HM.out]
  replace HG := hid o
  clear o
  go_wp2_with fail
  refine (heldTrackS cHG 1 HG.out.rd HN.out hNN hsR (by omega) (by omega)).mono ?_
  rintro e w12 ⟨rfl, e1⟩
  subst w12
  rw [HM.out]
  go_wp2_with fail
  refine (toTrackS c (HL.out.below HB.out (Nat.le_refl _)) hl (by omega) (by omega)).mono ?_
  rintro e w13 ⟨rfl, o, b⟩
  replace HG := hid (HG.out.below b (by have := S0.out; have := S1.out; have := S2.out; have := S3.out; have := S4.out; have := S5.out; have := S6.out; have := S7.out; have := S8.out; have := S9.out; have := S10.out; omega))
  replace HB := hid (HB.out.trans (b.mono HB.out.size))
  replace HQ := hid (HQ.out.trans (b.mono HQ.out.size))
  have S11 := hid (b.size)
  clear b
  have PZ := hid o
  clear o
  go_wp2_with fail
  refine (hI PZ.out hl hn hsz hbd x y hbx hby).mono ?_
  rintro e w14 ⟨v, rfl, o, b⟩
  replace HG := hid (HG.out.below b (by have := S0.out; have := S1.out; have := S2.out; have := S3.out; have := S4.out; have := S5.out; have := S6.out; have := S7.out; have := S8.out; have := S9.out; have := S10.out; have := S11.out; omega))
  replace PZ := hid (PZ.out.below b (by have := S0.out; have := S1.out; have := S2.out; have := S3.out; have := S4.out; have := S5.out; have := S6.out; have := S7.out; have := S8.out; have := S9.out; have := S10.out; have := S11.out; omega))
  replace HB := hid (HB.out.trans (b.mono HB.out.size))
  replace HQ := hid (HQ.out.trans (b.mono HQ.out.size))
  have S12 := hid (b.size)
  clear b
  rw [HRC.out.1] at o
  rw [HRC.out.2]
  obtain ⟨aHH, cHH, e1⟩ := o.slice
  rw [HN.out] at e1
  subst e1
  have HH := hid o
  clear o
  go_wp2_with fail
  refine (eqTrackS cHH cQ HH.out.rd (HQ0.out.below HQ.out (Nat.le_refl _)) (SameT.refl _) HN.out hNN hsR).mono ?_
  rintro e w15 ⟨rfl, b⟩
  replace HG := hid (HG.out.below b (by have := S0.out; have := S1.out; have := S2.out; have := S3.out; have := S4.out; have := S5.out; have := S6.out; have := S7.out; have := S8.out; have := S9.out; have := S10.out; have := S11.out; have := S12.out; omega))
  replace PZ := hid (PZ.out.below b (by have := S0.out; have := S1.out; have := S2.out; have := S3.out; have := S4.out; have := S5.out; have := S6.out; have := S7.out; have := S8.out; have := S9.out; have := S10.out; have := S11.out; have := S12.out; omega))
  replace HH := hid (HH.out.below b (by have := S0.out; have := S1.out; have := S2.out; have := S3.out; have := S4.out; have := S5.out; have := S6.out; have := S7.out; have := S8.out; have := S9.out; have := S10.out; have := S11.out; have := S12.out; omega))
  replace HB := hid (HB.out.trans (b.mono HB.out.size))
  replace HQ := hid (HQ.out.trans (b.mono HQ.out.size))
  have S13 := hid (b.size)
  clear b
  go_wp2_with fail
  refine (heldTrackS cHG 1 HG.out.rd HN.out hNN hsR (by omega) (by omega)).mono ?_
  rintro e w16 ⟨rfl, e1⟩
  subst w16
  rw [HM.out]
  go_wp2_with fail
  go_ret
  exact ⟨rfl, HB.out⟩
end Go.Proofs.Ytnhlfkffllbpiaa
