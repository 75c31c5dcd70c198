/- FnExactEdgeEnd's walk, the program's contract being given. Conditions: none but what the arguments' types say. -/
import Derived.Test.YtnhlfkffllbpiaaEt13
namespace Go.Proofs.Ytnhlfkffllbpiaa
open Go.RowKit
set_option maxRecDepth 100000

theorem szT_end (t : Tk) (now : Int) : szT (endT t now) = szT t := rfl
theorem leftJ_sum (ts : List Tk) (k0 : Nat) (done : Bool) (now : Int) : ∀ j, j ≤ ts.length → sumT (leftJ ts k0 done now j) ≤ sumT (ts.take j)
  | 0, _ => by simp [leftJ]
  | j + 1, h => by
    have ih := leftJ_sum ts k0 done now j (by omega)
    rw [leftJ_succ, sumT_app, take_snocT ts j (by omega), sumT_app]
    have : sumT (stepT ts k0 done now j) ≤ sumT [ts.getD j tk0] := by
      unfold stepT
      split
      · split
        · simp only [sumT, szT_end]; exact Nat.le_refl _
        · simp [sumT]
      · exact Nat.le_refl _
    omega
theorem filter_sum (p : Tk → Bool) : ∀ L : List Tk, sumT (L.filter p) ≤ sumT L
  | [] => Nat.le_refl _
  | t :: L => by
    have ih := filter_sum p L
    rw [List.filter_cons]
    split
    · simp only [sumT]; omega
    · simp only [sumT]; omega
theorem end_small {ts : List Tk} (x now : Int) (done ok : Bool) (hn : ts.length ≤ 1048576) (hs : sumT ts ≤ 1048576) : (endS ts x now done ok).length ≤ 1048577 ∧ sumT (endS ts x now done ok) ≤ 1048576 := by
  unfold endS
  split
  · simp [sumT]
  · split
    · simp [sumT]
    · rename_i k _
      split
      · simp [sumT]
      · split
        · exact ⟨by omega, hs⟩
        · have h1 := leftJ_len ts k done now ts.length
          have h2 := leftJ_sum ts k done now ts.length (Nat.le_refl _)
          rw [List.take_of_length_le (Nat.le_refl _)] at h2
          have h3 := List.length_filter_le (needB (leftT ts k done now)) (leftT ts k done now)
          have h4 := filter_sum (needB (leftT ts k done now)) (leftT ts k done now)
          unfold keptT
          unfold leftT at *
          omega
set_option maxHeartbeats 12800000 in
theorem exactEdgeEnd (hI : ∀ {a : Option Addr} {n : Nat} (c : Nat) {ts : List Tk} {w : World}, ReadsT w a ts → ts.length = n → n ≤ 1048576 → sumT ts ≤ 1048576 → bdTs ts → ∀ (x y : Int) (d : Bool), (-9223372036854775808 ≤ x ∧ x ≤ 9223372036854775807) → (-9223372036854775808 ≤ y ∧ y ≤ 9223372036854775807) → Calls Try.prog 38 #[.slice a n c, .int .i64 x, .int .i64 y, .bool d] w fun e w' => ∃ v, e = .returned (.tuple #[v, .int .i64 (endC ts x y d (tracksB ts))]) ∧ OwnT w' w.heap.size w'.heap.size v (endS ts x y d (tracksB ts)) ∧ Below w.heap.size w w')
    {a : Option Addr} {n : Nat} (c : Nat) {ts : List Tk} {w : World} (h : ReadsT w a ts) (hl : ts.length = n) (hn0 : n ≤ maxLen) (hbd : bdTs ts) (x y : Int) (d : Bool) (hbx : -9223372036854775808 ≤ x ∧ x ≤ 9223372036854775807) (hby : -9223372036854775808 ≤ y ∧ y ≤ 9223372036854775807) :
    Calls Try.prog 9 #[.slice a n c, .int .i64 x, .int .i64 y, .bool d] w fun e w' => e = .returned (.bool true) ∧ Below w.heap.size w w' := by
  unfold maxLen at hn0
  have HB := hid (Below.refl w.heap.size w)
  have HL := hid h
  clear h
  go_enter Try.func9, Try.ntmps9
  go_wp2_with fail
  refine (szTrackS c HL.out hl (by omega) 1048576 (by omega) (by omega)).mono ?_
  rintro e w1 ⟨rfl, b⟩
  replace HB := hid (HB.out.trans (b.mono HB.out.size))
  have S0 := hid (b.size)
  clear b
  by_cases hbig : (1048576 : Int) < ((n + sumT ts : Nat) : Int)
  · rw [show lft13 1048576 (n + sumT ts) = -1 by unfold lft13; rw [if_pos hbig]]
    go_wp2_with fail
    go_ret
    exact ⟨rfl, HB.out⟩
  obtain ⟨LF, hLF⟩ : ∃ LF : Int, (1048576 : Int) - ((n + sumT ts : Nat) : Int) = LF := ⟨_, rfl⟩
  rw [show lft13 1048576 (n + sumT ts) = LF by unfold lft13; rw [if_neg hbig, hLF]]
  have hq0 : ¬ LF < 0 := by omega
  have hn : n ≤ 1048576 := by omega
  have hsz : sumT ts ≤ 1048576 := by omega
  have HSM := hid (show smT ts from smT_of hsz)
  have HLN := hid (show lnT ts from lnT_of hsz)
  clear hbig hLF
  go_wp2_with fail
  clear hq0
  refine (toTrackS c (HL.out.below HB.out (Nat.le_refl _)) hl (by omega) (by omega)).mono ?_
  rintro e w2 ⟨rfl, o, b⟩
  replace HB := hid (HB.out.trans (b.mono HB.out.size))
  have S1 := hid (b.size)
  clear b
  have PS := hid o
  clear o
  go_wp2_with fail
  refine (spec_EdgeEnd n PS.out.rd hl hn HSM.out HLN.out x y d).mono ?_
  rintro e w3 ⟨an, b⟩
  replace PS := hid (PS.out.below b (by have := S0.out; have := S1.out; omega))
  replace HB := hid (HB.out.trans (b.mono HB.out.size))
  have S2 := hid (b.size)
  clear b
  clear PS
  obtain ⟨aQ, cQ, rfl, rq⟩ := an
  have hsm := end_small x y d (tracksB ts) (ts := ts) (by omega) hsz
  obtain ⟨R, hR⟩ : ∃ R, endS ts x y d (tracksB ts) = R := ⟨_, rfl⟩
  obtain ⟨C, hC⟩ : ∃ C, endC ts x y d (tracksB ts) = C := ⟨_, rfl⟩
  rw [hR] at rq hsm ⊢
  rw [hC]
  obtain ⟨N, hN⟩ : ∃ N, R.length = N := ⟨_, rfl⟩
  rw [hN] at hsm ⊢
  have HRC := hid (And.intro hR hC)
  have HN := hid hN
  have HQ0 := hid rq
  have HQ := hid (Below.refl w3.heap.size w3)
  have hCC : (C != C) = false := by simp
  have hNN : N ≤ 2097152 := by omega
  have hsR : sumT R ≤ 2097152 := by omega
  have hU := sumU_le R
  have hU2 := sumU_le ts
  obtain ⟨M, hM⟩ : ∃ M : Int, 1 + (sumU R : Int) = M := ⟨_, rfl⟩
  have HM := hid hM
  have hMn : ¬ M < 0 := by omega
  have hMM : (M != M) = false := by simp
  obtain ⟨KM, hKM⟩ : ∃ KM : Int, 1 + (sumU ts : Int) = KM := ⟨_, rfl⟩
  have HKM := hid hKM
  have hKMn : ¬ KM < 0 := by omega
  clear hsm hR hC hN rq hM hKM hU hU2
  go_wp2_with fail
  refine (toTrackS c (HL.out.below HB.out (Nat.le_refl _)) hl (by omega) (by omega)).mono ?_
  rintro e w4 ⟨rfl, o, b⟩
  replace HB := hid (HB.out.trans (b.mono HB.out.size))
  replace HQ := hid (HQ.out.trans (b.mono HQ.out.size))
  have S3 := hid (b.size)
  clear b
  have HX := hid o
  clear o
  go_wp2_with fail
  refine (hI n HX.out.rd hl hn hsz hbd x y d hbx hby).mono ?_
  rintro e w5 ⟨v, rfl, o, b⟩
  replace HX := hid (HX.out.below b (by have := S0.out; have := S1.out; have := S2.out; have := S3.out; omega))
  replace HB := hid (HB.out.trans (b.mono HB.out.size))
  replace HQ := hid (HQ.out.trans (b.mono HQ.out.size))
  have S4 := hid (b.size)
  clear b
  rw [HRC.out.1] at o
  rw [HRC.out.2]
  obtain ⟨aHG, cHG, e1⟩ := o.slice
  rw [HN.out] at e1
  subst e1
  have HG := hid o
  clear o
  go_wp2_with fail
  refine (eqTrackS cHG cQ HG.out.rd (HQ0.out.below HQ.out (Nat.le_refl _)) (SameT.refl _) HN.out hNN hsR).mono ?_
  rintro e w6 ⟨rfl, b⟩
  replace HX := hid (HX.out.below b (by have := S0.out; have := S1.out; have := S2.out; have := S3.out; have := S4.out; omega))
  replace HG := hid (HG.out.below b (by have := S0.out; have := S1.out; have := S2.out; have := S3.out; have := S4.out; omega))
  replace HB := hid (HB.out.trans (b.mono HB.out.size))
  replace HQ := hid (HQ.out.trans (b.mono HQ.out.size))
  have S5 := hid (b.size)
  clear b
  go_wp2_with fail
  refine (toTrackS c (HL.out.below HB.out (Nat.le_refl _)) hl (by omega) (by omega)).mono ?_
  rintro e w7 ⟨rfl, o, b⟩
  replace HX := hid (HX.out.below b (by have := S0.out; have := S1.out; have := S2.out; have := S3.out; have := S4.out; have := S5.out; omega))
  replace HG := hid (HG.out.below b (by have := S0.out; have := S1.out; have := S2.out; have := S3.out; have := S4.out; have := S5.out; omega))
  replace HB := hid (HB.out.trans (b.mono HB.out.size))
  replace HQ := hid (HQ.out.trans (b.mono HQ.out.size))
  have S6 := hid (b.size)
  clear b
  have PY := hid o
  clear o
  go_wp2_with fail
  refine (eqTrackS n n HX.out.rd PY.out.rd (SameT.refl _) hl (by omega) (by omega)).mono ?_
  rintro e w8 ⟨rfl, b⟩
  replace HX := hid (HX.out.below b (by have := S0.out; have := S1.out; have := S2.out; have := S3.out; have := S4.out; have := S5.out; have := S6.out; omega))
  replace HG := hid (HG.out.below b (by have := S0.out; have := S1.out; have := S2.out; have := S3.out; have := S4.out; have := S5.out; have := S6.out; omega))
  replace PY := hid (PY.out.below b (by have := S0.out; have := S1.out; have := S2.out; have := S3.out; have := S4.out; have := S5.out; have := S6.out; omega))
  replace HB := hid (HB.out.trans (b.mono HB.out.size))
  replace HQ := hid (HQ.out.trans (b.mono HQ.out.size))
  have S7 := hid (b.size)
  clear b
  clear PY
  go_wp2_with fail
  refine (markTrackS_own n 1 HX.out hl (by omega) (by omega) (by omega) (by omega)).mono ?_
  rintro e w9 ⟨rfl, -, G⟩
  replace HB := hid (HB.out.trans ((G.below (by have := S0.out; have := S1.out; have := S2.out; have := S3.out; have := S4.out; have := S5.out; have := S6.out; have := S7.out; omega)).mono (by have := S0.out; have := S1.out; have := S2.out; have := S3.out; have := S4.out; have := S5.out; have := S6.out; have := S7.out; omega)))
  replace HQ := hid (HQ.out.trans ((G.below (by have := S0.out; have := S1.out; have := S2.out; have := S3.out; have := S4.out; have := S5.out; have := S6.out; have := S7.out; omega)).mono (by have := S0.out; have := S1.out; have := S2.out; have := S3.out; have := S4.out; have := S5.out; have := S6.out; have := S7.out; omega)))
  replace HG := hid (HG.out.agree (G.agree (by have := S0.out; have := S1.out; have := S2.out; have := S3.out; have := S4.out; have := S5.out; have := S6.out; have := S7.out; omega) (by have := S0.out; have := S1.out; have := S2.out; have := S3.out; have := S4.out; have := S5.out; have := S6.out; have := S7.out; omega)))
  have S8 := hid (G.size)
  clear G
  clear HX
  rw [HKM.out]
  go_wp2_with fail
  refine (eqTrackS cHG cQ HG.out.rd (HQ0.out.below HQ.out (Nat.le_refl _)) (SameT.refl _) HN.out hNN hsR).mono ?_
  rintro e w10 ⟨rfl, b⟩
  replace HG := hid (HG.out.below b (by have := S0.out; have := S1.out; have := S2.out; have := S3.out; have := S4.out; have := S5.out; have := S6.out; have := S7.out; have := S8.out; omega))
  replace HB := hid (HB.out.trans (b.mono HB.out.size))
  replace HQ := hid (HQ.out.trans (b.mono HQ.out.size))
  have S9 := hid (b.size)
  clear b
  go_wp2_with fail
  refine (markTrackS_own cHG 1 HG.out HN.out hNN hsR (by omega) (by omega)).mono ?_
  rintro e w11 ⟨rfl, o, G⟩
  replace HB := hid (HB.out.trans ((G.below (by have := S0.out; have := S1.out; have := S2.out; have := S3.out; have := S4.out; have := S5.out; have := S6.out; have := S7.out; have := S8.out; have := S9.out; omega)).mono (by have := S0.out; have := S1.out; have := S2.out; have := S3.out; have := S4.out; have := S5.out; have := S6.out; have := S7.out; have := S8.out; have := S9.out; omega)))
  replace HQ := hid (HQ.out.trans ((G.below (by have := S0.out; have := S1.out; have := S2.out; have := S3.out; have := S4.out; have := S5.out; have := S6.out; have := S7.out; have := S8.out; have := S9.out; omega)).mono (by have := S0.out; have := S1.out; have := S2.out; have := S3.out; have := S4.out; have := S5.out; have := S6.out; have := S7.out; have := S8.out; have := S9.out; omega)))
  have S10 := hid (G.size)
  clear G
  rw [HM.out]
  replace HG := hid o
  clear o
  go_wp2_with fail
  refine (heldTrackS cHG 1 HG.out.rd HN.out hNN hsR (by omega) (by omega)).mono ?_
  rintro e w12 ⟨rfl, e1⟩
  subst w12
  rw [HM.out]
  go_wp2_with fail
  refine (toTrackS c (HL.out.below HB.out (Nat.le_refl _)) hl (by omega) (by omega)).mono ?_
  rintro e w13 ⟨rfl, o, b⟩
  replace HG := hid (HG.out.below b (by have := S0.out; have := S1.out; have := S2.out; have := S3.out; have := S4.out; have := S5.out; have := S6.out; have := S7.out; have := S8.out; have := S9.out; have := S10.out; omega))
  replace HB := hid (HB.out.trans (b.mono HB.out.size))
  replace HQ := hid (HQ.out.trans (b.mono HQ.out.size))
  have S11 := hid (b.size)
  clear b
  have PZ := hid o
  clear o
  go_wp2_with fail
  refine (hI n PZ.out.rd hl hn hsz hbd x y d hbx hby).mono ?_
  rintro e w14 ⟨v, rfl, o, b⟩
  replace HG := hid (HG.out.below b (by have := S0.out; have := S1.out; have := S2.out; have := S3.out; have := S4.out; have := S5.out; have := S6.out; have := S7.out; have := S8.out; have := S9.out; have := S10.out; have := S11.out; omega))
  replace PZ := hid (PZ.out.below b (by have := S0.out; have := S1.out; have := S2.out; have := S3.out; have := S4.out; have := S5.out; have := S6.out; have := S7.out; have := S8.out; have := S9.out; have := S10.out; have := S11.out; omega))
  replace HB := hid (HB.out.trans (b.mono HB.out.size))
  replace HQ := hid (HQ.out.trans (b.mono HQ.out.size))
  have S12 := hid (b.size)
  clear b
  rw [HRC.out.1] at o
  rw [HRC.out.2]
  obtain ⟨aHH, cHH, e1⟩ := o.slice
  rw [HN.out] at e1
  subst e1
  have HH := hid o
  clear o
  go_wp2_with fail
  refine (eqTrackS cHH cQ HH.out.rd (HQ0.out.below HQ.out (Nat.le_refl _)) (SameT.refl _) HN.out hNN hsR).mono ?_
  rintro e w15 ⟨rfl, b⟩
  replace HG := hid (HG.out.below b (by have := S0.out; have := S1.out; have := S2.out; have := S3.out; have := S4.out; have := S5.out; have := S6.out; have := S7.out; have := S8.out; have := S9.out; have := S10.out; have := S11.out; have := S12.out; omega))
  replace PZ := hid (PZ.out.below b (by have := S0.out; have := S1.out; have := S2.out; have := S3.out; have := S4.out; have := S5.out; have := S6.out; have := S7.out; have := S8.out; have := S9.out; have := S10.out; have := S11.out; have := S12.out; omega))
  replace HH := hid (HH.out.below b (by have := S0.out; have := S1.out; have := S2.out; have := S3.out; have := S4.out; have := S5.out; have := S6.out; have := S7.out; have := S8.out; have := S9.out; have := S10.out; have := S11.out; have := S12.out; omega))
  replace HB := hid (HB.out.trans (b.mono HB.out.size))
  replace HQ := hid (HQ.out.trans (b.mono HQ.out.size))
  have S13 := hid (b.size)
  clear b
  go_wp2_with fail
  refine (heldTrackS cHG 1 HG.out.rd HN.out hNN hsR (by omega) (by omega)).mono ?_
  rintro e w16 ⟨rfl, e1⟩
  subst w16
  rw [HM.out]
  go_wp2_with fail
  go_ret
  exact ⟨rfl, HB.out⟩
end Go.Proofs.Ytnhlfkffllbpiaa
