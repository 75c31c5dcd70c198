/- FnExactWaitFree's walk, the program's contract being given. Conditions: none but what the arguments' types say. -/
import Derived.Test.YtknloabdfkidiaaWd12
namespace Go.Proofs.Ytknloabdfkidiaa
open Go.RowKit
set_option maxRecDepth 100000

theorem rdI {w : World} {lo n : Nat} {a : Option Addr} {c : Nat} {L : List Int} (o : w.ownsRow lo 3 1 (.slice a n c) n (ins L)) (hb : bdL L) : ReadsI w a n L := by
  obtain ⟨a', c', e, r, _⟩ := ReadsI.own o hb
  obtain ⟨rfl, _, _⟩ := Value.slice.inj e
  exact r
theorem kept_apart {w w' : World} {b : Nat} {e : TypeId} {s n : Nat} {v : Value} {xs : List Value} (o : w.ownsRow b e s v n xs) {row : Option Nat} (hg : w.grownBy w' row) (hd : ∀ r, v.ownBlock = some r → row = some r → False) : w'.ownsRow b e s v n xs :=
  o.kept hg (by
    rcases hob : v.ownBlock with _ | r
    · exact .inl rfl
    · exact .inr (fun e => hd r hob e.symm))
theorem leftW_len (l : List Wt) (x : Int) : (leftW l x).length ≤ l.length := by
  unfold leftW
  split
  · exact List.length_filter_le _ _
  · simp
theorem freeW_len (l : List Wt) (x : Int) : (freeW l x).length ≤ l.length := by
  unfold freeW
  split
  · rw [List.length_map]; exact List.length_filter_le _ _
  · simp

set_option maxHeartbeats 12800000 in
theorem exactWaitFree (hI : ∀ {a : Option Addr} {n : Nat} (c : Nat) {l : List Wt} {w : World}, ReadsW2 w a n l → n ≤ 1048576 → ∀ (x : Int), i64b x → Calls Try.prog 14 #[.slice a n c, .int .i64 x] w fun e w' => AnsF w (leftW l x) (freeW l x) e w')
    {a : Option Addr} {n : Nat} (c : Nat) {l : List Wt} {w : World} (h : ReadsW2 w a n l) (hn0 : n ≤ maxLen) (x : Int) (hx : i64b x) :
    Calls Try.prog 8 #[.slice a n c, .int .i64 x] w fun e w' => e = .returned (.bool true) ∧ Below w.heap.size w w' := by
  unfold maxLen at hn0
  by_cases hbig : (1048576 : Int) < (n : Int)
  · go_enter Try.func8, Try.ntmps8
    go_wp2_with fail
    refine (szWaitS a n c 1048576 (by omega) (by omega) (by omega) w).mono ?_
    rintro e w1 ⟨rfl, e1⟩
    subst w1
    rw [if_pos hbig]
    go_wp2_with fail
    go_ret
    exact ⟨rfl, Below.refl _ _⟩
  have hn : n ≤ 1048576 := by omega
  have HL := hid h
  have HBD := hid h.bd
  have HX := hid hx
  have HB := hid (Below.refl w.heap.size w)
  clear h hx
  go_enter Try.func8, Try.ntmps8
  go_wp2_with fail
  refine (szWaitS a n c 1048576 (by omega) (by omega) (by omega) w).mono ?_
  rintro e w1 ⟨rfl, e1⟩
  subst w1
  rw [if_neg (show ¬ (1048576 : Int) < (n : Int) by omega)]
  have q0 : ¬ (1048576 : Int) - (n : Int) < 0 := by omega
  go_wp2_with fail
  clear q0 hbig
  obtain ⟨L, hL⟩ : ∃ L, leftW l x = L := ⟨_, rfl⟩
  obtain ⟨F, hF⟩ : ∃ F, freeW l x = F := ⟨_, rfl⟩
  have hln := HL.out.len
  have hp0 : L.length ≤ n := by rw [← hL, ← hln]; exact leftW_len l x
  have hq0 : F.length ≤ n := by rw [← hF, ← hln]; exact freeW_len l x
  have HEL := hid hL
  have HEF := hid hF
  obtain ⟨p, hp⟩ : ∃ p, L.length = p := ⟨_, rfl⟩
  obtain ⟨q, hq⟩ : ∃ q, F.length = q := ⟨_, rfl⟩
  rw [hp] at hp0
  rw [hq] at hq0
  have HP := hid hp
  have HQ := hid hq
  clear hL hF hp hq hln
  refine (toWaitS c (HL.out.below HB.out (Nat.le_refl _)) (by omega)).mono ?_
  rintro e w2 ⟨rfl, o, b⟩
  replace HB := hid (HB.out.trans (b.mono HB.out.size))
  have OO := hid o
  have SOO := hid b.size
  clear o b
  go_wp2_with fail
  refine (spec_WaitFree n (ReadsW2.own OO.out HBD.out) (by omega) x).mono ?_
  rintro e w3 ⟨a0, c0, b0, d0, rfl, oL, oF, bL, bF, b⟩
  rw [HEL.out] at oL bL ⊢
  rw [HEF.out] at oF bF ⊢
  rw [HP.out] at oL ⊢
  rw [HQ.out] at oF ⊢
  have BL := hid bL
  have BF := hid bF
  have W0 := hid oL
  have W1 := hid oF
  have TW := hid (show (∀ g, (Value.slice a0 p c0).ownBlock = some g → g < w3.heap.size) ∧ (∀ g, (Value.slice b0 q d0).ownBlock = some g → g < w3.heap.size) from ⟨fun g hg => (oL.lt g hg).2, fun g hg => (oF.lt g hg).2⟩)
  have HS3 := hid (show w.heap.size ≤ w3.heap.size from Nat.le_trans HB.out.size b.size)
  replace HB := hid (HB.out.trans (b.mono HB.out.size))
  clear b oL oF bL bF OO
  go_wp2_with fail
  refine (toWaitS c (HL.out.below HB.out (Nat.le_refl _)) (by omega)).mono ?_
  rintro e w4 ⟨rfl, o, b⟩
  replace W0 := hid (owns_below b (Nat.le_refl _) W0.out)
  replace W1 := hid (owns_below b (Nat.le_refl _) W1.out)
  replace HB := hid (HB.out.trans (b.mono HB.out.size))
  have OX := hid o
  have SOX := hid b.size
  clear o b
  go_wp2_with fail
  have HX3 := hid (OX.out.lt w3.heap.size rfl).2
  refine (hI n (ReadsW2.own OX.out HBD.out) (by omega) x HX.out).mono ?_
  rintro e w5 ⟨a1, c1, b1, d1, rfl, oL, oF, bL, bF, b⟩
  rw [HEL.out] at oL bL ⊢
  rw [HEF.out] at oF bF ⊢
  rw [HP.out] at oL ⊢
  rw [HQ.out] at oF ⊢
  have G0 := hid oL
  have G1 := hid oF
  replace W0 := hid (owns_below b (Nat.le_refl _) W0.out)
  replace W1 := hid (owns_below b (Nat.le_refl _) W1.out)
  replace OX := hid (owns_below b (Nat.le_refl _) OX.out)
  replace HB := hid (HB.out.trans (b.mono HB.out.size))
  clear b oL oF bL bF
  go_wp2_with fail
  refine (eqWaitS c1 c0 (ReadsW2.own G0.out BL.out) (ReadsW2.own W0.out BL.out) (by omega)).mono ?_
  rintro e w6 ⟨rfl, b⟩
  replace W0 := hid (owns_below b (Nat.le_refl _) W0.out)
  replace W1 := hid (owns_below b (Nat.le_refl _) W1.out)
  replace OX := hid (owns_below b (Nat.le_refl _) OX.out)
  replace G0 := hid (owns_below b (Nat.le_refl _) G0.out)
  replace G1 := hid (owns_below b (Nat.le_refl _) G1.out)
  replace HB := hid (HB.out.trans (b.mono HB.out.size))
  clear b
  go_wp2_with fail
  refine (eqIntS_any d1 d0 (rdI G1.out BF.out) (rdI W1.out BF.out) (by omega)).mono ?_
  rintro e w7 ⟨rfl, st⟩
  replace W0 := hid (owns_below (st.below _) (Nat.le_refl _) W0.out)
  replace W1 := hid (owns_below (st.below _) (Nat.le_refl _) W1.out)
  replace OX := hid (owns_below (st.below _) (Nat.le_refl _) OX.out)
  replace G0 := hid (owns_below (st.below _) (Nat.le_refl _) G0.out)
  replace G1 := hid (owns_below (st.below _) (Nat.le_refl _) G1.out)
  replace HB := hid (HB.out.trans (st.below _))
  clear st
  go_wp2_with fail
  refine (toWaitS c (HL.out.below HB.out (Nat.le_refl _)) (by omega)).mono ?_
  rintro e w8 ⟨rfl, o, b⟩
  replace W0 := hid (owns_below b (Nat.le_refl _) W0.out)
  replace W1 := hid (owns_below b (Nat.le_refl _) W1.out)
  replace OX := hid (owns_below b (Nat.le_refl _) OX.out)
  replace G0 := hid (owns_below b (Nat.le_refl _) G0.out)
  replace G1 := hid (owns_below b (Nat.le_refl _) G1.out)
  replace HB := hid (HB.out.trans (b.mono HB.out.size))
  have OY := hid o
  have SOY := hid b.size
  clear o b
  go_wp2_with fail
  refine (eqWaitS n n (ReadsW2.own OX.out HBD.out) (ReadsW2.own OY.out HBD.out) (by omega)).mono ?_
  rintro e w9 ⟨rfl, b⟩
  replace W0 := hid (owns_below b (Nat.le_refl _) W0.out)
  replace W1 := hid (owns_below b (Nat.le_refl _) W1.out)
  replace OX := hid (owns_below b (Nat.le_refl _) OX.out)
  replace G0 := hid (owns_below b (Nat.le_refl _) G0.out)
  replace G1 := hid (owns_below b (Nat.le_refl _) G1.out)
  replace OY := hid (owns_below b (Nat.le_refl _) OY.out)
  replace HB := hid (HB.out.trans (b.mono HB.out.size))
  clear b OY
  go_wp2_with fail
  refine (markWaitS 1 (by omega) (by omega) (by omega) OX.out).mono ?_
  rintro e w10 ⟨rfl, o, g⟩
  have hrow : ∀ r, (Value.slice (some ⟨w3.heap.size, 0, none⟩) n n).ownBlock = some r → r = w3.heap.size := fun r hr => by simpa [Value.ownBlock] using hr.symm
  replace W0 := hid (kept_apart W0.out g (fun r h1 h2 => by have := TW.out.1 r h1; have := hrow r h2; omega))
  replace W1 := hid (W1.out.kept g (owns_ne W1.out OX.out (by decide)))
  replace G0 := hid (kept_apart G0.out g (fun r h1 h2 => by have := (G0.out.lt r h1).1; have := hrow r h2; have := HX3.out; omega))
  replace G1 := hid (G1.out.kept g (owns_ne G1.out OX.out (by decide)))
  replace HB := hid (HB.out.grown g HB.out.size (fun r e => by have := (OX.out.lt r e).1; have := HS3.out; omega))
  have q1 : ¬ (1 : Int) + 2 * (n : Int) < 0 := by omega
  clear o g OX hrow
  go_wp2_with fail
  refine (eqWaitS c1 c0 (ReadsW2.own G0.out BL.out) (ReadsW2.own W0.out BL.out) (by omega)).mono ?_
  rintro e w11 ⟨rfl, b⟩
  replace W0 := hid (owns_below b (Nat.le_refl _) W0.out)
  replace W1 := hid (owns_below b (Nat.le_refl _) W1.out)
  replace G0 := hid (owns_below b (Nat.le_refl _) G0.out)
  replace G1 := hid (owns_below b (Nat.le_refl _) G1.out)
  replace HB := hid (HB.out.trans (b.mono HB.out.size))
  clear b
  go_wp2_with fail
  refine (eqIntS_any d1 d0 (rdI G1.out BF.out) (rdI W1.out BF.out) (by omega)).mono ?_
  rintro e w12 ⟨rfl, st⟩
  replace W0 := hid (owns_below (st.below _) (Nat.le_refl _) W0.out)
  replace W1 := hid (owns_below (st.below _) (Nat.le_refl _) W1.out)
  replace G0 := hid (owns_below (st.below _) (Nat.le_refl _) G0.out)
  replace G1 := hid (owns_below (st.below _) (Nat.le_refl _) G1.out)
  replace HB := hid (HB.out.trans (st.below _))
  clear st
  clear q1
  go_wp2_with fail
  refine (markWaitS 1 (by omega) (by omega) (by omega) G0.out).mono ?_
  rintro e w13 ⟨rfl, o, g⟩
  replace W0 := hid (kept_apart W0.out g (fun r h1 h2 => by have := TW.out.1 r h1; have := (G0.out.lt r h2).1; have := SOX.out; omega))
  replace W1 := hid (W1.out.kept g (owns_ne W1.out G0.out (by decide)))
  replace G1 := hid (G1.out.kept g (owns_ne G1.out G0.out (by decide)))
  replace HB := hid (HB.out.grown g HB.out.size (fun r e => by have := (G0.out.lt r e).1; have := HS3.out; have := SOX.out; omega))
  replace G0 := hid o
  have BM := hid (marksW_bd 1 p (by omega) (by omega) (by omega))
  obtain ⟨M, hM⟩ : ∃ M : Int, 1 + 2 * (p : Int) = M := ⟨_, rfl⟩
  rw [hM]
  have HM := hid hM
  have hM0 : 0 ≤ M ∧ M ≤ 10000000 := by omega
  have q2 : ¬ M < 0 := by omega
  clear o g hM
  go_wp2_with fail
  refine (markIntS_any M (by omega) (by omega) (by omega) G1.out).mono ?_
  rintro e w14 ⟨rfl, o, g⟩
  replace W0 := hid (W0.out.kept g (owns_ne W0.out G1.out (by decide)))
  replace W1 := hid (kept_apart W1.out g (fun r h1 h2 => by have := TW.out.2 r h1; have := (G1.out.lt r h2).1; have := SOX.out; omega))
  replace G0 := hid (G0.out.kept g (owns_ne G0.out G1.out (by decide)))
  replace HB := hid (HB.out.grown g HB.out.size (fun r e => by have := (G1.out.lt r e).1; have := HS3.out; have := SOX.out; omega))
  replace G1 := hid o
  have BI := hid (show bdL (marksI M q) from fun i => marksI_bd M q i (by omega) (by omega) (by omega))
  have q3 : ¬ M + (q : Int) < 0 := by omega
  have q4 : (M + (q : Int) != M + (q : Int)) = false := by simp
  clear o g
  go_wp2_with fail
  refine (heldWaitS c1 1 (ReadsW2.own G0.out BM.out) (by omega) (by omega) (by omega)).mono ?_
  rintro e w15 ⟨rfl, e1⟩
  subst w15
  rw [HM.out]
  go_wp2_with fail
  refine (heldIntS_any d1 M (rdI G1.out BI.out) (by omega) (by omega) (by omega)).mono ?_
  rintro e w16 ⟨rfl, e1⟩
  subst w16
  go_wp2_with fail
  refine (toWaitS c (HL.out.below HB.out (Nat.le_refl _)) (by omega)).mono ?_
  rintro e w17 ⟨rfl, o, b⟩
  replace W0 := hid (owns_below b (Nat.le_refl _) W0.out)
  replace W1 := hid (owns_below b (Nat.le_refl _) W1.out)
  replace G0 := hid (owns_below b (Nat.le_refl _) G0.out)
  replace G1 := hid (owns_below b (Nat.le_refl _) G1.out)
  replace HB := hid (HB.out.trans (b.mono HB.out.size))
  have OZ := hid o
  have SOZ := hid b.size
  clear o b
  go_wp2_with fail
  refine (hI n (ReadsW2.own OZ.out HBD.out) (by omega) x HX.out).mono ?_
  rintro e w18 ⟨a2, c2, b2, d2, rfl, oL, oF, bL, bF, b⟩
  rw [HEL.out] at oL bL ⊢
  rw [HEF.out] at oF bF ⊢
  rw [HP.out] at oL ⊢
  rw [HQ.out] at oF ⊢
  have H0 := hid oL
  have H1 := hid oF
  replace W0 := hid (owns_below b (Nat.le_refl _) W0.out)
  replace W1 := hid (owns_below b (Nat.le_refl _) W1.out)
  replace G0 := hid (owns_below b (Nat.le_refl _) G0.out)
  replace G1 := hid (owns_below b (Nat.le_refl _) G1.out)
  replace HB := hid (HB.out.trans (b.mono HB.out.size))
  clear b oL oF bL bF OZ
  go_wp2_with fail
  refine (eqWaitS c2 c0 (ReadsW2.own H0.out BL.out) (ReadsW2.own W0.out BL.out) (by omega)).mono ?_
  rintro e w19 ⟨rfl, b⟩
  replace W0 := hid (owns_below b (Nat.le_refl _) W0.out)
  replace W1 := hid (owns_below b (Nat.le_refl _) W1.out)
  replace G0 := hid (owns_below b (Nat.le_refl _) G0.out)
  replace G1 := hid (owns_below b (Nat.le_refl _) G1.out)
  replace H0 := hid (owns_below b (Nat.le_refl _) H0.out)
  replace H1 := hid (owns_below b (Nat.le_refl _) H1.out)
  replace HB := hid (HB.out.trans (b.mono HB.out.size))
  clear b
  go_wp2_with fail
  refine (eqIntS_any d2 d0 (rdI H1.out BF.out) (rdI W1.out BF.out) (by omega)).mono ?_
  rintro e w20 ⟨rfl, st⟩
  replace W0 := hid (owns_below (st.below _) (Nat.le_refl _) W0.out)
  replace W1 := hid (owns_below (st.below _) (Nat.le_refl _) W1.out)
  replace G0 := hid (owns_below (st.below _) (Nat.le_refl _) G0.out)
  replace G1 := hid (owns_below (st.below _) (Nat.le_refl _) G1.out)
  replace H0 := hid (owns_below (st.below _) (Nat.le_refl _) H0.out)
  replace H1 := hid (owns_below (st.below _) (Nat.le_refl _) H1.out)
  replace HB := hid (HB.out.trans (st.below _))
  clear st
  go_wp2_with fail
  refine (heldWaitS c1 1 (ReadsW2.own G0.out BM.out) (by omega) (by omega) (by omega)).mono ?_
  rintro e w21 ⟨rfl, e1⟩
  subst w21
  rw [HM.out]
  go_wp2_with fail
  refine (heldIntS_any d1 M (rdI G1.out BI.out) (by omega) (by omega) (by omega)).mono ?_
  rintro e w22 ⟨rfl, e1⟩
  subst w22
  go_wp2_with fail
  go_ret
  exact ⟨rfl, HB.out⟩
end Go.Proofs.Ytknloabdfkidiaa
