/- FnExactWaitRing's walk, the program's contract being given. Conditions: none but what the arguments' types say. -/
import Derived.Test.YtknloabdfkidiaaWd12
namespace Go.Proofs.Ytknloabdfkidiaa
open Go.RowKit
set_option maxRecDepth 100000

theorem rdI {w : World} {lo n : Nat} {a : Option Addr} {c : Nat} {L : List Int} (o : w.ownsRow lo 3 1 (.slice a n c) n (ins L)) (hb : bdL L) : ReadsI w a n L := by
  obtain ⟨a', c', e, r, _⟩ := ReadsI.own o hb
  obtain ⟨rfl, _, _⟩ := Value.slice.inj e
  exact r

set_option maxHeartbeats 12800000 in
theorem exactWaitRing (hI : ∀ {a : Option Addr} {n : Nat} (c : Nat) {l : List Wt} {w : World}, ReadsW2 w a n l → n ≤ 1048576 → ∀ (x : Int), i64b x → Calls Try.prog 13 #[.slice a n c, .int .i64 x] w fun e w' => ∃ v, e = .returned v ∧ AnsK w (ringW l x) v w' ∧ (ringW l x).length ≤ n + 2 ∧ Below w.heap.size w w')
    {a : Option Addr} {n : Nat} (c : Nat) {l : List Wt} {w : World} (h : ReadsW2 w a n l) (hn0 : n ≤ maxLen) (x : Int) (hx : i64b x) :
    Calls Try.prog 6 #[.slice a n c, .int .i64 x] w fun e w' => e = .returned (.bool true) ∧ Below w.heap.size w w' := by
  unfold maxLen at hn0
  by_cases hbig : (1048576 : Int) < (n : Int)
  · go_enter Try.func6, Try.ntmps6
    go_wp2_with fail
    refine (szWaitS a n c 1048576 (by omega) (by omega) (by omega) w).mono ?_
    rintro e w1 ⟨rfl, e1⟩
    subst w1
    rw [if_pos hbig]
    go_wp2_with fail
    go_ret
    exact ⟨rfl, Below.refl _ _⟩
  have hn : n ≤ 1048576 := by omega
  have HL := hid h
  have HBD := hid h.bd
  have HX := hid hx
  have HB := hid (Below.refl w.heap.size w)
  clear h hx
  go_enter Try.func6, Try.ntmps6
  go_wp2_with fail
  refine (szWaitS a n c 1048576 (by omega) (by omega) (by omega) w).mono ?_
  rintro e w1 ⟨rfl, e1⟩
  subst w1
  rw [if_neg (show ¬ (1048576 : Int) < (n : Int) by omega)]
  have q0 : ¬ (1048576 : Int) - (n : Int) < 0 := by omega
  go_wp2_with fail
  clear q0 hbig
  obtain ⟨R, hR⟩ : ∃ R, ringW l x = R := ⟨_, rfl⟩
  have HR := hid hR
  obtain ⟨m, hm⟩ : ∃ m, R.length = m := ⟨_, rfl⟩
  have HM := hid hm
  clear hR hm
  refine (toWaitS c (HL.out.below HB.out (Nat.le_refl _)) (by omega)).mono ?_
  rintro e w2 ⟨rfl, o, b⟩
  replace HB := hid (HB.out.trans (b.mono HB.out.size))
  have OO := hid o
  have SOO := hid b.size
  clear o b
  go_wp2_with fail
  refine (spec_WaitRing n (ReadsW2.own OO.out HBD.out) (by omega) x HX.out).mono ?_
  rintro e w3 ⟨v, rfl, an, hlen, b⟩
  rw [HR.out] at an hlen
  have oR := an.own
  rw [HM.out] at oR hlen
  obtain ⟨a0, c0, rfl⟩ := own_sl oR
  have BR := hid an.bd
  have OW := hid (owns_lower oR (Nat.zero_le _))
  have TW := hid (fun g hg => (oR.lt g hg).2)
  have HS3 := hid (show w.heap.size ≤ w3.heap.size from Nat.le_trans HB.out.size b.size)
  replace OO := hid (owns_below b (Nat.le_refl _) OO.out)
  replace HB := hid (HB.out.trans (b.mono HB.out.size))
  clear b an oR OO
  go_wp2_with fail
  refine (toWaitS c (HL.out.below HB.out (Nat.le_refl _)) (by omega)).mono ?_
  rintro e w4 ⟨rfl, o, b⟩
  replace OW := hid (owns_below b (Nat.le_refl _) OW.out)
  replace HB := hid (HB.out.trans (b.mono HB.out.size))
  have OX := hid o
  have SOX := hid b.size
  clear o b
  go_wp2_with fail
  refine (hI n (ReadsW2.own OX.out HBD.out) (by omega) x HX.out).mono ?_
  rintro e w5 ⟨v, rfl, an, _, b⟩
  rw [HR.out] at an
  have oR := an.own
  rw [HM.out] at oR
  obtain ⟨a1, c1, rfl⟩ := own_sl oR
  have OG := hid oR
  have HSW := hid (show w.heap.size ≤ w4.heap.size from HB.out.size)
  have SG := hid (show w3.heap.size ≤ w4.heap.size from SOX.out)
  replace OW := hid (owns_below b (Nat.le_refl _) OW.out)
  replace OX := hid (owns_below b (Nat.le_refl _) OX.out)
  replace HB := hid (HB.out.trans (b.mono HB.out.size))
  clear b an oR
  go_wp2_with fail
  refine (eqIntS_any c1 c0 (rdI OG.out BR.out) (rdI OW.out BR.out) (by omega)).mono ?_
  rintro e w6 ⟨rfl, st⟩
  replace OW := hid (owns_below (st.below _) (Nat.le_refl _) OW.out)
  replace OX := hid (owns_below (st.below _) (Nat.le_refl _) OX.out)
  replace OG := hid (owns_below (st.below _) (Nat.le_refl _) OG.out)
  replace HB := hid (HB.out.trans (st.below _))
  clear st
  go_wp2_with fail
  refine (toWaitS c (HL.out.below HB.out (Nat.le_refl _)) (by omega)).mono ?_
  rintro e w7 ⟨rfl, o, b⟩
  replace OW := hid (owns_below b (Nat.le_refl _) OW.out)
  replace OX := hid (owns_below b (Nat.le_refl _) OX.out)
  replace OG := hid (owns_below b (Nat.le_refl _) OG.out)
  replace HB := hid (HB.out.trans (b.mono HB.out.size))
  have OY := hid o
  have SOY := hid b.size
  clear o b
  go_wp2_with fail
  refine (eqWaitS n n (ReadsW2.own OX.out HBD.out) (ReadsW2.own OY.out HBD.out) (by omega)).mono ?_
  rintro e w8 ⟨rfl, b⟩
  replace OW := hid (owns_below b (Nat.le_refl _) OW.out)
  replace OX := hid (owns_below b (Nat.le_refl _) OX.out)
  replace OG := hid (owns_below b (Nat.le_refl _) OG.out)
  replace OY := hid (owns_below b (Nat.le_refl _) OY.out)
  replace HB := hid (HB.out.trans (b.mono HB.out.size))
  clear b OY
  go_wp2_with fail
  refine (markWaitS 1 (by omega) (by omega) (by omega) OX.out).mono ?_
  rintro e w9 ⟨rfl, o, g⟩
  replace OW := hid (OW.out.kept g (owns_ne OW.out OX.out (by decide)))
  replace OG := hid (OG.out.kept g (owns_ne OG.out OX.out (by decide)))
  replace HB := hid (HB.out.grown g HB.out.size (fun r e => by have := (OX.out.lt r e).1; have := HS3.out; omega))
  have q1 : ¬ (1 : Int) + 2 * (n : Int) < 0 := by omega
  clear o g OX
  go_wp2_with fail
  refine (eqIntS_any c1 c0 (rdI OG.out BR.out) (rdI OW.out BR.out) (by omega)).mono ?_
  rintro e w10 ⟨rfl, st⟩
  replace OW := hid (owns_below (st.below _) (Nat.le_refl _) OW.out)
  replace OG := hid (owns_below (st.below _) (Nat.le_refl _) OG.out)
  replace HB := hid (HB.out.trans (st.below _))
  clear st
  clear q1
  go_wp2_with fail
  refine (markIntS_any 1 (by omega) (by omega) (by omega) OG.out).mono ?_
  rintro e w11 ⟨rfl, o, g⟩
  replace OW := hid (OW.out.kept g (by
    rcases hob : (Value.slice a0 m c0).ownBlock with _ | r
    · exact .inl rfl
    · right
      intro e
      have h1 := TW.out r hob
      have h2 := (OG.out.lt r e.symm).1
      have h3 := SG.out
      omega))
  replace HB := hid (HB.out.grown g HB.out.size (fun r e => by have := (OG.out.lt r e).1; have := HSW.out; omega))
  replace OG := hid o
  have BM := hid (show bdL (marksI 1 m) from fun i => marksI_bd 1 m i (by omega) (by omega) (by omega))
  have q1 : ¬ (1 : Int) + (m : Int) < 0 := by omega
  have q2 : ((1 : Int) + (m : Int) != 1 + (m : Int)) = false := by simp
  clear o g
  go_wp2_with fail
  refine (heldIntS_any c1 1 (rdI OG.out BM.out) (by omega) (by omega) (by omega)).mono ?_
  rintro e w12 ⟨rfl, e1⟩
  subst w12
  go_wp2_with fail
  refine (toWaitS c (HL.out.below HB.out (Nat.le_refl _)) (by omega)).mono ?_
  rintro e w13 ⟨rfl, o, b⟩
  replace OW := hid (owns_below b (Nat.le_refl _) OW.out)
  replace OG := hid (owns_below b (Nat.le_refl _) OG.out)
  replace HB := hid (HB.out.trans (b.mono HB.out.size))
  have OZ := hid o
  have SOZ := hid b.size
  clear o b
  go_wp2_with fail
  refine (hI n (ReadsW2.own OZ.out HBD.out) (by omega) x HX.out).mono ?_
  rintro e w14 ⟨v, rfl, an, _, b⟩
  rw [HR.out] at an
  have oR := an.own
  rw [HM.out] at oR
  obtain ⟨a2, c2, rfl⟩ := own_sl oR
  have OH := hid oR
  replace OW := hid (owns_below b (Nat.le_refl _) OW.out)
  replace OG := hid (owns_below b (Nat.le_refl _) OG.out)
  replace OZ := hid (owns_below b (Nat.le_refl _) OZ.out)
  replace HB := hid (HB.out.trans (b.mono HB.out.size))
  clear b an oR OZ
  go_wp2_with fail
  refine (eqIntS_any c2 c0 (rdI OH.out BR.out) (rdI OW.out BR.out) (by omega)).mono ?_
  rintro e w15 ⟨rfl, st⟩
  replace OW := hid (owns_below (st.below _) (Nat.le_refl _) OW.out)
  replace OG := hid (owns_below (st.below _) (Nat.le_refl _) OG.out)
  replace OH := hid (owns_below (st.below _) (Nat.le_refl _) OH.out)
  replace HB := hid (HB.out.trans (st.below _))
  clear st
  go_wp2_with fail
  refine (heldIntS_any c1 1 (rdI OG.out BM.out) (by omega) (by omega) (by omega)).mono ?_
  rintro e w16 ⟨rfl, e1⟩
  subst w16
  go_wp2_with fail
  go_ret
  exact ⟨rfl, HB.out⟩
end Go.Proofs.Ytknloabdfkidiaa
