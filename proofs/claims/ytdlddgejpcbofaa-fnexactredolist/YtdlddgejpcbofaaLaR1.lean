/- FnExactRedoList's walk, the program's contract being given. Conditions: none but what the arguments' types say. -/
import Derived.Test.YtdlddgejpcbofaaRb16
import Derived.Test.YtdlddgejpcbofaaRts
import Derived.Test.YtdlddgejpcbofaaRe
import Derived.Test.YtdlddgejpcbofaaRm
namespace Go.Proofs.Ytdlddgejpcbofaa
open Go.RowKit
set_option maxRecDepth 100000

theorem redo_bd (l : List Int) (rs : List Rc) (nx : Int) : (redoL l rs nx).1.length ≤ 401 ∧ ∀ i, -9223372036854775808 ≤ (redoL l rs nx).1.getD i 0 ∧ (redoL l rs nx).1.getD i 0 ≤ 9223372036854775807 := by
  have hs : ∀ (a : List Int) (x : Int), (settleS a x).length ≤ 401 ∧ ∀ i, -9223372036854775808 ≤ (settleS a x).getD i 0 ∧ (settleS a x).getD i 0 ≤ 9223372036854775807 := fun a x => by
    unfold settleS
    split
    · refine ⟨by simp; omega, fun i => ?_⟩
      by_cases hi : i < x.toNat
      · have := setlAt_bd a i
        simp [List.getD, hi]
        omega
      · simp [List.getD, hi]
    · exact ⟨by simp, fun i => by simp⟩
  unfold redoL
  split
  · split
    · exact ⟨by simp, fun i => by simp⟩
    · exact hs _ _
  · exact ⟨by simp, fun i => by simp⟩
theorem marks_bd16 (m : Nat) (hm : m ≤ 401) (i : Nat) : -9223372036854775808 ≤ (marksI 1 m).getD i 0 ∧ (marksI 1 m).getD i 0 ≤ 9223372036854775807 := by
  by_cases h : i < m
  · rw [marksI_at 1 m i h]; omega
  · have : (marksI 1 m).getD i 0 = 0 := by simp [marksI, List.getD, h]
    omega
theorem own_within16 {lo hi : Nat} {w w' : World} (h : Within lo hi w w') {base : Nat} {e : TypeId} {s n : Nat} {v : Value} {xs : List Value} (o : w.ownsRow base e s v n xs) (hb : hi ≤ base) : w'.ownsRow base e s v n xs := by
  refine ⟨o.1, ?_⟩
  rcases o.2 with hn | ⟨g, cap, cur, rfl, hbg, hg, rest⟩
  · exact .inl hn
  · exact .inr ⟨g, cap, cur, rfl, hbg, (h.block g (Array.getElem?_eq_some_iff.1 hg).1 (.inr (by omega))).trans hg, rest⟩
theorem markR16 {lo hi n c : Nat} {a : Option Addr} {rs : List Rc} {w : World} (k : Int) (h : OwnR w lo hi (.slice a n c) rs) (hl : rs.length = n) (hn : n ≤ 2097152) (ht : tr rs ≤ 20971520) (hk0 : 0 ≤ k) (hk1 : k ≤ 500000000) (hb : ∀ i, (rs.getD i r0).D.length ≤ 2097152) :
    Calls Try.prog 12 #[.slice a n c, .int .i64 k] w fun e w' => e = .returned (.int .i64 (k + tr rs)) ∧ Within lo hi w w' := by
  obtain ⟨ys, hy, hB, o⟩ := h.own
  rw [hl] at o
  refine (markRecordS k hl (by omega) hn ht hk0 hk1 hb o hB h.top).mono ?_
  rintro e w' ⟨rfl, _, _, hw⟩
  exact ⟨rfl, hw⟩

set_option maxHeartbeats 12800000 in
theorem exactRedoList (hI : ∀ {bl ol n : Nat} (cl : Nat) {l : List Int} {ad : Option Addr} {m : Nat} (cap : Nat) {rs : List Rc} (nx : Int) {w : World}, ReadsI w (some ⟨bl, ol, none⟩) n l → ReadsR w ad rs → rs.length = m → n ≤ 2097152 → m ≤ 2097152 → (∀ i, (rs.getD i r0).D.length ≤ 2097152) → -9223372036854775808 ≤ nx ∧ nx ≤ 9223372036854775807 →
      Calls Try.prog 8 #[.slice (some ⟨bl, ol, none⟩) n cl, .slice ad m cap, .int .i64 nx] w fun e w' => ∃ v, e = .returned (.tuple #[v, .int .i64 (redoL l rs nx).2]) ∧ w'.ownsRow w.heap.size 3 1 v (redoL l rs nx).1.length (ins (redoL l rs nx).1) ∧ Below w.heap.size w w')
    {aL : Option Addr} {n : Nat} (c : Nat) {l : List Int} {ad : Option Addr} {m : Nat} (cap : Nat) {rs : List Rc} (nx : Int) {w : World} (hL : ReadsI w aL n l) (hn0 : n ≤ maxLen) (h : ReadsR w ad rs) (hl : rs.length = m) (hm0 : m ≤ maxLen) (hx : -9223372036854775808 ≤ nx ∧ nx ≤ 9223372036854775807) :
    Calls Try.prog 3 #[.slice aL n c, .slice ad m cap, .int .i64 nx] w fun e w' => e = .returned (.bool true) ∧ Below w.heap.size w w' := by
  unfold maxLen at hn0 hm0
  by_cases hbg : 1048576 < n
  · have q : (1048576 : Int) < (n : Int) := by omega
    go_enter Try.func3, Try.ntmps3
    go_wp2_with fail
    go_ret
    exact ⟨rfl, Below.refl _ _⟩
  have q1 : ¬ (1048576 : Int) < (n : Int) := by omega
  have hn : n ≤ 1048576 := by omega
  have HB := hid (Below.refl w.heap.size w)
  have HA := hid hL
  have HL := hid h
  have BD := hid hL.bd
  clear h hL hbg
  go_enter Try.func3, Try.ntmps3
  go_wp2_with fail
  clear q1
  refine (szRecordS cap HL.out hl (by omega) 1048576 (by omega) (by omega)).mono ?_
  rintro e w1 ⟨rfl, b⟩
  replace HA := hid (HA.out.below b (Nat.le_refl _))
  replace HL := hid (HL.out.below b (Nat.le_refl _))
  replace HB := hid (HB.out.trans (b.mono HB.out.size))
  clear b
  by_cases hbig : (1048576 : Int) < ((m + tot (rs.map (·.D)) : Nat) : Int)
  · rw [show lft 1048576 (m + tot (rs.map (·.D))) = -1 by unfold lft; rw [if_pos hbig]]
    go_wp2_with fail
    go_ret
    exact ⟨rfl, HB.out⟩
  obtain ⟨LF, hLF⟩ : ∃ L : Int, (1048576 : Int) - ((m + tot (rs.map (·.D)) : Nat) : Int) = L := ⟨_, rfl⟩
  rw [show lft 1048576 (m + tot (rs.map (·.D))) = LF by unfold lft; rw [if_neg hbig, hLF]]
  have hq0 : ¬ LF < 0 := by omega
  have hm : m ≤ 1048576 := by omega
  have R3 := hid (fun i => show (rs.getD i r0).D.length ≤ 2097152 by have := tot_at (rs.map (·.D)) i; rw [mapD_getD] at this; omega)
  have R1 := hid (show tr rs ≤ 20971520 by unfold tr; rw [hl]; omega)
  obtain ⟨TT, hTT⟩ : ∃ t, tr rs = t := ⟨_, rfl⟩
  have HTT := hid hTT
  have hTb : TT ≤ 20971520 := by have := R1.out; omega
  clear hbig hLF hTT
  go_wp2_with fail
  clear hq0
  refine (toIntS_any c HA.out (by omega)).mono ?_
  rintro e w2 ⟨rfl, o, b⟩
  replace HA := hid (HA.out.below b (Nat.le_refl _))
  replace HL := hid (HL.out.below b (Nat.le_refl _))
  replace HB := hid (HB.out.trans (b.mono HB.out.size))
  have P1 := hid (own_readsI16 o BD.out)
  clear b o
  go_wp2_with fail
  refine (toRecordS cap HL.out hl (by omega) R3.out).mono ?_
  rintro e w3 ⟨cR, rfl, o, b⟩
  replace HA := hid (HA.out.below b (Nat.le_refl _))
  replace HL := hid (HL.out.below b (Nat.le_refl _))
  replace P1 := hid (P1.out.below b (Nat.le_refl _))
  replace HB := hid (HB.out.trans (b.mono HB.out.size))
  have P2 := hid o.rd
  clear b o
  go_wp2_with fail
  refine (spec_RedoList n cR nx P1.out P2.out hl (by omega) (by omega)).mono ?_
  rintro e w4 ⟨v4, rfl, oS, b⟩
  have HEl := hid (redo_bd l rs nx).1
  have HBd := hid (redo_bd l rs nx).2
  obtain ⟨E, hE⟩ : ∃ E, (redoL l rs nx).1 = E := ⟨_, rfl⟩
  obtain ⟨Y, hY⟩ : ∃ Y, (redoL l rs nx).2 = Y := ⟨_, rfl⟩
  have HEE := hid hE
  have HYY := hid hY
  rw [hE] at oS HEl HBd
  rw [hY]
  have hyy : (Y != Y) = false := by simp
  obtain ⟨z, hz⟩ : ∃ z, E.length = z := ⟨_, rfl⟩
  have HM := hid hz
  rw [hz] at oS HEl
  have hzz : z ≤ 401 := HEl.out
  obtain ⟨gS, cS, rfl, rS, -⟩ := ReadsI.own oS HBd.out
  have S4 := hid rS
  have HA4 := hid (HA.out.below b (Nat.le_refl _))
  have HL4 := hid (HL.out.below b (Nat.le_refl _))
  have HB4 := hid (HB.out.trans (b.mono HB.out.size))
  clear b oS rS P1 P2 HA HL HB hE hY hz HEl
  go_wp2_with fail
  refine (toIntS_any c HA4.out (by omega)).mono ?_
  rintro e w5 ⟨rfl, o, b⟩
  obtain ⟨g0, hg0⟩ : ∃ g, w4.heap.size = g := ⟨_, rfl⟩
  have HG0 := hid hg0
  rw [hg0] at o
  try simp only [hg0]
  have X0 := hid o
  have BL := hid b
  have HZ5 := hid (show g0 < w5.heap.size from (o.lt g0 rfl).2)
  clear b o hg0
  go_wp2_with fail
  refine (toRecordS cap (HL4.out.below BL.out (Nat.le_refl _)) hl (by omega) R3.out).mono ?_
  rintro e w6 ⟨cX, rfl, o, b⟩
  obtain ⟨g1, hg1⟩ : ∃ g, w5.heap.size = g := ⟨_, rfl⟩
  rw [hg1] at o HZ5
  try simp only [hg1]
  obtain ⟨h1, hh1⟩ : ∃ h, w6.heap.size = h := ⟨_, rfl⟩
  have HH1 := hid hh1
  rw [hh1] at o
  have X1 := hid o
  replace X0 := hid (owns_below b (Nat.le_refl _) X0.out)
  replace BL := hid (BL.out.trans (b.mono BL.out.size))
  have HG1 := hid (show g1 ≤ h1 by rw [← hg1, ← hh1]; exact b.size)
  clear b o hg1
  go_wp2_with fail
  refine (hI n cX nx (own_readsI16 X0.out BD.out) X1.out.rd hl (by omega) (by omega) R3.out hx).mono ?_
  rintro e w7 ⟨v7, rfl, oI, b⟩
  rw [HEE.out, HM.out] at oI
  rw [HYY.out]
  obtain ⟨gI, cI, rfl, -, -⟩ := ReadsI.own oI HBd.out
  have I := hid (show w7.ownsRow h1 3 1 (.slice gI z cI) z (ins E) by rw [← hh1]; exact oI)
  replace X0 := hid (owns_below b (Nat.le_refl _) X0.out)
  replace X1 := hid (X1.out.below b (by rw [hh1]; exact Nat.le_refl _))
  replace BL := hid (BL.out.trans (b.mono BL.out.size))
  have HH7 := hid (show h1 ≤ w7.heap.size by rw [← hh1]; exact b.size)
  clear b oI hh1
  go_wp2_with fail

  refine (eqIntS_any cI cS (own_readsI16 I.out HBd.out) (S4.out.below BL.out (Nat.le_refl _)) (by omega)).mono ?_
  rintro e w8 ⟨rfl, st⟩
  have b := st.below w7.heap.size
  clear st
  replace X0 := hid (owns_below b (Nat.le_refl _) X0.out)
  replace X1 := hid (X1.out.below b HH7.out)
  replace I := hid (owns_below b (Nat.le_refl _) I.out)
  replace BL := hid (BL.out.trans (b.mono BL.out.size))
  have HH8 := hid (Nat.le_trans HH7.out b.size)
  clear b
  go_wp2_with fail
  refine (toIntS_any c (HA4.out.below BL.out (Nat.le_refl _)) (by omega)).mono ?_
  rintro e w9 ⟨rfl, o, b⟩
  have T1 := hid (own_readsI16 o BD.out)
  replace X0 := hid (owns_below b (Nat.le_refl _) X0.out)
  replace X1 := hid (X1.out.below b HH8.out)
  replace I := hid (owns_below b (Nat.le_refl _) I.out)
  replace BL := hid (BL.out.trans (b.mono BL.out.size))
  have HH9 := hid (Nat.le_trans HH8.out b.size)
  clear b o
  go_wp2_with fail
  refine (eqIntS_any n n (own_readsI16 X0.out BD.out) T1.out (by omega)).mono ?_
  rintro e w10 ⟨rfl, st⟩
  have b := st.below w9.heap.size
  clear st
  replace X0 := hid (owns_below b (Nat.le_refl _) X0.out)
  replace X1 := hid (X1.out.below b HH9.out)
  replace I := hid (owns_below b (Nat.le_refl _) I.out)
  replace BL := hid (BL.out.trans (b.mono BL.out.size))
  have HH10 := hid (Nat.le_trans HH9.out b.size)
  clear T1
  clear b
  go_wp2_with fail
  refine (toRecordS cap (HL4.out.below BL.out (Nat.le_refl _)) hl (by omega) R3.out).mono ?_
  rintro e w11 ⟨cT, rfl, o, b⟩
  have T2 := hid o.rd
  replace X0 := hid (owns_below b (Nat.le_refl _) X0.out)
  replace X1 := hid (X1.out.below b HH10.out)
  replace I := hid (owns_below b (Nat.le_refl _) I.out)
  replace BL := hid (BL.out.trans (b.mono BL.out.size))
  have HH11 := hid (Nat.le_trans HH10.out b.size)
  clear b o
  go_wp2_with fail
  refine (eqRecordS cX cT X1.out.rd T2.out hl (by omega) R3.out).mono ?_
  rintro e w12 ⟨rfl, b⟩
  replace X0 := hid (owns_below b (Nat.le_refl _) X0.out)
  replace X1 := hid (X1.out.below b HH11.out)
  replace I := hid (owns_below b (Nat.le_refl _) I.out)
  replace BL := hid (BL.out.trans (b.mono BL.out.size))
  have HH12 := hid (Nat.le_trans HH11.out b.size)
  clear T2
  clear b
  go_wp2_with fail
  refine (markIntS_any 1 (by omega) (by omega) (by omega) X0.out).mono ?_
  rintro e w13 ⟨rfl, -, hg⟩
  have hgb : ∀ r, (Value.slice (some ⟨g0, 0, none⟩) n n).ownBlock = some r → r = g0 := fun r e => by cases e; rfl
  replace X1 := hid (X1.out.agree (fun k k1 k2 => hg.block k (by have := HH12.out; omega) (fun e => by have := hgb k e.symm; have := HZ5.out; omega)))
  replace I := hid (I.out.kept hg (by
    by_cases hv : (Value.slice gI z cI).ownBlock = none
    · right; rw [hv]; simp [Value.ownBlock]
    · right
      intro e
      have h2 := (I.out.lt g0 e).1
      have := HZ5.out
      have := HG1.out
      omega))
  replace BL := hid (BL.out.grown hg BL.out.size (fun r e => by rw [hgb r e, HG0.out]; exact Nat.le_refl _))
  have HH13 := hid (Nat.le_trans HH12.out hg.size)
  clear hg hgb X0
  obtain ⟨K0, hK0⟩ : ∃ K : Int, (1 : Int) + ((n : Nat) : Int) = K := ⟨_, rfl⟩
  rw [hK0]
  have hK0b : 0 ≤ K0 ∧ K0 ≤ 2000000 := by omega
  clear hK0
  go_wp2_with fail
  refine (markR16 K0 X1.out hl (by omega) R1.out (by omega) (by omega) R3.out).mono ?_
  rintro e w14 ⟨rfl, hw⟩
  replace I := hid (own_within16 hw I.out (Nat.le_refl _))
  replace BL := hid (BL.out.trans ((hw.below (by have := HG1.out; have := HH13.out; omega)).mono (by have := HZ5.out; have := HG0.out; omega)))
  clear hw X1
  rw [HTT.out]
  obtain ⟨K1, hK1⟩ : ∃ K : Int, K0 + ((TT : Nat) : Int) = K := ⟨_, rfl⟩
  rw [hK1]
  have hK1b : ¬ K1 < 0 := by omega
  clear hK1
  go_wp2_with fail
  refine (eqIntS_any cI cS (own_readsI16 I.out HBd.out) (S4.out.below BL.out (Nat.le_refl _)) (by omega)).mono ?_
  rintro e w15 ⟨rfl, st⟩
  have b := st.below w14.heap.size
  clear st
  replace I := hid (owns_below b (Nat.le_refl _) I.out)
  replace BL := hid (BL.out.trans (b.mono BL.out.size))
  clear b
  go_wp2_with fail
  refine (markIntS_any 1 (by omega) (by omega) (by omega) I.out).mono ?_
  rintro e w16 ⟨rfl, o, hg⟩
  replace BL := hid (BL.out.grown hg BL.out.size (fun r e => by have := (I.out.lt r e).1; have := HZ5.out; have := HG1.out; have := HG0.out; omega))
  replace I := hid o
  clear o hg
  obtain ⟨K2, hK2⟩ : ∃ K2 : Int, (1 : Int) + ((z : Nat) : Int) = K2 := ⟨_, rfl⟩
  have HK2 := hid hK2
  rw [hK2]
  have hK20 : ¬ K2 < 0 := by omega
  have hKK : (K2 != K2) = false := by simp
  clear hK2
  go_wp2_with fail
  refine (heldIntS_any cI 1 (own_readsI16 I.out (marks_bd16 z hzz)) (by omega) (by omega) (by omega)).mono ?_
  rintro e w17 ⟨rfl, rfl⟩
  rw [HK2.out]
  go_wp2_with fail
  refine (toIntS_any c (HA4.out.below BL.out (Nat.le_refl _)) (by omega)).mono ?_
  rintro e w18 ⟨rfl, o, b⟩
  have Y1 := hid (own_readsI16 o BD.out)
  replace I := hid (owns_below b (Nat.le_refl _) I.out)
  replace BL := hid (BL.out.trans (b.mono BL.out.size))
  clear b o
  go_wp2_with fail
  refine (toRecordS cap (HL4.out.below BL.out (Nat.le_refl _)) hl (by omega) R3.out).mono ?_
  rintro e w19 ⟨cY, rfl, o, b⟩
  have Y2 := hid o.rd
  replace Y1 := hid (Y1.out.below b (Nat.le_refl _))
  replace I := hid (owns_below b (Nat.le_refl _) I.out)
  replace BL := hid (BL.out.trans (b.mono BL.out.size))
  clear b o
  go_wp2_with fail
  refine (hI n cY nx Y1.out Y2.out hl (by omega) (by omega) R3.out hx).mono ?_
  rintro e w20 ⟨v20, rfl, oJ, b⟩
  rw [HEE.out, HM.out] at oJ
  rw [HYY.out]
  obtain ⟨gJ, cJ, rfl, rJ, -⟩ := ReadsI.own oJ HBd.out
  have J := hid rJ
  replace I := hid (owns_below b (Nat.le_refl _) I.out)
  replace BL := hid (BL.out.trans (b.mono BL.out.size))
  clear b oJ rJ Y1 Y2
  go_wp2_with fail
  refine (eqIntS_any cJ cS J.out (S4.out.below BL.out (Nat.le_refl _)) (by omega)).mono ?_
  rintro e w21 ⟨rfl, st⟩
  have b := st.below w20.heap.size
  clear st
  replace I := hid (owns_below b (Nat.le_refl _) I.out)
  replace BL := hid (BL.out.trans (b.mono BL.out.size))
  clear b J
  go_wp2_with fail
  refine (heldIntS_any cI 1 (own_readsI16 I.out (marks_bd16 z hzz)) (by omega) (by omega) (by omega)).mono ?_
  rintro e w22 ⟨rfl, rfl⟩
  rw [HK2.out]
  have HBE := hid (HB4.out.trans (BL.out.mono HB4.out.size))
  clear I BL
  go_wp2_with fail
  go_ret
  exact ⟨rfl, HBE.out⟩
end Go.Proofs.Ytdlddgejpcbofaa
