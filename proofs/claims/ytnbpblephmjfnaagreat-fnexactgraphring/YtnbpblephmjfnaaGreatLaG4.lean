/- FnExactGraphRing's walk. Conditions: none but what the arguments' types say. -/
import Derived.Test.YtnbpblephmjfnaaGreatXc14
import Derived.Test.YtnbpblephmjfnaaGreatXd14
import Derived.Test.YtnbpblephmjfnaaGreatGe14
import Derived.Test.YtnbpblephmjfnaaGreatEi13
namespace Go.Proofs.YtnbpblephmjfnaaGreat
open Go.RowKit
set_option maxRecDepth 100000
theorem marks_bdR (m : Nat) (hm : m ≤ 100) (i : Nat) : -9223372036854775808 ≤ (marksI 1 m).getD i 0 ∧ (marksI 1 m).getD i 0 ≤ 9223372036854775807 := by
 by_cases h : i < m
 · rw [marksI_at 1 m i h]; omega
 · have : (marksI 1 m).getD i 0 = 0 := by simp [marksI, List.getD, h]
   omega
set_option maxHeartbeats 12800000 in
theorem exactGraphRing {a : Option Addr} {n : Nat} (c : Nat) {ts : List Tk} {w : World} (h : ReadsV w a ts) (hl : ts.length = n) (hn0 : n ≤ maxLen) (hbd : bdTs ts) :
 Calls Tryz.prog 4 #[.slice a n c] w fun e w' => e = .returned (.bool true) ∧ Below w.heap.size w w' := by
 unfold maxLen at hn0
 have HB := hid (Below.refl w.heap.size w)
 have HL := hid h
 clear h
 go_enter Tryz.func4, Tryz.ntmps4
 go_wp2_with fail
 refine (szDeedS c HL.out hl (by omega) 1048576 (by omega) (by omega)).mono ?_
 rintro e w1 ⟨rfl, b⟩
 replace HL := hid (HL.out.below b (Nat.le_refl _))
 replace HB := hid (HB.out.trans (b.mono HB.out.size))
 clear b
 by_cases hbig : (1048576 : Int) < ((n + sumT ts : Nat) : Int)
 · rw [show lft13 1048576 (n + sumT ts) = -1 by unfold lft13; rw [if_pos hbig]]
   go_wp2_with fail
   go_ret
   exact ⟨rfl, HB.out⟩
 obtain ⟨LF, hLF⟩ : ∃ LF : Int, (1048576 : Int) - ((n + sumT ts : Nat) : Int) = LF := ⟨_, rfl⟩
 rw [show lft13 1048576 (n + sumT ts) = LF by unfold lft13; rw [if_neg hbig, hLF]]
 have hq0 : ¬ LF < 0 := by omega
 have hn : n ≤ 1048576 := by omega
 have hsz : sumT ts ≤ 1048576 := by omega
 have HSM := hid (show smT ts from smT_of hsz)
 have HEl := hid (ringL_bd ts).1
 have HEb := hid (ringL_bd ts).2
 clear hbig hLF
 go_wp2_with fail
 clear hq0
 refine (toDeedS c HL.out hl (by omega) (by omega)).mono ?_
 rintro e w2 ⟨rfl, o, b⟩
 replace HL := hid (HL.out.below b (Nat.le_refl _))
 replace HB := hid (HB.out.trans (b.mono HB.out.size))
 clear b
 have P := hid (o.rd)
 clear o
 go_wp2_with fail
 refine (spec_GraphRing n P.out hl HSM.out).mono ?_
 rintro e w4 ⟨gS, cS, rfl, oS, b⟩
 obtain ⟨E, hE⟩ : ∃ E, ringL ts = E := ⟨_, rfl⟩
 have HEE := hid hE
 rw [hE] at oS HEl HEb
 rw [hE]
 obtain ⟨m, hm⟩ : ∃ m, E.length = m := ⟨_, rfl⟩
 have HM := hid hm
 rw [hm] at oS HEl
 rw [hm]
 have hmm : m ≤ 100 := HEl.out
 have HBd := hid (nI_bd HEb.out)
 have S4 := hid oS
 have HL4 := hid (HL.out.below b (Nat.le_refl _))
 have HB4 := hid (HB.out.trans (b.mono HB.out.size))
 clear b oS P HL HB hE hm HEl
 go_wp2_with fail
 refine (toDeedS c HL4.out hl (by omega) (by omega)).mono ?_
 rintro e w5 ⟨rfl, o, b⟩
 have X := hid o
 have XV := hid (o.rdv)
 have BL := hid b
 have HLo := hid b.size
 clear b o
 go_wp2_with fail
 refine (impl_GraphRing n XV.out X.out.rd hl HSM.out hbd).mono ?_
 rintro e w6 ⟨gI, cI, rfl, oI, b⟩
 rw [HEE.out, HM.out] at oI
 rw [HEE.out, HM.out]
 have I := hid oI
 replace X := hid (X.out.below b (Nat.le_refl _))
 replace BL := hid (BL.out.trans (b.mono BL.out.size))
 have HHi := hid b.size
 clear b oI XV
 go_wp2_with fail
 refine (eqIntS_any cI cS (I.out.reads HBd.out) (S4.out.below BL.out (Nat.le_refl _)) (by omega)).mono ?_
 rintro e w7 ⟨rfl, st⟩
 have b := st.below w6.heap.size
 clear st
 replace I := hid (I.out.below b (Nat.le_refl _))
 replace X := hid (X.out.below b HHi.out)
 replace BL := hid (BL.out.trans (b.mono BL.out.size))
 have HH7 := hid (Nat.le_trans HHi.out b.size)
 clear b
 go_wp2_with fail
 refine (toDeedS c (HL4.out.below BL.out (Nat.le_refl _)) hl (by omega) (by omega)).mono ?_
 rintro e w8 ⟨rfl, o, b⟩
 have T := hid (o.rd)
 replace I := hid (I.out.below b (Nat.le_refl _))
 replace X := hid (X.out.below b HH7.out)
 replace BL := hid (BL.out.trans (b.mono BL.out.size))
 have HH8 := hid (Nat.le_trans HH7.out b.size)
 clear b o
 go_wp2_with fail
 refine (eqDeedS n n X.out.rd T.out (SameT.refl _) hl (by omega) (by omega)).mono ?_
 rintro e w9 ⟨rfl, b⟩
 replace I := hid (I.out.below b (Nat.le_refl _))
 replace X := hid (X.out.below b HH8.out)
 replace BL := hid (BL.out.trans (b.mono BL.out.size))
 clear b T
 go_wp2_with fail
 refine (markDeedS_own n 1 X.out hl (by omega) (by omega) (by omega) (by omega)).mono ?_
 rintro e w10 ⟨rfl, -, hw⟩
 replace I := hid (TailI.within hw I.out (Nat.le_refl _))
 replace BL := hid (BL.out.trans (hw.below BL.out.size))
 clear hw X
 obtain ⟨K, hK⟩ : ∃ K : Int, (1 : Int) + ((sumDd ts : Nat) : Int) = K := ⟨_, rfl⟩
 rw [hK]
 have hK0 : ¬ K < 0 := by omega
 clear hK
 go_wp2_with fail
 refine (eqIntS_any cI cS (I.out.reads HBd.out) (S4.out.below BL.out (Nat.le_refl _)) (by omega)).mono ?_
 rintro e w11 ⟨rfl, st⟩
 have b := st.below w10.heap.size
 clear st
 replace I := hid (I.out.below b (Nat.le_refl _))
 replace BL := hid (BL.out.trans (b.mono BL.out.size))
 clear b
 go_wp2_with fail
 refine (markIntS_tail cI 1 (by omega) (by omega) (by omega) I.out).mono ?_
 rintro e w12 ⟨rfl, o, hg⟩
 replace BL := hid (BL.out.grown hg BL.out.size (fun r e => by obtain ⟨x, hx, rfl⟩ := Option.map_eq_some_iff.1 e; exact Nat.le_trans HLo.out (I.out.lt hx).1))
 replace I := hid o
 clear o hg
 obtain ⟨K2, hK2⟩ : ∃ K2 : Int, (1 : Int) + ((m : Nat) : Int) = K2 := ⟨_, rfl⟩
 have HK2 := hid hK2
 rw [hK2]
 have hK20 : ¬ K2 < 0 := by omega
 have hKK : (K2 != K2) = false := by simp
 clear hK2
 go_wp2_with fail
 refine (heldIntS_any cI 1 (I.out.reads (marks_bdR m hmm)) (by omega) (by omega) (by omega)).mono ?_
 rintro e w12' ⟨rfl, rfl⟩
 rw [HK2.out]
 go_wp2_with fail
 refine (toDeedS c (HL4.out.below BL.out (Nat.le_refl _)) hl (by omega) (by omega)).mono ?_
 rintro e w13 ⟨rfl, o, b⟩
 have Y := hid (o.rd)
 have YV := hid (o.rdv)
 replace I := hid (I.out.below b (Nat.le_refl _))
 replace BL := hid (BL.out.trans (b.mono BL.out.size))
 clear b o
 go_wp2_with fail
 refine (impl_GraphRing n YV.out Y.out hl HSM.out hbd).mono ?_
 rintro e w14 ⟨gJ, cJ, rfl, oJ, b⟩
 rw [HEE.out, HM.out] at oJ
 rw [HEE.out, HM.out]
 replace I := hid (I.out.below b (Nat.le_refl _))
 replace BL := hid (BL.out.trans (b.mono BL.out.size))
 have J := hid (oJ.reads HBd.out)
 clear b oJ Y YV
 go_wp2_with fail
 refine (eqIntS_any cJ cS J.out (S4.out.below BL.out (Nat.le_refl _)) (by omega)).mono ?_
 rintro e w15 ⟨rfl, st⟩
 have b := st.below w14.heap.size
 clear st
 replace I := hid (I.out.below b (Nat.le_refl _))
 replace BL := hid (BL.out.trans (b.mono BL.out.size))
 clear b J
 go_wp2_with fail
 refine (heldIntS_any cI 1 (I.out.reads (marks_bdR m hmm)) (by omega) (by omega) (by omega)).mono ?_
 rintro e w16 ⟨rfl, rfl⟩
 rw [HK2.out]
 have HBE := hid (HB4.out.trans (BL.out.mono HB4.out.size))
 clear I BL
 go_wp2_with fail
 go_ret
 exact ⟨rfl, HBE.out⟩
end Go.Proofs.YtnbpblephmjfnaaGreat
