/- FnExactGraphEdges' walk. Conditions: none but what the arguments' types say. -/
import Derived.Test.YtecdnheopmojfaaGreatMge
import Derived.Test.YtecdnheopmojfaaGreatVh14
import Derived.Test.YtecdnheopmojfaaGreatGe14
import Derived.Test.YtecdnheopmojfaaGreatEi13
namespace Go.Proofs.YtecdnheopmojfaaGreat
open Go.RowKit
set_option maxRecDepth 100000
theorem own_within {lo hi : Nat} {w w' : World} (h : Within lo hi w w') {base : Nat} {e : TypeId} {s n : Nat} {v : Value} {xs : List Value} (o : w.ownsRow base e s v n xs) (hb : hi ≤ base) : w'.ownsRow base e s v n xs := by
 refine ⟨o.1, ?_⟩
 rcases o.2 with hn | ⟨g, cap, cur, rfl, hbg, hg, rest⟩
 · exact .inl hn
 · exact .inr ⟨g, cap, cur, rfl, hbg, (h.block g (Array.getElem?_eq_some_iff.1 hg).1 (.inr (by omega))).trans hg, rest⟩
theorem edP_le (ts : List Tk) : (edP ts).length ≤ 10000 := by
 unfold edP
 split
 · rename_i h
   have h1 := (deedsB_ok h).1
   have h2 := prE_le ts ts.length ts.length
   have h3 := Nat.mul_le_mul h1 h1
   omega
 · simp
set_option maxHeartbeats 12800000 in
theorem exactGraphEdges {a : Option Addr} {n : Nat} (c : Nat) {ts : List Tk} {w : World} (h : ReadsV w a ts) (hl : ts.length = n) (hn0 : n ≤ maxLen) (hbd : bdTs ts) :
 Calls Tryz.prog 4 #[.slice a n c] w fun e w' => e = .returned (.bool true) ∧ Below w.heap.size w w' := by
 unfold maxLen at hn0
 have HB := hid (Below.refl w.heap.size w)
 have HL := hid h
 clear h
 go_enter Tryz.func4, Tryz.ntmps4
 go_wp2_with fail
 refine (szDeedS c HL.out hl (by omega) 1048576 (by omega) (by omega)).mono ?_
 rintro e w1 ⟨rfl, b⟩
 replace HL := hid (HL.out.below b (Nat.le_refl _))
 replace HB := hid (HB.out.trans (b.mono HB.out.size))
 clear b
 by_cases hbig : (1048576 : Int) < ((n + sumT ts : Nat) : Int)
 · rw [show lft13 1048576 (n + sumT ts) = -1 by unfold lft13; rw [if_pos hbig]]
   go_wp2_with fail
   go_ret
   exact ⟨rfl, HB.out⟩
 obtain ⟨LF, hLF⟩ : ∃ LF : Int, (1048576 : Int) - ((n + sumT ts : Nat) : Int) = LF := ⟨_, rfl⟩
 rw [show lft13 1048576 (n + sumT ts) = LF by unfold lft13; rw [if_neg hbig, hLF]]
 have hq0 : ¬ LF < 0 := by omega
 have hn : n ≤ 1048576 := by omega
 have hsz : sumT ts ≤ 1048576 := by omega
 have HSM := hid (show smT ts from smT_of hsz)
 have HEl := hid (edP_le ts)
 clear hbig hLF
 go_wp2_with fail
 clear hq0
 refine (toDeedS c HL.out hl (by omega) (by omega)).mono ?_
 rintro e w2 ⟨rfl, o, b⟩
 replace HL := hid (HL.out.below b (Nat.le_refl _))
 replace HB := hid (HB.out.trans (b.mono HB.out.size))
 clear b
 have P := hid (o.rd)
 clear o
 go_wp2_with fail
 refine (spec_GraphEdges n P.out hl HSM.out).mono ?_
 rintro e w4 ⟨gS, cS, rfl, oS, b⟩
 obtain ⟨E, hE⟩ : ∃ E, edP ts = E := ⟨_, rfl⟩
 have HEE := hid hE
 rw [hE] at oS HEl
 rw [hE]
 obtain ⟨m, hm⟩ : ∃ m, E.length = m := ⟨_, rfl⟩
 have HM := hid hm
 rw [hm] at oS HEl
 rw [hm]
 have hmm : m ≤ 10000 := HEl.out
 rw [fP_ins] at oS
 have S4 := hid (own_readsP oS)
 have HL4 := hid (HL.out.below b (Nat.le_refl _))
 have HB4 := hid (HB.out.trans (b.mono HB.out.size))
 clear b oS P HL HB hE hm HEl
 go_wp2_with fail
 refine (toDeedS c HL4.out hl (by omega) (by omega)).mono ?_
 rintro e w5 ⟨rfl, o, b⟩
 have X := hid o
 have XV := hid (o.rdv)
 have BL := hid b
 have HLo := hid b.size
 clear b o
 go_wp2_with fail
 refine (impl_GraphEdges n XV.out X.out.rd hl HSM.out hbd).mono ?_
 rintro e w6 ⟨gI, cI, rfl, oI, b⟩
 rw [HEE.out, HM.out] at oI
 rw [HEE.out, HM.out]
 rw [fP_ins] at oI
 have I := hid oI
 replace X := hid (X.out.below b (Nat.le_refl _))
 replace BL := hid (BL.out.trans (b.mono BL.out.size))
 have HHi := hid b.size
 clear b oI XV
 go_wp2_with fail
 refine (eqA2S cI cS (own_readsP I.out) (S4.out.below BL.out (Nat.le_refl _)) (by omega)).mono ?_
 rintro e w7 ⟨rfl, b⟩
 replace I := hid (owns_below b (Nat.le_refl _) I.out)
 replace X := hid (X.out.below b HHi.out)
 replace BL := hid (BL.out.trans (b.mono BL.out.size))
 have HH7 := hid (Nat.le_trans HHi.out b.size)
 clear b
 go_wp2_with fail
 refine (toDeedS c (HL4.out.below BL.out (Nat.le_refl _)) hl (by omega) (by omega)).mono ?_
 rintro e w8 ⟨rfl, o, b⟩
 have T := hid (o.rd)
 replace I := hid (owns_below b (Nat.le_refl _) I.out)
 replace X := hid (X.out.below b HH7.out)
 replace BL := hid (BL.out.trans (b.mono BL.out.size))
 have HH8 := hid (Nat.le_trans HH7.out b.size)
 clear b o
 go_wp2_with fail
 refine (eqDeedS n n X.out.rd T.out (SameT.refl _) hl (by omega) (by omega)).mono ?_
 rintro e w9 ⟨rfl, b⟩
 replace I := hid (owns_below b (Nat.le_refl _) I.out)
 replace X := hid (X.out.below b HH8.out)
 replace BL := hid (BL.out.trans (b.mono BL.out.size))
 clear b T
 go_wp2_with fail
 refine (markDeedS_own n 1 X.out hl (by omega) (by omega) (by omega) (by omega)).mono ?_
 rintro e w10 ⟨rfl, -, hw⟩
 replace I := hid (own_within hw I.out (Nat.le_refl _))
 replace BL := hid (BL.out.trans (hw.below BL.out.size))
 clear hw X
 obtain ⟨K, hK⟩ : ∃ K : Int, (1 : Int) + ((sumDd ts : Nat) : Int) = K := ⟨_, rfl⟩
 rw [hK]
 have hK0 : ¬ K < 0 := by omega
 clear hK
 go_wp2_with fail
 refine (eqA2S cI cS (own_readsP I.out) (S4.out.below BL.out (Nat.le_refl _)) (by omega)).mono ?_
 rintro e w11 ⟨rfl, b⟩
 replace I := hid (owns_below b (Nat.le_refl _) I.out)
 replace BL := hid (BL.out.trans (b.mono BL.out.size))
 clear b
 go_wp2_with fail
 refine (markA2S 1 (by omega) (by omega) (by omega) I.out).mono ?_
 rintro e w12 ⟨rfl, o, hg⟩
 replace BL := hid (BL.out.grown hg BL.out.size (fun r e => Nat.le_trans HLo.out (I.out.lt r e).1))
 replace I := hid o
 clear o hg
 obtain ⟨K2, hK2⟩ : ∃ K2 : Int, (1 : Int) + ((m * 2 : Nat) : Int) = K2 := ⟨_, rfl⟩
 have HK2 := hid hK2
 rw [hK2]
 have hK20 : ¬ K2 < 0 := by omega
 have hKK : (K2 != K2) = false := by simp
 clear hK2
 go_wp2_with fail
 refine (heldA2S cI 1 (own_readsP I.out) (by omega) (by omega) (by omega)).mono ?_
 rintro e w12' ⟨rfl, rfl⟩
 rw [HK2.out]
 go_wp2_with fail
 refine (toDeedS c (HL4.out.below BL.out (Nat.le_refl _)) hl (by omega) (by omega)).mono ?_
 rintro e w13 ⟨rfl, o, b⟩
 have Y := hid (o.rd)
 have YV := hid (o.rdv)
 replace I := hid (owns_below b (Nat.le_refl _) I.out)
 replace BL := hid (BL.out.trans (b.mono BL.out.size))
 clear b o
 go_wp2_with fail
 refine (impl_GraphEdges n YV.out Y.out hl HSM.out hbd).mono ?_
 rintro e w14 ⟨gJ, cJ, rfl, oJ, b⟩
 rw [HEE.out, HM.out] at oJ
 rw [HEE.out, HM.out]
 rw [fP_ins] at oJ
 replace I := hid (owns_below b (Nat.le_refl _) I.out)
 replace BL := hid (BL.out.trans (b.mono BL.out.size))
 have J := hid (own_readsP oJ)
 clear b oJ Y YV
 go_wp2_with fail
 refine (eqA2S cJ cS J.out (S4.out.below BL.out (Nat.le_refl _)) (by omega)).mono ?_
 rintro e w15 ⟨rfl, b⟩
 replace I := hid (owns_below b (Nat.le_refl _) I.out)
 replace BL := hid (BL.out.trans (b.mono BL.out.size))
 clear b J
 go_wp2_with fail
 refine (heldA2S cI 1 (own_readsP I.out) (by omega) (by omega) (by omega)).mono ?_
 rintro e w16 ⟨rfl, rfl⟩
 rw [HK2.out]
 have HBE := hid (HB4.out.trans (BL.out.mono HB4.out.size))
 clear I BL
 go_wp2_with fail
 go_ret
 exact ⟨rfl, HBE.out⟩
end Go.Proofs.YtecdnheopmojfaaGreat
