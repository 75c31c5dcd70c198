/- FnExactGraphOrder' walk. Conditions: none but what the arguments' types say. -/
import Derived.Test.YtecdnheopmojfaaGreatMgg
import Derived.Test.YtecdnheopmojfaaGreatGe14
import Derived.Test.YtecdnheopmojfaaGreatEi13
namespace Go.Proofs.YtecdnheopmojfaaGreat
open Go.RowKit
set_option maxRecDepth 100000
theorem own_within {lo hi : Nat} {w w' : World} (h : Within lo hi w w') {base : Nat} {e : TypeId} {s n : Nat} {v : Value} {xs : List Value} (o : w.ownsRow base e s v n xs) (hb : hi ≤ base) : w'.ownsRow base e s v n xs := by
 refine ⟨o.1, ?_⟩
 rcases o.2 with hn | ⟨g, cap, cur, rfl, hbg, hg, rest⟩
 · exact .inl hn
 · exact .inr ⟨g, cap, cur, rfl, hbg, (h.block g (Array.getElem?_eq_some_iff.1 hg).1 (.inr (by omega))).trans hg, rest⟩
theorem tkF_mem (n : Nat) : ∀ (f : Nat) (R : Eds) (T L : List Nat), ∀ x ∈ (tkF n f R T L).1, x ∈ T ∨ x ∈ L
 | 0, R, T, L, x, h => .inl h
 | f + 1, R, T, L, x, h => by
  unfold tkF at h
  cases hf : L.findIdx? (fun x => firstB R n ((x : Nat) : Int)) with
  | none => rw [hf] at h; exact .inl h
  | some k =>
   rw [hf] at h
   have hk := (List.findIdx?_eq_some_iff_getElem.1 hf).1
   rcases tkF_mem n f _ _ _ x h with q | q
   · rcases List.mem_append.1 q with q | q
     · exact .inl q
     · have : x = L.getD k 0 := by simpa using q
       rw [this, show L.getD k 0 = L[k] by simp [List.getD, hk]]
       exact .inr (List.getElem_mem hk)
   · rcases List.mem_append.1 q with q | q
     · exact .inr (List.mem_of_mem_take q)
     · exact .inr (List.mem_of_mem_drop q)
theorem ordL_bd (ts : List Tk) : (ordL ts).length ≤ 100 ∧ ∀ x ∈ ordL ts, x < 1048576 := by
 unfold ordL
 split
 · rename_i h
   unfold ordOk at h
   have hd := deedsB_ok (of_decide_eq_true h).1
   have h1 := hd.1
   have h2 := (tk_same (ts := ts) ts.length (T := []) (inv_start ts)).2.2
   rw [List.length_range, List.length_nil, Nat.zero_add] at h2
   have h3 : (takenL ts).length + (leftL ts).length = ts.length := h2
   refine ⟨by omega, fun x hx => ?_⟩
   rcases tkF_mem _ _ _ _ _ x hx with q | q
   · cases q
   · have := List.mem_range.1 q; omega
 · exact ⟨by simp, fun x hx => by cases hx⟩
theorem marks_bd14 (m : Nat) (hm : m ≤ 100) (i : Nat) : -9223372036854775808 ≤ (marksI 1 m).getD i 0 ∧ (marksI 1 m).getD i 0 ≤ 9223372036854775807 := by
 by_cases h : i < m
 · rw [marksI_at 1 m i h]; omega
 · have : (marksI 1 m).getD i 0 = 0 := by simp [marksI, List.getD, h]
   omega
set_option maxHeartbeats 12800000 in
theorem exactGraphOrder {a : Option Addr} {n : Nat} (c : Nat) {ts : List Tk} {w : World} (h : ReadsV w a ts) (hl : ts.length = n) (hn0 : n ≤ maxLen) (hbd : bdTs ts) :
 Calls Tryz.prog 5 #[.slice a n c] w fun e w' => e = .returned (.bool true) ∧ Below w.heap.size w w' := by
 unfold maxLen at hn0
 have HB := hid (Below.refl w.heap.size w)
 have HL := hid h
 clear h
 go_enter Tryz.func5, Tryz.ntmps5
 go_wp2_with fail
 refine (szDeedS c HL.out hl (by omega) 1048576 (by omega) (by omega)).mono ?_
 rintro e w1 ⟨rfl, b⟩
 replace HL := hid (HL.out.below b (Nat.le_refl _))
 replace HB := hid (HB.out.trans (b.mono HB.out.size))
 clear b
 by_cases hbig : (1048576 : Int) < ((n + sumT ts : Nat) : Int)
 · rw [show lft13 1048576 (n + sumT ts) = -1 by unfold lft13; rw [if_pos hbig]]
   go_wp2_with fail
   go_ret
   exact ⟨rfl, HB.out⟩
 obtain ⟨LF, hLF⟩ : ∃ LF : Int, (1048576 : Int) - ((n + sumT ts : Nat) : Int) = LF := ⟨_, rfl⟩
 rw [show lft13 1048576 (n + sumT ts) = LF by unfold lft13; rw [if_neg hbig, hLF]]
 have hq0 : ¬ LF < 0 := by omega
 have hn : n ≤ 1048576 := by omega
 have hsz : sumT ts ≤ 1048576 := by omega
 have HSM := hid (show smT ts from smT_of hsz)
 have HEl := hid (ordL_bd ts).1
 have HEb := hid (ordL_bd ts).2
 clear hbig hLF
 go_wp2_with fail
 clear hq0
 refine (toDeedS c HL.out hl (by omega) (by omega)).mono ?_
 rintro e w2 ⟨rfl, o, b⟩
 replace HL := hid (HL.out.below b (Nat.le_refl _))
 replace HB := hid (HB.out.trans (b.mono HB.out.size))
 clear b
 have P := hid (o.rd)
 clear o
 go_wp2_with fail
 refine (spec_GraphOrder n P.out hl HSM.out).mono ?_
 rintro e w4 ⟨gS, cS, rfl, oS, b⟩
 obtain ⟨E, hE⟩ : ∃ E, ordL ts = E := ⟨_, rfl⟩
 have HEE := hid hE
 rw [hE] at oS HEl HEb
 rw [hE]
 obtain ⟨OK, hOK⟩ : ∃ OK, ordOk ts = OK := ⟨_, rfl⟩
 have HOK := hid hOK
 rw [hOK]
 clear hOK
 have hbb : (OK != OK) = false := by simp
 obtain ⟨m, hm⟩ : ∃ m, E.length = m := ⟨_, rfl⟩
 have HM := hid hm
 rw [hm] at oS HEl
 rw [hm]
 have hmm : m ≤ 100 := HEl.out
 have HBd := hid (nI_bd HEb.out)
 have S4 := hid (own_readsI oS HBd.out)
 have HL4 := hid (HL.out.below b (Nat.le_refl _))
 have HB4 := hid (HB.out.trans (b.mono HB.out.size))
 clear b oS P HL HB hE hm HEl
 go_wp2_with fail
 refine (toDeedS c HL4.out hl (by omega) (by omega)).mono ?_
 rintro e w5 ⟨rfl, o, b⟩
 have X := hid o
 have XV := hid (o.rdv)
 have BL := hid b
 have HLo := hid b.size
 clear b o
 go_wp2_with fail
 refine (impl_GraphOrder n XV.out X.out.rd hl HSM.out hbd).mono ?_
 rintro e w6 ⟨gI, cI, rfl, oI, b⟩
 rw [HEE.out, HM.out] at oI
 rw [HEE.out, HM.out, HOK.out]
 have I := hid oI
 replace X := hid (X.out.below b (Nat.le_refl _))
 replace BL := hid (BL.out.trans (b.mono BL.out.size))
 have HHi := hid b.size
 clear b oI XV
 go_wp2_with fail
 refine (eqIntS_any cI cS (own_readsI I.out HBd.out) (S4.out.below BL.out (Nat.le_refl _)) (by omega)).mono ?_
 rintro e w7 ⟨rfl, st⟩
 have b := st.below w6.heap.size
 clear st
 replace I := hid (owns_below b (Nat.le_refl _) I.out)
 replace X := hid (X.out.below b HHi.out)
 replace BL := hid (BL.out.trans (b.mono BL.out.size))
 have HH7 := hid (Nat.le_trans HHi.out b.size)
 clear b
 go_wp2_with fail
 refine (toDeedS c (HL4.out.below BL.out (Nat.le_refl _)) hl (by omega) (by omega)).mono ?_
 rintro e w8 ⟨rfl, o, b⟩
 have T := hid (o.rd)
 replace I := hid (owns_below b (Nat.le_refl _) I.out)
 replace X := hid (X.out.below b HH7.out)
 replace BL := hid (BL.out.trans (b.mono BL.out.size))
 have HH8 := hid (Nat.le_trans HH7.out b.size)
 clear b o
 go_wp2_with fail
 refine (eqDeedS n n X.out.rd T.out (SameT.refl _) hl (by omega) (by omega)).mono ?_
 rintro e w9 ⟨rfl, b⟩
 replace I := hid (owns_below b (Nat.le_refl _) I.out)
 replace X := hid (X.out.below b HH8.out)
 replace BL := hid (BL.out.trans (b.mono BL.out.size))
 clear b T
 go_wp2_with fail
 refine (markDeedS_own n 1 X.out hl (by omega) (by omega) (by omega) (by omega)).mono ?_
 rintro e w10 ⟨rfl, -, hw⟩
 replace I := hid (own_within hw I.out (Nat.le_refl _))
 replace BL := hid (BL.out.trans (hw.below BL.out.size))
 clear hw X
 obtain ⟨K, hK⟩ : ∃ K : Int, (1 : Int) + ((sumDd ts : Nat) : Int) = K := ⟨_, rfl⟩
 rw [hK]
 have hK0 : ¬ K < 0 := by omega
 clear hK
 go_wp2_with fail
 refine (eqIntS_any cI cS (own_readsI I.out HBd.out) (S4.out.below BL.out (Nat.le_refl _)) (by omega)).mono ?_
 rintro e w11 ⟨rfl, st⟩
 have b := st.below w10.heap.size
 clear st
 replace I := hid (owns_below b (Nat.le_refl _) I.out)
 replace BL := hid (BL.out.trans (b.mono BL.out.size))
 clear b
 go_wp2_with fail
 refine (markIntS_any 1 (by omega) (by omega) (by omega) I.out).mono ?_
 rintro e w12 ⟨rfl, o, hg⟩
 replace BL := hid (BL.out.grown hg BL.out.size (fun r e => Nat.le_trans HLo.out (I.out.lt r e).1))
 replace I := hid o
 clear o hg
 obtain ⟨K2, hK2⟩ : ∃ K2 : Int, (1 : Int) + ((m : Nat) : Int) = K2 := ⟨_, rfl⟩
 have HK2 := hid hK2
 rw [hK2]
 have hK20 : ¬ K2 < 0 := by omega
 have hKK : (K2 != K2) = false := by simp
 clear hK2
 go_wp2_with fail
 refine (heldIntS_any cI 1 (own_readsI I.out (marks_bd14 m hmm)) (by omega) (by omega) (by omega)).mono ?_
 rintro e w12' ⟨rfl, rfl⟩
 rw [HK2.out]
 go_wp2_with fail
 refine (toDeedS c (HL4.out.below BL.out (Nat.le_refl _)) hl (by omega) (by omega)).mono ?_
 rintro e w13 ⟨rfl, o, b⟩
 have Y := hid (o.rd)
 have YV := hid (o.rdv)
 replace I := hid (owns_below b (Nat.le_refl _) I.out)
 replace BL := hid (BL.out.trans (b.mono BL.out.size))
 clear b o
 go_wp2_with fail
 refine (impl_GraphOrder n YV.out Y.out hl HSM.out hbd).mono ?_
 rintro e w14 ⟨gJ, cJ, rfl, oJ, b⟩
 rw [HEE.out, HM.out] at oJ
 rw [HEE.out, HM.out, HOK.out]
 replace I := hid (owns_below b (Nat.le_refl _) I.out)
 replace BL := hid (BL.out.trans (b.mono BL.out.size))
 have J := hid (own_readsI oJ HBd.out)
 clear b oJ Y YV
 go_wp2_with fail
 refine (eqIntS_any cJ cS J.out (S4.out.below BL.out (Nat.le_refl _)) (by omega)).mono ?_
 rintro e w15 ⟨rfl, st⟩
 have b := st.below w14.heap.size
 clear st
 replace I := hid (owns_below b (Nat.le_refl _) I.out)
 replace BL := hid (BL.out.trans (b.mono BL.out.size))
 clear b J
 go_wp2_with fail
 refine (heldIntS_any cI 1 (own_readsI I.out (marks_bd14 m hmm)) (by omega) (by omega) (by omega)).mono ?_
 rintro e w16 ⟨rfl, rfl⟩
 rw [HK2.out]
 have HBE := hid (HB4.out.trans (BL.out.mono HB4.out.size))
 clear I BL
 go_wp2_with fail
 go_ret
 exact ⟨rfl, HBE.out⟩
end Go.Proofs.YtecdnheopmojfaaGreat
