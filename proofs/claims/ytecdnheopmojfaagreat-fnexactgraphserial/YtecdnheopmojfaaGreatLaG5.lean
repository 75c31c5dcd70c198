/- FnExactGraphSerial's walk. Conditions: none but what the arguments' types say. -/
import Derived.Test.YtecdnheopmojfaaGreatHz14
import Derived.Test.YtecdnheopmojfaaGreatHw14
import Derived.Test.YtecdnheopmojfaaGreatGc14
import Derived.Test.YtecdnheopmojfaaGreatEi13
namespace Go.Proofs.YtecdnheopmojfaaGreat
open Go.RowKit
set_option maxRecDepth 100000
set_option maxHeartbeats 12800000 in
theorem exactGraphSerial {a : Option Addr} {n : Nat} (c : Nat) {ts : List Tk} {a' : Option Addr} {n' : Nat} (c' : Nat) {O : List Int} {w : World} (h : ReadsV w a ts) (hl : ts.length = n) (hn0 : n ≤ maxLen) (hbd : bdTs ts) (hO : ReadsI w a' n' O) (hn0' : n' ≤ maxLen) :
 Calls Tryz.prog 7 #[.slice a n c, .slice a' n' c'] w fun e w' => e = .returned (.bool true) ∧ Below w.heap.size w w' := by
 unfold maxLen at hn0 hn0'
 have HB := hid (Below.refl w.heap.size w)
 have HL := hid h
 have HO := hid hO
 have hobd := hO.bd
 have HOb := hid hobd
 clear h hO hobd
 by_cases hbo : (1048576 : Int) < (n' : Int)
 · go_enter Tryz.func7, Tryz.ntmps7
   go_wp2_with fail
   go_ret
   exact ⟨rfl, HB.out⟩
 have hn' : n' ≤ 1048576 := by omega
 go_enter Tryz.func7, Tryz.ntmps7
 go_wp2_with fail
 refine (szDeedS c HL.out hl (by omega) 1048576 (by omega) (by omega)).mono ?_
 rintro e w1 ⟨rfl, b⟩
 replace HL := hid (HL.out.below b (Nat.le_refl _))
 replace HO := hid (HO.out.below b (Nat.le_refl _))
 replace HB := hid (HB.out.trans (b.mono HB.out.size))
 clear b
 by_cases hbig : (1048576 : Int) < ((n + sumT ts : Nat) : Int)
 · rw [show lft13 1048576 (n + sumT ts) = -1 by unfold lft13; rw [if_pos hbig]]
   go_wp2_with fail
   go_ret
   exact ⟨rfl, HB.out⟩
 obtain ⟨LF, hLF⟩ : ∃ LF : Int, (1048576 : Int) - ((n + sumT ts : Nat) : Int) = LF := ⟨_, rfl⟩
 rw [show lft13 1048576 (n + sumT ts) = LF by unfold lft13; rw [if_neg hbig, hLF]]
 have hq0 : ¬ LF < 0 := by omega
 have hn : n ≤ 1048576 := by omega
 have hsz : sumT ts ≤ 1048576 := by omega
 have HSM := hid (show smT ts from smT_of hsz)
 clear hbig hLF
 go_wp2_with fail
 clear hq0
 refine (toDeedS c HL.out hl (by omega) (by omega)).mono ?_
 rintro e w2 ⟨rfl, o, b⟩
 replace HL := hid (HL.out.below b (Nat.le_refl _))
 replace HO := hid (HO.out.below b (Nat.le_refl _))
 replace HB := hid (HB.out.trans (b.mono HB.out.size))
 clear b
 have P := hid (o.rd)
 clear o
 go_wp2_with fail
 refine (toIntS_any c' HO.out (by omega)).mono ?_
 rintro e w3 ⟨rfl, o, b⟩
 replace HL := hid (HL.out.below b (Nat.le_refl _))
 replace HO := hid (HO.out.below b (Nat.le_refl _))
 replace P := hid (P.out.below b (Nat.le_refl _))
 replace HB := hid (HB.out.trans (b.mono HB.out.size))
 clear b
 have P2 := hid (own_readsI o HOb.out)
 clear o
 go_wp2_with fail
 refine (spec_GraphSerial n n' P.out hl HSM.out P2.out (by omega)).mono ?_
 rintro e w4 ⟨rfl, b⟩
 replace HL := hid (HL.out.below b (Nat.le_refl _))
 replace HO := hid (HO.out.below b (Nat.le_refl _))
 replace HB := hid (HB.out.trans (b.mono HB.out.size))
 clear b
 clear P P2
 obtain ⟨S, hS⟩ : ∃ S, serB ts O = S := ⟨_, rfl⟩
 rw [hS]
 have HS := hid hS
 have q2 : (S != S) = false := by simp
 clear hS
 go_wp2_with fail
 refine (toDeedS c HL.out hl (by omega) (by omega)).mono ?_
 rintro e w5 ⟨rfl, o, b⟩
 replace HL := hid (HL.out.below b (Nat.le_refl _))
 replace HO := hid (HO.out.below b (Nat.le_refl _))
 replace HB := hid (HB.out.trans (b.mono HB.out.size))
 clear b
 have X := hid (o.rd)
 have XV := hid (o.rdv)
 clear o
 go_wp2_with fail
 refine (toIntS_any c' HO.out (by omega)).mono ?_
 rintro e w6 ⟨rfl, o, b⟩
 replace HL := hid (HL.out.below b (Nat.le_refl _))
 replace HO := hid (HO.out.below b (Nat.le_refl _))
 replace X := hid (X.out.below b (Nat.le_refl _))
 replace XV := hid (XV.out.below b (Nat.le_refl _))
 replace HB := hid (HB.out.trans (b.mono HB.out.size))
 clear b
 have Y := hid (own_readsI o HOb.out)
 clear o
 go_wp2_with fail
 refine (impl_GraphSerial n n' XV.out X.out hl HSM.out hbd Y.out).mono ?_
 rintro e w7 ⟨rfl, b⟩
 replace HL := hid (HL.out.below b (Nat.le_refl _))
 replace HO := hid (HO.out.below b (Nat.le_refl _))
 replace X := hid (X.out.below b (Nat.le_refl _))
 replace Y := hid (Y.out.below b (Nat.le_refl _))
 replace HB := hid (HB.out.trans (b.mono HB.out.size))
 clear b
 rw [HS.out]
 go_wp2_with fail
 refine (toDeedS c HL.out hl (by omega) (by omega)).mono ?_
 rintro e w8 ⟨rfl, o, b⟩
 replace HL := hid (HL.out.below b (Nat.le_refl _))
 replace HO := hid (HO.out.below b (Nat.le_refl _))
 replace X := hid (X.out.below b (Nat.le_refl _))
 replace Y := hid (Y.out.below b (Nat.le_refl _))
 replace HB := hid (HB.out.trans (b.mono HB.out.size))
 clear b
 have T := hid (o.rd)
 clear o
 go_wp2_with fail
 refine (eqDeedS n n X.out T.out (SameT.refl _) hl (by omega) (by omega)).mono ?_
 rintro e w9 ⟨rfl, b⟩
 replace HL := hid (HL.out.below b (Nat.le_refl _))
 replace HO := hid (HO.out.below b (Nat.le_refl _))
 replace X := hid (X.out.below b (Nat.le_refl _))
 replace Y := hid (Y.out.below b (Nat.le_refl _))
 replace HB := hid (HB.out.trans (b.mono HB.out.size))
 clear b
 go_wp2_with fail
 refine (toIntS_any c' HO.out (by omega)).mono ?_
 rintro e w10 ⟨rfl, o, b⟩
 replace HL := hid (HL.out.below b (Nat.le_refl _))
 replace HO := hid (HO.out.below b (Nat.le_refl _))
 replace X := hid (X.out.below b (Nat.le_refl _))
 replace Y := hid (Y.out.below b (Nat.le_refl _))
 replace HB := hid (HB.out.trans (b.mono HB.out.size))
 clear b
 have U := hid (own_readsI o HOb.out)
 clear o
 go_wp2_with fail
 refine (eqIntS_any n' n' Y.out U.out (by omega)).mono ?_
 rintro e w11 ⟨rfl, st⟩
 have HB2 := hid (HB.out.trans ((st.below w10.heap.size).mono HB.out.size))
 clear st
 go_wp2_with fail
 go_ret
 exact ⟨rfl, HB2.out⟩
end Go.Proofs.YtecdnheopmojfaaGreat
