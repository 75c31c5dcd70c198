/- FnExactDeedsOk's walk, the program's contract being given. Conditions: none but what the arguments' types say. -/
import Derived.Test.YtecdnheopmojfaaHa14
import Derived.Test.YtecdnheopmojfaaGc14
import Derived.Test.YtecdnheopmojfaaEi13
namespace Go.Proofs.Ytecdnheopmojfaa
open Go.RowKit
set_option maxRecDepth 100000
set_option maxHeartbeats 12800000 in
theorem exactDeedsOk (hI : ∀ {a : Option Addr} {n : Nat} (c : Nat) {ts : List Tk} {w : World}, ReadsV w a ts → ts.length = n → smT ts → bdTs ts → Calls Try.prog 7 #[.slice a n c] w fun e w' => e = .returned (.bool (deedsB ts)) ∧ Below w.heap.size w w')
 {a : Option Addr} {n : Nat} (c : Nat) {ts : List Tk} {w : World} (h : ReadsV w a ts) (hl : ts.length = n) (hn0 : n ≤ maxLen) (hbd : bdTs ts) :
 Calls Try.prog 3 #[.slice a n c] w fun e w' => e = .returned (.bool true) ∧ Below w.heap.size w w' := by
 unfold maxLen at hn0
 have HB := hid (Below.refl w.heap.size w)
 have HL := hid h
 clear h
 go_enter Try.func3, Try.ntmps3
 go_wp2_with fail
 refine (szDeedS c HL.out hl (by omega) 1048576 (by omega) (by omega)).mono ?_
 rintro e w1 ⟨rfl, b⟩
 replace HL := hid (HL.out.below b (Nat.le_refl _))
 replace HB := hid (HB.out.trans (b.mono HB.out.size))
 clear b
 by_cases hbig : (1048576 : Int) < ((n + sumT ts : Nat) : Int)
 · rw [show lft13 1048576 (n + sumT ts) = -1 by unfold lft13; rw [if_pos hbig]]
   go_wp2_with fail
   go_ret
   exact ⟨rfl, HB.out⟩
 obtain ⟨LF, hLF⟩ : ∃ LF : Int, (1048576 : Int) - ((n + sumT ts : Nat) : Int) = LF := ⟨_, rfl⟩
 rw [show lft13 1048576 (n + sumT ts) = LF by unfold lft13; rw [if_neg hbig, hLF]]
 have hq0 : ¬ LF < 0 := by omega
 have hn : n ≤ 1048576 := by omega
 have hsz : sumT ts ≤ 1048576 := by omega
 have HSM := hid (show smT ts from smT_of hsz)
 clear hbig hLF
 go_wp2_with fail
 clear hq0
 refine (toDeedS c HL.out hl (by omega) (by omega)).mono ?_
 rintro e w2 ⟨rfl, o, b⟩
 replace HL := hid (HL.out.below b (Nat.le_refl _))
 replace HB := hid (HB.out.trans (b.mono HB.out.size))
 clear b
 have P := hid (o.rd)
 clear o
 go_wp2_with fail
 refine (spec_DeedsOk n P.out hl HSM.out).mono ?_
 rintro e w3 ⟨rfl, b⟩
 replace HL := hid (HL.out.below b (Nat.le_refl _))
 replace P := hid (P.out.below b (Nat.le_refl _))
 replace HB := hid (HB.out.trans (b.mono HB.out.size))
 clear b
 clear P
 obtain ⟨S, hS⟩ : ∃ S, deedsB ts = S := ⟨_, rfl⟩
 rw [hS]
 have HS := hid hS
 have q2 : (S != S) = false := by simp
 clear hS
 go_wp2_with fail
 refine (toDeedS c HL.out hl (by omega) (by omega)).mono ?_
 rintro e w4 ⟨rfl, o, b⟩
 replace HL := hid (HL.out.below b (Nat.le_refl _))
 replace HB := hid (HB.out.trans (b.mono HB.out.size))
 clear b
 have X := hid (o.rd)
 clear o
 go_wp2_with fail
 refine (hI n X.out hl HSM.out hbd).mono ?_
 rintro e w5 ⟨rfl, b⟩
 replace HL := hid (HL.out.below b (Nat.le_refl _))
 replace X := hid (X.out.below b (Nat.le_refl _))
 replace HB := hid (HB.out.trans (b.mono HB.out.size))
 clear b
 rw [HS.out]
 go_wp2_with fail
 refine (toDeedS c HL.out hl (by omega) (by omega)).mono ?_
 rintro e w6 ⟨rfl, o, b⟩
 replace HL := hid (HL.out.below b (Nat.le_refl _))
 replace X := hid (X.out.below b (Nat.le_refl _))
 replace HB := hid (HB.out.trans (b.mono HB.out.size))
 clear b
 have Y := hid (o.rd)
 clear o
 go_wp2_with fail
 refine (eqDeedS n n X.out Y.out (SameT.refl _) hl (by omega) (by omega)).mono ?_
 rintro e w7 ⟨rfl, b⟩
 replace HL := hid (HL.out.below b (Nat.le_refl _))
 replace X := hid (X.out.below b (Nat.le_refl _))
 replace Y := hid (Y.out.below b (Nat.le_refl _))
 replace HB := hid (HB.out.trans (b.mono HB.out.size))
 clear b
 go_wp2_with fail
 go_ret
 exact ⟨rfl, HB.out⟩
end Go.Proofs.Ytecdnheopmojfaa
