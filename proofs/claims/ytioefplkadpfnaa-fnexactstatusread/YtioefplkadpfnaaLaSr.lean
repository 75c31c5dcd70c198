/- FnExactStatusRead's walk. Conditions: none but what the argument's type says. -/
import Derived.Test.YtioefplkadpfnaaSj8
import Derived.Test.YtioefplkadpfnaaSk8
namespace Go.Proofs.Ytioefplkadpfnaa
open Go.RowKit
set_option maxRecDepth 100000

set_option maxHeartbeats 6400000 in
theorem exactStatusRead {a : Option Addr} {n : Nat} (c : Nat) {l : List Int} {w : World} (h : Reads w a n l) (hn0 : n ≤ maxLen) (x : Int) :
    Calls Try.prog 10 #[.slice a n c, .int .i64 x] w fun e w' => e = .returned (.bool true) ∧ Below w.heap.size w w' := by
  unfold maxLen at hn0
  by_cases hbig : 1048576 < n
  · have q : (1048576 : Int) < (n : Int) := by omega
    go_enter Try.func10, Try.ntmps10
    go_wp2_with fail
    go_ret
    exact ⟨rfl, Below.refl _ _⟩
  have hn : n ≤ 1048576 := by omega
  have q1 : ¬ (1048576 : Int) < (n : Int) := by omega
  clear hbig
  have hlen := h.len
  have HZ := hid (show (rdL l x).length ≤ 1500000 ∧ ∀ i, -9223372036854775808 ≤ (rdL l x).getD i 0 ∧ (rdL l x).getD i 0 ≤ 9223372036854775807 from rdL_small l x)
  obtain ⟨R, hR⟩ : ∃ R, rdL l x = R := ⟨_, rfl⟩
  rw [hR] at HZ
  have HR := hid hR
  obtain ⟨m, hm⟩ : ∃ m, R.length = m := ⟨_, rfl⟩
  have hm1 : m ≤ 1500000 := by rw [← hm]; exact HZ.out.1
  have HM := hid hm
  clear hm hR hlen
  obtain ⟨ok, hok⟩ : ∃ ok, rdOk l x = ok := ⟨_, rfl⟩
  have HO := hid hok
  have q2 : (ok != ok) = false := by cases ok <;> rfl
  clear hok
  have HL0 := hid h
  have HL := hid h
  have HB := hid (Below.refl w.heap.size w)
  clear h
  go_enter Try.func10, Try.ntmps10
  go_wp2_with fail
  refine (toByteS_any c HL.out (by omega)).mono ?_
  rintro e w1 ⟨rfl, o, b⟩
  replace HL := hid (HL.out.below b (Nat.le_refl _))
  replace HB := hid (HB.out.trans (b.mono HB.out.size))
  have S0 := hid (b.size)
  clear b
  obtain ⟨_, _, e1, p, _⟩ := Reads.own o HL0.out.bd
  obtain ⟨rfl, _, rfl⟩ := Value.slice.inj e1
  have PX := hid p
  have LPX := hid (o.lt w.heap.size rfl).2
  clear e1 p
  clear o
  go_wp2_with fail
  refine (spec_StatusRead n PX.out x).mono ?_
  rintro e w2 ⟨v, rfl, o, b⟩
  replace HL := hid (HL.out.below b (Nat.le_refl _))
  replace PX := hid (PX.out.below b (Nat.le_refl _))
  replace HB := hid (HB.out.trans (b.mono HB.out.size))
  have S2 := hid (b.size)
  clear b
  rw [HR.out] at o
  rw [HO.out]
  rw [HM.out] at o
  obtain ⟨aHQ, cHQ, e1, p, pl⟩ := ReadsI.own o HZ.out.2
  subst e1
  have HQ := hid p
  have QQ := hid pl
  clear p pl
  clear o
  go_wp2_with fail
  clear PX
  refine (toByteS_any c HL.out (by omega)).mono ?_
  rintro e w3 ⟨rfl, o, b⟩
  replace HL := hid (HL.out.below b (Nat.le_refl _))
  replace HQ := hid (HQ.out.below b (Nat.le_refl _))
  replace HB := hid (HB.out.trans (b.mono HB.out.size))
  have S3 := hid (b.size)
  clear b
  obtain ⟨_, _, e1, p, _⟩ := Reads.own o HL0.out.bd
  obtain ⟨rfl, _, rfl⟩ := Value.slice.inj e1
  have HX := hid p
  have LHX := hid (o.lt w2.heap.size rfl).2
  clear e1 p
  have OX := hid o
  clear o
  go_wp2_with fail
  refine (impl_StatusRead n HX.out x).mono ?_
  rintro e w4 ⟨v, rfl, o, b⟩
  replace HL := hid (HL.out.below b (Nat.le_refl _))
  replace HQ := hid (HQ.out.below b (Nat.le_refl _))
  replace HX := hid (HX.out.below b (Nat.le_refl _))
  replace OX := hid (owns_below b (Nat.le_refl _) OX.out)
  replace HB := hid (HB.out.trans (b.mono HB.out.size))
  have S5 := hid (b.size)
  clear b
  rw [HR.out] at o
  rw [HO.out]
  rw [HM.out] at o
  obtain ⟨aHG, cHG, e1, p, pl⟩ := ReadsI.own o HZ.out.2
  subst e1
  have HG := hid p
  have GG := hid pl
  clear p pl
  have OG := hid o
  clear o
  go_wp2_with fail
  refine (eqIntS_any _ _ HG.out HQ.out (by omega)).mono ?_
  rintro e w5 ⟨rfl, st⟩
  have b := st.below w4.heap.size
  clear st
  replace HL := hid (HL.out.below b (Nat.le_refl _))
  replace HQ := hid (HQ.out.below b (Nat.le_refl _))
  replace HX := hid (HX.out.below b (Nat.le_refl _))
  replace OX := hid (owns_below b (Nat.le_refl _) OX.out)
  replace HG := hid (HG.out.below b (Nat.le_refl _))
  replace OG := hid (owns_below b (Nat.le_refl _) OG.out)
  replace HB := hid (HB.out.trans (b.mono HB.out.size))
  have S6 := hid (b.size)
  clear b
  go_wp2_with fail
  refine (toByteS_any c HL.out (by omega)).mono ?_
  rintro e w6 ⟨rfl, o, b⟩
  replace HL := hid (HL.out.below b (Nat.le_refl _))
  replace HQ := hid (HQ.out.below b (Nat.le_refl _))
  replace HX := hid (HX.out.below b (Nat.le_refl _))
  replace OX := hid (owns_below b (Nat.le_refl _) OX.out)
  replace HG := hid (HG.out.below b (Nat.le_refl _))
  replace OG := hid (owns_below b (Nat.le_refl _) OG.out)
  replace HB := hid (HB.out.trans (b.mono HB.out.size))
  have S7 := hid (b.size)
  clear b
  obtain ⟨_, _, e1, p, _⟩ := Reads.own o HL0.out.bd
  obtain ⟨rfl, _, rfl⟩ := Value.slice.inj e1
  have PY := hid p
  have LPY := hid (o.lt w5.heap.size rfl).2
  clear e1 p
  clear o
  go_wp2_with fail
  refine (eqByteS_any n n HX.out PY.out (by omega)).mono ?_
  rintro e w7 ⟨rfl, st⟩
  have b := st.below w6.heap.size
  clear st
  replace HL := hid (HL.out.below b (Nat.le_refl _))
  replace HQ := hid (HQ.out.below b (Nat.le_refl _))
  replace HX := hid (HX.out.below b (Nat.le_refl _))
  replace OX := hid (owns_below b (Nat.le_refl _) OX.out)
  replace HG := hid (HG.out.below b (Nat.le_refl _))
  replace OG := hid (owns_below b (Nat.le_refl _) OG.out)
  replace PY := hid (PY.out.below b (Nat.le_refl _))
  replace HB := hid (HB.out.trans (b.mono HB.out.size))
  have S9 := hid (b.size)
  clear b
  clear PY
  go_wp2_with fail
  refine (markByteS_any 1 (by omega) (by omega) (by omega) OX.out).mono ?_
  rintro e w8 ⟨rfl, _, g⟩
  have pX : Pl (some ⟨w2.heap.size, 0, none⟩) w2.heap.size (w2.heap.size + 1) := .inr ⟨_, rfl, Nat.le_refl _, Nat.lt_succ_self _⟩
  replace HB := hid (HB.out.grown g (by have := S0.out; have := LPX.out; have := S2.out; have := S3.out; have := LHX.out; have := S5.out; have := S6.out; have := S7.out; have := LPY.out; have := S9.out; omega) (pl_ge pX (by have := S0.out; have := LPX.out; have := S2.out; have := S3.out; have := LHX.out; have := S5.out; have := S6.out; have := S7.out; have := LPY.out; have := S9.out; omega)))
  replace HL := hid (HL0.out.below HB.out (Nat.le_refl _))
  replace HQ := hid (HQ.out.other g (pl_ne QQ.out pX (.inl (by have := S0.out; have := LPX.out; have := S2.out; have := S3.out; have := LHX.out; have := S5.out; have := S6.out; have := S7.out; have := LPY.out; have := S9.out; omega))))
  replace HG := hid (HG.out.other g (pl_ne GG.out pX (.inr (by have := S0.out; have := LPX.out; have := S2.out; have := S3.out; have := LHX.out; have := S5.out; have := S6.out; have := S7.out; have := LPY.out; have := S9.out; omega))))
  replace OG := hid (own_other OG.out g (pl_nb GG.out pX (.inr (by have := S0.out; have := LPX.out; have := S2.out; have := S3.out; have := LHX.out; have := S5.out; have := S6.out; have := S7.out; have := LPY.out; have := S9.out; omega))))
  have S10 := hid g.size
  clear HX OX g pX
  have q3 : ¬ (1 : Int) + (n : Int) < 0 := by omega
  go_wp2_with fail
  refine (eqIntS_any _ _ HG.out HQ.out (by omega)).mono ?_
  rintro e w9 ⟨rfl, st⟩
  have b := st.below w8.heap.size
  clear st
  replace HL := hid (HL.out.below b (Nat.le_refl _))
  replace HQ := hid (HQ.out.below b (Nat.le_refl _))
  replace HG := hid (HG.out.below b (Nat.le_refl _))
  replace OG := hid (owns_below b (Nat.le_refl _) OG.out)
  replace HB := hid (HB.out.trans (b.mono HB.out.size))
  have S11 := hid (b.size)
  clear b
  go_wp2_with fail
  refine (markIntS_any 1 (by omega) (by omega) (by omega) OG.out).mono ?_
  rintro e w10 ⟨rfl, o, g⟩
  replace HB := hid (HB.out.grown g (by have := S0.out; have := LPX.out; have := S2.out; have := S3.out; have := LHX.out; have := S5.out; have := S6.out; have := S7.out; have := LPY.out; have := S9.out; have := S10.out; have := S11.out; omega) (pl_ge GG.out (by have := S0.out; have := LPX.out; have := S2.out; have := S3.out; have := LHX.out; have := S5.out; have := S6.out; have := S7.out; have := LPY.out; have := S9.out; have := S10.out; have := S11.out; omega)))
  replace HL := hid (HL0.out.below HB.out (Nat.le_refl _))
  replace HQ := hid (HQ.out.other g (pl_ne QQ.out GG.out (.inl (by have := S0.out; have := LPX.out; have := S2.out; have := S3.out; have := LHX.out; have := S5.out; have := S6.out; have := S7.out; have := LPY.out; have := S9.out; have := S10.out; have := S11.out; omega))))
  obtain ⟨_, _, e1, p, _⟩ := ReadsI.own o (fun i => marksI_bd 1 _ i (by omega) (by omega) (by omega))
  obtain ⟨rfl, _, rfl⟩ := Value.slice.inj e1
  replace HG := hid p
  have S12 := hid g.size
  clear OG g p e1 o
  have q4 : ¬ (1 : Int) + (m : Int) < 0 := by omega
  have q5 : ((1 : Int) + (m : Int) != 1 + (m : Int)) = false := by simp
  go_wp2_with fail
  refine (heldIntS_any _ 1 HG.out (by omega) (by omega) (by omega)).mono ?_
  rintro e w11 ⟨rfl, e1⟩
  subst w11
  go_wp2_with fail
  refine (toByteS_any c HL.out (by omega)).mono ?_
  rintro e w12 ⟨rfl, o, b⟩
  replace HL := hid (HL.out.below b (Nat.le_refl _))
  replace HQ := hid (HQ.out.below b (Nat.le_refl _))
  replace HG := hid (HG.out.below b (Nat.le_refl _))
  replace HB := hid (HB.out.trans (b.mono HB.out.size))
  have S13 := hid (b.size)
  clear b
  obtain ⟨_, _, e1, p, _⟩ := Reads.own o HL0.out.bd
  obtain ⟨rfl, _, rfl⟩ := Value.slice.inj e1
  have PZ := hid p
  have LPZ := hid (o.lt w10.heap.size rfl).2
  clear e1 p
  clear o
  go_wp2_with fail
  refine (impl_StatusRead n PZ.out x).mono ?_
  rintro e w13 ⟨v, rfl, o, b⟩
  replace HL := hid (HL.out.below b (Nat.le_refl _))
  replace HQ := hid (HQ.out.below b (Nat.le_refl _))
  replace HG := hid (HG.out.below b (Nat.le_refl _))
  replace PZ := hid (PZ.out.below b (Nat.le_refl _))
  replace HB := hid (HB.out.trans (b.mono HB.out.size))
  have S15 := hid (b.size)
  clear b
  rw [HR.out] at o
  rw [HO.out]
  rw [HM.out] at o
  obtain ⟨aHH, cHH, e1, p, pl⟩ := ReadsI.own o HZ.out.2
  subst e1
  have HH := hid p
  have HHp := hid pl
  clear p pl
  clear o
  go_wp2_with fail
  clear PZ
  refine (eqIntS_any _ _ HH.out HQ.out (by omega)).mono ?_
  rintro e w14 ⟨rfl, st⟩
  have b := st.below w13.heap.size
  clear st
  replace HL := hid (HL.out.below b (Nat.le_refl _))
  replace HQ := hid (HQ.out.below b (Nat.le_refl _))
  replace HG := hid (HG.out.below b (Nat.le_refl _))
  replace HH := hid (HH.out.below b (Nat.le_refl _))
  replace HB := hid (HB.out.trans (b.mono HB.out.size))
  have S16 := hid (b.size)
  clear b
  go_wp2_with fail
  refine (heldIntS_any _ 1 HG.out (by omega) (by omega) (by omega)).mono ?_
  rintro e w15 ⟨rfl, e1⟩
  subst w15
  go_wp2_with fail
  go_ret
  exact ⟨rfl, HB.out⟩
end Go.Proofs.Ytioefplkadpfnaa
