/- FnExactLogScan's walk. -/
import Derived.Test.YtgdnjpdheghfoaaLsi
import Derived.Test.YtgdnjpdheghfoaaLss
import Derived.Test.YtgdnjpdheghfoaaLst
import Derived.Test.YtgdnjpdheghfoaaNz
namespace Go.Proofs.Ytgdnjpdheghfoaa
open Go.RowKit
set_option maxRecDepth 100000

set_option maxHeartbeats 12800000 in
theorem exactLogScan {ad : Option Addr} {n : Nat} (cap : Nat) {zs : List Int} {w : World} (h : Reads w ad n zs) (hm : n ≤ maxLen) (lsn : Int) (h1 : -9223372036854775808 ≤ lsn) (h2 : lsn ≤ 9223372036854775807) :
    Calls Try.prog 8 #[.slice ad n cap, .int .i64 lsn] w fun e w' => e = .returned (.bool true) ∧ Below w.heap.size w w' := by
  unfold maxLen at hm
  by_cases hbig : 1048576 < n
  · have hb' : (1048576 : Int) < (n : Int) := by omega
    go_enter Try.func8, Try.ntmps8
    go_wp2_with fail
    go_ret
    exact ⟨rfl, Below.refl _ _⟩
  have hn : n ≤ 1048576 := by omega
  have hn' : ¬ (1048576 : Int) < (n : Int) := by omega
  have fs := fun (W : World) (x : Nat) (hr : Reads W (some ⟨x, 0, none⟩) n zs) => spec_LogScan n hr (by omega) (Nat.le_refl _) lsn h1 h2
  have fi := fun (W : World) (x : Nat) (hr : Reads W (some ⟨x, 0, none⟩) n zs) => impl_LogScan n hr (by omega) (Nat.le_refl _) lsn h1 h2
  obtain ⟨r1, _⟩ := scanL_tr h.bd lsn
  obtain ⟨r2, r3⟩ := tr_bd r1
  generalize scanL zs lsn = RES at *
  obtain ⟨rs, NX⟩ := RES
  simp only at fs fi r1 r2 r3
  obtain ⟨N, hN⟩ : ∃ m, rs.length = m := ⟨_, rfl⟩
  rw [hN] at r2
  have FS := hid fs
  have FI := hid fi
  have HN := hid hN
  have R1 := hid (show tr rs ≤ 2097152 by omega)
  have R3 := hid (fun i => Nat.le_trans (r3 i) (show 65536 ≤ 2097152 by omega))
  obtain ⟨T, hT⟩ : ∃ m, tr rs = m := ⟨_, rfl⟩
  have HT := hid hT
  have hTb : T ≤ 2097152 := by omega
  have Hbd := hid h.bd
  have q1 : (NX != NX) = false := by simp
  have H0 := hid h
  have HW := hid (Below.refl w.heap.size w)
  clear fs fi r1 r3 hN h hbig hT
  go_enter Try.func8, Try.ntmps8
  go_wp2_with fail
  refine (toByteS_any cap (H0.out.below HW.out (Nat.le_refl _)) (by omega)).mono ?_
  rintro e w1 ⟨rfl, o, b⟩
  obtain ⟨_, _, e1, r, dd, _⟩ := Reads.place o Hbd.out
  obtain ⟨rfl, _, rfl⟩ := Value.slice.inj e1
  have P1 := hid r
  clear o e1 r dd
  replace HW := hid (HW.out.trans (b.mono HW.out.size))
  clear b
  go_wp2_with fail
  refine (FS.out _ _ P1.out).mono ?_
  rintro e w2 ⟨v, rfl, o, b⟩
  obtain ⟨aw, kw, ev, _⟩ := o.reads
  rw [HN.out] at ev
  subst ev
  have Qw := hid (Lst.mk o (Nat.le_refl _))
  clear o
  replace P1 := hid (P1.out.below b (Nat.le_refl _))
  replace HW := hid (HW.out.trans (b.mono HW.out.size))
  have Zw := hid (And.intro HW.out.size b.size)
  clear b
  clear P1
  go_wp2_with fail
  refine (toByteS_any cap (H0.out.below HW.out (Nat.le_refl _)) (by omega)).mono ?_
  rintro e w3 ⟨rfl, o, b⟩
  obtain ⟨_, _, e1, r, dd, _⟩ := Reads.place o Hbd.out
  obtain ⟨rfl, _, rfl⟩ := Value.slice.inj e1
  have P2 := hid r
  have OP2 := hid o
  have DP2 := hid dd
  clear o e1 r dd
  replace Qw := hid (Qw.out.below b (Nat.le_refl _))
  replace HW := hid (HW.out.trans (b.mono HW.out.size))
  have ZP2 := hid b.size
  clear b
  go_wp2_with fail
  refine (FI.out _ _ P2.out).mono ?_
  rintro e w4 ⟨v, rfl, o, b⟩
  obtain ⟨ag, kg, ev, _⟩ := o.reads
  rw [HN.out] at ev
  subst ev
  have Qg := hid (Lst.mk o (Nat.le_refl _))
  clear o
  replace Qw := hid (Qw.out.below b (Nat.le_refl _))
  replace P2 := hid (P2.out.below b (Nat.le_refl _))
  replace OP2 := hid (owns_below b (Nat.le_refl _) OP2.out)
  replace HW := hid (HW.out.trans (b.mono HW.out.size))
  have Zg := hid (And.intro HW.out.size b.size)
  clear b
  go_wp2_with fail
  refine (eqRecordS kg kw Qg.out.rd Qw.out.rd HN.out (by omega) R3.out).mono ?_
  rintro e w5 ⟨rfl, b⟩
  replace Qw := hid (Qw.out.below b (Nat.le_refl _))
  replace P2 := hid (P2.out.below b (Nat.le_refl _))
  replace OP2 := hid (owns_below b (Nat.le_refl _) OP2.out)
  replace Qg := hid (Qg.out.below b (Nat.le_refl _))
  replace HW := hid (HW.out.trans (b.mono HW.out.size))
  clear b
  go_wp2_with fail
  refine (toByteS_any cap (H0.out.below HW.out (Nat.le_refl _)) (by omega)).mono ?_
  rintro e w6 ⟨rfl, o, b⟩
  obtain ⟨_, _, e1, r, dd, _⟩ := Reads.place o Hbd.out
  obtain ⟨rfl, _, rfl⟩ := Value.slice.inj e1
  have P3 := hid r
  clear o e1 r dd
  replace Qw := hid (Qw.out.below b (Nat.le_refl _))
  replace P2 := hid (P2.out.below b (Nat.le_refl _))
  replace OP2 := hid (owns_below b (Nat.le_refl _) OP2.out)
  replace Qg := hid (Qg.out.below b (Nat.le_refl _))
  replace HW := hid (HW.out.trans (b.mono HW.out.size))
  clear b
  go_wp2_with fail
  refine (eqByteS_any n n P2.out P3.out (by omega)).mono ?_
  rintro e w7 ⟨rfl, s⟩
  have b := s.below w6.heap.size
  replace Qw := hid (Qw.out.below b (Nat.le_refl _))
  replace P2 := hid (P2.out.below b (Nat.le_refl _))
  replace OP2 := hid (owns_below b (Nat.le_refl _) OP2.out)
  replace Qg := hid (Qg.out.below b (Nat.le_refl _))
  replace P3 := hid (P3.out.below b (Nat.le_refl _))
  replace HW := hid (HW.out.trans (b.mono HW.out.size))
  clear b s
  clear P3
  go_wp2_with fail
  refine (markByteS_any 1 (by omega) (by omega) (by omega) OP2.out).mono ?_
  rintro e w8 ⟨rfl, _, g9⟩
  have z1 := Zw.out
  have z3 := ZP2.out
  have z4 := Zg.out
  have hp := DP2.out
  have ww := Within.grown g9 (fun k hk => hp.ge k hk)
  replace Qw := hid (Qw.out.within ww (.inl (by omega)))
  replace Qg := hid (Qg.out.within ww (.inr (by omega)))
  replace HW := hid (HW.out.grown g9 HW.out.size (fun k hk => by have := hp.ge k hk; omega))
  have hn0 : 0 ≤ (n : Int) := by omega
  clear g9 hp ww z1 z3 z4 OP2 P2
  go_wp2_with fail
  refine (eqRecordS kg kw Qg.out.rd Qw.out.rd HN.out (by omega) R3.out).mono ?_
  rintro e w9 ⟨rfl, b⟩
  replace Qw := hid (Qw.out.below b (Nat.le_refl _))
  replace Qg := hid (Qg.out.below b (Nat.le_refl _))
  replace HW := hid (HW.out.trans (b.mono HW.out.size))
  clear b
  go_wp2_with fail
  refine (markR 1 Qg.out HN.out (by omega) R1.out (by omega) (by omega) R3.out).mono ?_
  rintro e w10 ⟨rfl, l, ww⟩
  rw [HT.out]
  have z1 := Zw.out
  have z3 := ZP2.out
  have z4 := Zg.out
  have HM := hid l
  have bb := ww.below (by have := Qg.out.le; omega)
  replace Qw := hid (Qw.out.within ww (.inl (by omega)))
  replace HW := hid (HW.out.trans (bb.mono (by omega)))
  have hT0 : 0 ≤ (T : Int) := by omega
  clear l ww bb z1 z3 z4 Qg
  go_wp2_with fail
  refine (heldRecordS kg 1 HM.out.rd HN.out (by omega) (by have := R1.out; omega) (by omega) (by omega) R3.out).mono ?_
  rintro e w11 ⟨rfl, rfl⟩
  rw [HT.out]
  go_wp2_with fail
  refine (toByteS_any cap (H0.out.below HW.out (Nat.le_refl _)) (by omega)).mono ?_
  rintro e w12 ⟨rfl, o, b⟩
  obtain ⟨_, _, e1, r, dd, _⟩ := Reads.place o Hbd.out
  obtain ⟨rfl, _, rfl⟩ := Value.slice.inj e1
  have P4 := hid r
  clear o e1 r dd
  replace Qw := hid (Qw.out.below b (Nat.le_refl _))
  replace HM := hid (HM.out.below b (Nat.le_refl _))
  replace HW := hid (HW.out.trans (b.mono HW.out.size))
  clear b
  go_wp2_with fail
  refine (FI.out _ _ P4.out).mono ?_
  rintro e w13 ⟨v, rfl, o, b⟩
  obtain ⟨ah, kh, ev, _⟩ := o.reads
  rw [HN.out] at ev
  subst ev
  have Qh := hid (Lst.mk o (Nat.le_refl _))
  clear o
  replace Qw := hid (Qw.out.below b (Nat.le_refl _))
  replace HM := hid (HM.out.below b (Nat.le_refl _))
  replace P4 := hid (P4.out.below b (Nat.le_refl _))
  replace HW := hid (HW.out.trans (b.mono HW.out.size))
  have Zh := hid (And.intro HW.out.size b.size)
  clear b
  go_wp2_with fail
  refine (eqRecordS kh kw Qh.out.rd Qw.out.rd HN.out (by omega) R3.out).mono ?_
  rintro e w14 ⟨rfl, b⟩
  replace Qw := hid (Qw.out.below b (Nat.le_refl _))
  replace HM := hid (HM.out.below b (Nat.le_refl _))
  replace P4 := hid (P4.out.below b (Nat.le_refl _))
  replace Qh := hid (Qh.out.below b (Nat.le_refl _))
  replace HW := hid (HW.out.trans (b.mono HW.out.size))
  clear b
  go_wp2_with fail
  refine (heldRecordS kg 1 HM.out.rd HN.out (by omega) (by have := R1.out; omega) (by omega) (by omega) R3.out).mono ?_
  rintro e w15 ⟨rfl, rfl⟩
  rw [HT.out]
  go_wp2_with fail
  go_ret
  exact ⟨rfl, HW.out⟩
end Go.Proofs.Ytgdnjpdheghfoaa
