/- FnExactRecordAt's walk. -/
import Derived.Test.YtgdnjpdheghfoaaRai
import Derived.Test.YtgdnjpdheghfoaaRas
namespace Go.Proofs.Ytgdnjpdheghfoaa
open Go.RowKit
set_option maxRecDepth 100000

set_option maxHeartbeats 12800000 in
theorem exactRecordAt {ad : Option Addr} {n : Nat} (cap : Nat) {zs : List Int} {w : World} (h : Reads w ad n zs) (hm : n ≤ maxLen) (at' : Int) (h1 : -9223372036854775808 ≤ at') (h2 : at' ≤ 9223372036854775807) :
    Calls Try.prog 7 #[.slice ad n cap, .int .i64 at'] w fun e w' => e = .returned (.bool true) ∧ Below w.heap.size w w' := by
  unfold maxLen at hm
  by_cases hbig : 1048576 < n
  · have hb' : (1048576 : Int) < (n : Int) := by omega
    go_enter Try.func7, Try.ntmps7
    go_wp2_with fail
    go_ret
    exact ⟨rfl, Below.refl _ _⟩
  have hn : n ≤ 1048576 := by omega
  have hn' : ¬ (1048576 : Int) < (n : Int) := by omega
  have fs := fun (W : World) (x : Nat) (hr : Reads W (some ⟨x, 0, none⟩) n zs) => spec_RecordAt n hr (by omega) (Nat.le_refl _) at' h1 h2
  have fi := fun (W : World) (x : Nat) (hr : Reads W (some ⟨x, 0, none⟩) n zs) => impl_RecordAt n hr (by omega) (Nat.le_refl _) at' h1 h2
  have r1 := ra_r_bd h.bd at'
  have r2 := ra_r_len zs at'
  have r3 := ra_n_bd h.bd at'
  generalize raOf zs at' = RA0 at *
  obtain ⟨⟨K, L, X, P, S, Dt⟩, NX, CD⟩ := RA0
  simp only at fs fi r1 r2 r3
  obtain ⟨N, hN⟩ : ∃ m, Dt.length = m := ⟨_, rfl⟩
  rw [hN] at fs fi r2
  have FS := hid fs
  have FI := hid fi
  have HBD := hid r1
  have Hbd := hid h.bd
  have q1 : (NX != NX) = false := by simp
  have q2 : (CD != CD) = false := by simp
  have H0 := hid h
  have HW := hid (Below.refl w.heap.size w)
  clear fs fi r1 r3 hN h hbig
  go_enter Try.func7, Try.ntmps7
  go_wp2_with fail
  refine (toByteS_any cap (H0.out.below HW.out (Nat.le_refl _)) (by omega)).mono ?_
  rintro e w1 ⟨rfl, o, b⟩
  obtain ⟨_, _, e1, r, dd, _⟩ := Reads.place o Hbd.out
  obtain ⟨rfl, _, rfl⟩ := Value.slice.inj e1
  have P1 := hid r
  clear o e1 r dd
  replace HW := hid (HW.out.trans (b.mono HW.out.size))
  clear b
  go_wp2_with fail
  refine (FS.out _ _ P1.out).mono ?_
  rintro e w2 ⟨v, rfl, o, b⟩
  obtain ⟨aw, kw, rfl, r, dd, _⟩ := Reads.place o HBD.out
  have Qw := hid r
  have Dw := hid dd
  clear o r dd
  replace P1 := hid (P1.out.below b (Nat.le_refl _))
  replace HW := hid (HW.out.trans (b.mono HW.out.size))
  have Zw := hid (And.intro HW.out.size b.size)
  clear b
  have Xw := hid (BoxR.new w2 K L X P S aw N kw 36)
  have bM := Below.alloc1 w2 (.cells #[.int .i64 K, .int .i64 L, .int .i64 X, .int .i64 P, .int .i64 S, .slice aw N kw] 36)
  have Yw := hid (alloc_size w2 (.cells #[.int .i64 K, .int .i64 L, .int .i64 X, .int .i64 P, .int .i64 S, .slice aw N kw] 36))
  replace P1 := hid (P1.out.below bM (Nat.le_refl _))
  replace Qw := hid (Qw.out.below bM (Nat.le_refl _))
  replace HW := hid (HW.out.trans (bM.mono HW.out.size))
  clear P1
  clear bM
  go_wp2_with fail
  generalize w2.alloc (.cells #[.int .i64 K, .int .i64 L, .int .i64 X, .int .i64 P, .int .i64 S, .slice aw N kw] 36) = t1 at *
  generalize w2.heap.size = Gw at *
  refine (toByteS_any cap (H0.out.below HW.out (Nat.le_refl _)) (by omega)).mono ?_
  rintro e w3 ⟨rfl, o, b⟩
  obtain ⟨_, _, e1, r, dd, _⟩ := Reads.place o Hbd.out
  obtain ⟨rfl, _, rfl⟩ := Value.slice.inj e1
  have P2 := hid r
  have OP2 := hid o
  have DP2 := hid dd
  clear o e1 r dd
  replace Qw := hid (Qw.out.below b (Nat.le_refl _))
  replace Xw := hid (Xw.out.below b (Nat.le_refl _))
  replace HW := hid (HW.out.trans (b.mono HW.out.size))
  have ZP2 := hid b.size
  clear b
  go_wp2_with fail
  refine (FI.out _ _ P2.out).mono ?_
  rintro e w4 ⟨v, rfl, o, b⟩
  obtain ⟨ag, kg, rfl, r, dd, _⟩ := Reads.place o HBD.out
  have Qg := hid r
  have Og := hid o
  have Dg := hid dd
  clear o r dd
  replace Qw := hid (Qw.out.below b (Nat.le_refl _))
  replace Xw := hid (Xw.out.below b (Nat.le_refl _))
  replace P2 := hid (P2.out.below b (Nat.le_refl _))
  replace OP2 := hid (owns_below b (Nat.le_refl _) OP2.out)
  replace HW := hid (HW.out.trans (b.mono HW.out.size))
  have Zg := hid (And.intro HW.out.size b.size)
  clear b
  have Xg := hid (BoxR.new w4 K L X P S ag N kg 36)
  have bM := Below.alloc1 w4 (.cells #[.int .i64 K, .int .i64 L, .int .i64 X, .int .i64 P, .int .i64 S, .slice ag N kg] 36)
  have Yg := hid (alloc_size w4 (.cells #[.int .i64 K, .int .i64 L, .int .i64 X, .int .i64 P, .int .i64 S, .slice ag N kg] 36))
  replace Qw := hid (Qw.out.below bM (Nat.le_refl _))
  replace Xw := hid (Xw.out.below bM (Nat.le_refl _))
  replace P2 := hid (P2.out.below bM (Nat.le_refl _))
  replace OP2 := hid (owns_below bM (Nat.le_refl _) OP2.out)
  replace Qg := hid (Qg.out.below bM (Nat.le_refl _))
  replace Og := hid (owns_below bM (Nat.le_refl _) Og.out)
  replace HW := hid (HW.out.trans (bM.mono HW.out.size))
  clear bM
  obtain ⟨c00, c01, c02, c03, c04, c05⟩ := Xg.out
  obtain ⟨c10, c11, c12, c13, c14, c15⟩ := Xw.out
  go_wp2_with fail
  generalize w4.alloc (.cells #[.int .i64 K, .int .i64 L, .int .i64 X, .int .i64 P, .int .i64 S, .slice ag N kg] 36) = t2 at *
  generalize w4.heap.size = Gg at *
  clear c00 c01 c02 c03 c04 c05 c10 c11 c12 c13 c14 c15
  refine (eqRecord K L X P S kg kw Qg.out Qw.out (by omega)).mono ?_
  rintro e w5 ⟨rfl, b⟩
  replace Qw := hid (Qw.out.below b (Nat.le_refl _))
  replace Xw := hid (Xw.out.below b (Nat.le_refl _))
  replace P2 := hid (P2.out.below b (Nat.le_refl _))
  replace OP2 := hid (owns_below b (Nat.le_refl _) OP2.out)
  replace Qg := hid (Qg.out.below b (Nat.le_refl _))
  replace Og := hid (owns_below b (Nat.le_refl _) Og.out)
  replace Xg := hid (Xg.out.below b (Nat.le_refl _))
  replace HW := hid (HW.out.trans (b.mono HW.out.size))
  clear b
  go_wp2_with fail
  refine (toByteS_any cap (H0.out.below HW.out (Nat.le_refl _)) (by omega)).mono ?_
  rintro e w6 ⟨rfl, o, b⟩
  obtain ⟨_, _, e1, r, dd, _⟩ := Reads.place o Hbd.out
  obtain ⟨rfl, _, rfl⟩ := Value.slice.inj e1
  have P3 := hid r
  clear o e1 r dd
  replace Qw := hid (Qw.out.below b (Nat.le_refl _))
  replace Xw := hid (Xw.out.below b (Nat.le_refl _))
  replace P2 := hid (P2.out.below b (Nat.le_refl _))
  replace OP2 := hid (owns_below b (Nat.le_refl _) OP2.out)
  replace Qg := hid (Qg.out.below b (Nat.le_refl _))
  replace Og := hid (owns_below b (Nat.le_refl _) Og.out)
  replace Xg := hid (Xg.out.below b (Nat.le_refl _))
  replace HW := hid (HW.out.trans (b.mono HW.out.size))
  clear b
  go_wp2_with fail
  refine (eqByteS_any n n P2.out P3.out (by omega)).mono ?_
  rintro e w7 ⟨rfl, s⟩
  have b := s.below w6.heap.size
  replace Qw := hid (Qw.out.below b (Nat.le_refl _))
  replace Xw := hid (Xw.out.below b (Nat.le_refl _))
  replace P2 := hid (P2.out.below b (Nat.le_refl _))
  replace OP2 := hid (owns_below b (Nat.le_refl _) OP2.out)
  replace Qg := hid (Qg.out.below b (Nat.le_refl _))
  replace Og := hid (owns_below b (Nat.le_refl _) Og.out)
  replace Xg := hid (Xg.out.below b (Nat.le_refl _))
  replace P3 := hid (P3.out.below b (Nat.le_refl _))
  replace HW := hid (HW.out.trans (b.mono HW.out.size))
  clear b s
  clear P3
  go_wp2_with fail
  refine (markByteS_any 1 (by omega) (by omega) (by omega) OP2.out).mono ?_
  rintro e w8 ⟨rfl, _, g9⟩
  have z1 := Zw.out
  have z2 := Yw.out
  have z3 := ZP2.out
  have z4 := Zg.out
  have z5 := Yg.out
  have hp := DP2.out
  replace Og := hid (Og.out.kept g9 (Dg.out.own hp (.inr (by omega))))
  replace Qw := hid (Qw.out.other g9 (Dw.out.ne hp (.inl (by omega))))
  replace Qg := hid (Qg.out.other g9 (Dg.out.ne hp (.inr (by omega))))
  replace Xw := hid (Xw.out.other g9 (by intro e; have := hp.ge _ e.symm; omega))
  replace Xg := hid (Xg.out.other g9 (by intro e; have := hp.ge _ e.symm; omega))
  replace HW := hid (HW.out.grown g9 HW.out.size (fun k hk => by have := hp.ge k hk; omega))
  have hn0 : 0 ≤ (n : Int) := by omega
  clear g9 hp z1 z2 z3 z4 z5 OP2 P2
  obtain ⟨c00, c01, c02, c03, c04, c05⟩ := Xg.out
  obtain ⟨c10, c11, c12, c13, c14, c15⟩ := Xw.out
  go_wp2_with fail
  clear c00 c01 c02 c03 c04 c05 c10 c11 c12 c13 c14 c15
  refine (eqRecord K L X P S kg kw Qg.out Qw.out (by omega)).mono ?_
  rintro e w9 ⟨rfl, b⟩
  replace Qw := hid (Qw.out.below b (Nat.le_refl _))
  replace Xw := hid (Xw.out.below b (Nat.le_refl _))
  replace Qg := hid (Qg.out.below b (Nat.le_refl _))
  replace Og := hid (owns_below b (Nat.le_refl _) Og.out)
  replace Xg := hid (Xg.out.below b (Nat.le_refl _))
  replace HW := hid (HW.out.trans (b.mono HW.out.size))
  clear b
  obtain ⟨c00, c01, c02, c03, c04, c05⟩ := Xg.out
  go_wp2_with fail
  clear c00 c01 c02 c03 c04 c05
  refine (markRecord K L X P S 1 (by omega) (by omega) (by omega) Og.out).mono ?_
  rintro e w10 ⟨rfl, o, g9⟩
  have z1 := Zw.out
  have z2 := Yw.out
  have z3 := ZP2.out
  have z4 := Zg.out
  have z5 := Yg.out
  obtain ⟨_, _, e1, r, _⟩ := Reads.own o (marks_bd 1 N)
  obtain ⟨rfl, _, rfl⟩ := Value.slice.inj e1
  have HM := hid r
  replace Qw := hid (Qw.out.other g9 (Dw.out.ne Dg.out (.inl (by omega))))
  replace Xw := hid (Xw.out.other g9 (by intro e; have := Dg.out.ge _ e.symm; omega))
  replace Xg := hid (Xg.out.other g9 (by intro e; have := Dg.out.ge _ e.symm; omega))
  replace HW := hid (HW.out.grown g9 HW.out.size (fun k hk => by have := Dg.out.ge k hk; omega))
  have hN0 : 0 ≤ (N : Int) := by omega
  clear o e1 r g9 z1 z2 z3 z4 z5 Og Qg
  obtain ⟨c00, c01, c02, c03, c04, c05⟩ := Xg.out
  go_wp2_with fail
  clear c00 c01 c02 c03 c04 c05
  refine (heldRecord K L X P S kg 1 HM.out (by omega) (by omega) (by omega)).mono ?_
  rintro e w11 ⟨rfl, b⟩
  replace Qw := hid (Qw.out.below b (Nat.le_refl _))
  replace Xw := hid (Xw.out.below b (Nat.le_refl _))
  replace Xg := hid (Xg.out.below b (Nat.le_refl _))
  replace HM := hid (HM.out.below b (Nat.le_refl _))
  replace HW := hid (HW.out.trans (b.mono HW.out.size))
  clear b
  go_wp2_with fail
  refine (toByteS_any cap (H0.out.below HW.out (Nat.le_refl _)) (by omega)).mono ?_
  rintro e w12 ⟨rfl, o, b⟩
  obtain ⟨_, _, e1, r, dd, _⟩ := Reads.place o Hbd.out
  obtain ⟨rfl, _, rfl⟩ := Value.slice.inj e1
  have P4 := hid r
  clear o e1 r dd
  replace Qw := hid (Qw.out.below b (Nat.le_refl _))
  replace Xw := hid (Xw.out.below b (Nat.le_refl _))
  replace Xg := hid (Xg.out.below b (Nat.le_refl _))
  replace HM := hid (HM.out.below b (Nat.le_refl _))
  replace HW := hid (HW.out.trans (b.mono HW.out.size))
  clear b
  go_wp2_with fail
  refine (FI.out _ _ P4.out).mono ?_
  rintro e w13 ⟨v, rfl, o, b⟩
  obtain ⟨ah, kh, rfl, r, dd, _⟩ := Reads.place o HBD.out
  have Qh := hid r
  have Dh := hid dd
  clear o r dd
  replace Qw := hid (Qw.out.below b (Nat.le_refl _))
  replace Xw := hid (Xw.out.below b (Nat.le_refl _))
  replace Xg := hid (Xg.out.below b (Nat.le_refl _))
  replace HM := hid (HM.out.below b (Nat.le_refl _))
  replace P4 := hid (P4.out.below b (Nat.le_refl _))
  replace HW := hid (HW.out.trans (b.mono HW.out.size))
  have Zh := hid (And.intro HW.out.size b.size)
  clear b
  have Xh := hid (BoxR.new w13 K L X P S ah N kh 36)
  have bM := Below.alloc1 w13 (.cells #[.int .i64 K, .int .i64 L, .int .i64 X, .int .i64 P, .int .i64 S, .slice ah N kh] 36)
  have Yh := hid (alloc_size w13 (.cells #[.int .i64 K, .int .i64 L, .int .i64 X, .int .i64 P, .int .i64 S, .slice ah N kh] 36))
  replace Qw := hid (Qw.out.below bM (Nat.le_refl _))
  replace Xw := hid (Xw.out.below bM (Nat.le_refl _))
  replace Xg := hid (Xg.out.below bM (Nat.le_refl _))
  replace HM := hid (HM.out.below bM (Nat.le_refl _))
  replace P4 := hid (P4.out.below bM (Nat.le_refl _))
  replace Qh := hid (Qh.out.below bM (Nat.le_refl _))
  replace HW := hid (HW.out.trans (bM.mono HW.out.size))
  clear bM
  obtain ⟨c00, c01, c02, c03, c04, c05⟩ := Xh.out
  obtain ⟨c10, c11, c12, c13, c14, c15⟩ := Xw.out
  go_wp2_with fail
  generalize w13.alloc (.cells #[.int .i64 K, .int .i64 L, .int .i64 X, .int .i64 P, .int .i64 S, .slice ah N kh] 36) = t3 at *
  generalize w13.heap.size = Gh at *
  clear c00 c01 c02 c03 c04 c05 c10 c11 c12 c13 c14 c15
  refine (eqRecord K L X P S kh kw Qh.out Qw.out (by omega)).mono ?_
  rintro e w14 ⟨rfl, b⟩
  replace Qw := hid (Qw.out.below b (Nat.le_refl _))
  replace Xw := hid (Xw.out.below b (Nat.le_refl _))
  replace Xg := hid (Xg.out.below b (Nat.le_refl _))
  replace HM := hid (HM.out.below b (Nat.le_refl _))
  replace P4 := hid (P4.out.below b (Nat.le_refl _))
  replace Qh := hid (Qh.out.below b (Nat.le_refl _))
  replace Xh := hid (Xh.out.below b (Nat.le_refl _))
  replace HW := hid (HW.out.trans (b.mono HW.out.size))
  clear b
  obtain ⟨c00, c01, c02, c03, c04, c05⟩ := Xg.out
  go_wp2_with fail
  clear c00 c01 c02 c03 c04 c05
  refine (heldRecord K L X P S kg 1 HM.out (by omega) (by omega) (by omega)).mono ?_
  rintro e w15 ⟨rfl, b⟩
  replace Qw := hid (Qw.out.below b (Nat.le_refl _))
  replace Xw := hid (Xw.out.below b (Nat.le_refl _))
  replace Xg := hid (Xg.out.below b (Nat.le_refl _))
  replace HM := hid (HM.out.below b (Nat.le_refl _))
  replace P4 := hid (P4.out.below b (Nat.le_refl _))
  replace Qh := hid (Qh.out.below b (Nat.le_refl _))
  replace Xh := hid (Xh.out.below b (Nat.le_refl _))
  replace HW := hid (HW.out.trans (b.mono HW.out.size))
  clear b
  go_wp2_with fail
  go_ret
  exact ⟨rfl, HW.out⟩
end Go.Proofs.Ytgdnjpdheghfoaa
