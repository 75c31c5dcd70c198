/- FnExactTupleRead's walk. -/
import Derived.Test.YtlapfmfaammheaaTrc
import Derived.Test.YtlapfmfaammheaaTt
import Derived.Test.YtlapfmfaammheaaTh
import Derived.Test.YtlapfmfaammheaaNzt
namespace Go.Proofs.Ytlapfmfaammheaa
open Go.RowKit
set_option maxRecDepth 100000

set_option maxHeartbeats 12800000 in
theorem exactTupleRead {ad : Option Addr} {n : Nat} (cap : Nat) {zs : List Int} {w : World} (h : Reads w ad n zs) (hm : n ≤ maxLen) :
    Calls Try.prog 7 #[.slice ad n cap] w fun e w' => e = .returned (.bool true) ∧ Below w.heap.size w w' := by
  unfold maxLen at hm
  have bd := hid h.bd
  by_cases hbig : 1048576 < n
  · go_enter Try.func7, Try.ntmps7
    go_wp2_with fail
    go_ret
    exact ⟨rfl, Below.refl _ _⟩
  have hn : n ≤ 1048576 := by omega
  obtain ⟨bZ, lZ, bY, lY⟩ := readT_bd h.bd (by rw [h.len]; exact hn)
  have HS := hid fun (W : World) (ad : Option Addr) (n : Nat) (r : Reads W ad n zs) (hn : n ≤ 1048576) => spec_TupleRead r hn
  have HI := hid fun (W : World) (ad : Option Addr) (n cap : Nat) (hc : n ≤ cap) (r : Reads W ad n zs) (hn : n ≤ 1048576) => impl_TupleRead cap hc r hn
  generalize readT zs = T at *
  obtain ⟨A, B, K, N, F, Z, L, M, H, Y, ok⟩ := T
  have BZ := hid bZ
  have BY := hid bY
  dsimp only at lZ lY BZ BY
  replace HS : Hid (∀ (W : World) (ad : Option Addr) (n : Nat), Reads W ad n zs → n ≤ 1048576 → Calls Try.prog 36 #[.slice ad n n] W fun e w' => ∃ (f1 : Nat) (v1 : Value) (f2 : Nat) (v2 : Value), e = .returned (.tuple #[.agg #[.int .i64 A, .int .i64 B, .int .i64 K, .int .i64 N, .float .f64 f1, v1, .int .i64 L, .int .i64 M, .float .f64 f2, v2], .bool ok]) ∧ f1 < 18446744073709551616 ∧ f2 < 18446744073709551616 ∧ Hid (Same F f1) ∧ Hid (Same H f2) ∧ w'.ownsRow W.heap.size 5 1 v1 Z.length (bys Z) ∧ w'.ownsRow W.heap.size 5 1 v2 Y.length (bys Y) ∧ Apart v1 v2 ∧ Below W.heap.size W w') := HS
  replace HI : Hid (∀ (W : World) (ad : Option Addr) (n cap : Nat), n ≤ cap → Reads W ad n zs → n ≤ 1048576 → Calls Try.prog 26 #[.slice ad n cap] W fun e w' => ∃ (f1 : Nat) (v1 : Value) (f2 : Nat) (v2 : Value), e = .returned (.tuple #[.agg #[.int .i64 A, .int .i64 B, .int .i64 K, .int .i64 N, .float .f64 f1, v1, .int .i64 L, .int .i64 M, .float .f64 f2, v2], .bool ok]) ∧ f1 < 18446744073709551616 ∧ f2 < 18446744073709551616 ∧ Hid (Same F f1) ∧ Hid (Same H f2) ∧ w'.ownsRow W.heap.size 5 1 v1 Z.length (bys Z) ∧ w'.ownsRow W.heap.size 5 1 v2 Y.length (bys Y) ∧ Apart v1 v2 ∧ Below W.heap.size W w') := HI
  have HA := hid h
  have HH := hid h
  have HB := hid (Below.refl w.heap.size w)
  clear h bZ bY
  go_enter Try.func7, Try.ntmps7
  go_wp2_with fail
  refine (toByteS_any cap HA.out (by omega)).mono ?_
  rintro e w2 ⟨rfl, o, b⟩
  replace HA := hid (HA.out.below b (Nat.le_refl _))
  replace HB := hid (HB.out.trans (b.mono HB.out.size))
  obtain ⟨_, _, e1, p, _⟩ := Reads.own o bd.out
  obtain ⟨rfl, _, rfl⟩ := Value.slice.inj e1
  have P := hid p
  have L0 := hid b.size
  clear o b e1 p
  go_wp2_with fail
  refine (HS.out _ _ _ P.out hn).mono ?_
  rintro e w3 ⟨s1, u1, s2, u2, rfl, hs1f, hs2f, Ss1, Ss2, o1, o2, ap, b⟩
  obtain ⟨as1, cs1, rfl, r1, dd1, _⟩ := Reads.place o1 BZ.out
  obtain ⟨as2, cs2, rfl, r2, dd2, _⟩ := Reads.place o2 BY.out
  have hss1 := fun w a m => run_store Try.prog w a (.float .f64 s1) m rfl
  have hss2 := fun w a m => run_store Try.prog w a (.float .f64 s2) m rfl
  have Rs1 := hid r1
  have Rs2 := hid r2
  have Ds1 := hid dd1
  have Ds2 := hid dd2
  replace HA := hid (HA.out.below b (Nat.le_refl _))
  replace HB := hid (HB.out.trans (b.mono HB.out.size))
  clear b o1 o2 r1 r2 dd1 dd2 ap P L0
  go_wp2_with fail
  have bM := Below.alloc1 w3 (.cells #[.int .i64 A, .int .i64 B, .int .i64 K, .int .i64 N, .float .f64 s1, .slice as1 Z.length cs1, .int .i64 L, .int .i64 M, .float .f64 s2, .slice as2 Y.length cs2] 40)
  have HQ := hid (ArgT.new A B K N s1 as1 Z.length cs1 L M s2 as2 Y.length cs2 Rs1.out Rs2.out 40 w3.heap.size rfl)
  replace HA := hid (HA.out.below bM (Nat.le_refl _))
  replace Rs1 := hid (Rs1.out.below bM (Nat.le_refl _))
  replace Rs2 := hid (Rs2.out.below bM (Nat.le_refl _))
  replace HB := hid (HB.out.trans (bM.mono HB.out.size))
  have HQl := hid (show w3.heap.size + 1 ≤ (w3.alloc (.cells #[.int .i64 A, .int .i64 B, .int .i64 K, .int .i64 N, .float .f64 s1, .slice as1 Z.length cs1, .int .i64 L, .int .i64 M, .float .f64 s2, .slice as2 Y.length cs2] 40)).heap.size by rw [alloc_size]; omega)
  clear bM
  generalize w3.alloc (.cells #[.int .i64 A, .int .i64 B, .int .i64 K, .int .i64 N, .float .f64 s1, .slice as1 Z.length cs1, .int .i64 L, .int .i64 M, .float .f64 s2, .slice as2 Y.length cs2] 40) = t0 at *
  generalize w3.heap.size = S0 at *
  clear Rs1 Rs2
  refine (toByteS_any cap HA.out (by omega)).mono ?_
  rintro e w4 ⟨rfl, o, b⟩
  have x1 : t0.heap.size < w4.heap.size := (o.lt t0.heap.size rfl).2
  have X1 := hid x1
  have X0 := hid (show S0 + 1 ≤ t0.heap.size from HQl.out)
  have XB := hid (show w.heap.size ≤ t0.heap.size from HB.out.size)
  replace HA := hid (HA.out.below b (Nat.le_refl _))
  replace HQ := hid (HQ.out.below b (Nat.le_refl _))
  replace HQl := hid (Nat.le_trans HQl.out b.size)
  replace HB := hid (HB.out.trans (b.mono HB.out.size))
  obtain ⟨_, _, e1, p, _⟩ := Reads.own o bd.out
  obtain ⟨rfl, _, rfl⟩ := Value.slice.inj e1
  have RX := hid p
  have OX := hid o
  clear o b e1 p x1
  generalize t0.heap.size = x at *
  go_wp2_with fail
  refine (HI.out _ _ _ n (Nat.le_refl _) RX.out hn).mono ?_
  rintro e w5 ⟨i1, u1, i2, u2, rfl, hi1, hi2, Si1, Si2, o1, o2, ap, b⟩
  obtain ⟨ai1, ci1, rfl, r1, dd1, _⟩ := Reads.place o1 BZ.out
  obtain ⟨ai2, ci2, rfl, r2, dd2, _⟩ := Reads.place o2 BY.out
  have hsi1 := fun w a m => run_store Try.prog w a (.float .f64 i1) m rfl
  have hsi2 := fun w a m => run_store Try.prog w a (.float .f64 i2) m rfl
  have Ri1 := hid r1
  have Ri2 := hid r2
  have Di1 := hid dd1
  have Di2 := hid dd2
  have Oi1 := hid o1
  have Oi2 := hid o2
  have Ap := hid ap
  have TC := hid b.size
  have TB := hid (show w.heap.size ≤ w4.heap.size from HB.out.size)
  replace HA := hid (HA.out.below b (Nat.le_refl _))
  replace HQ := hid (HQ.out.below b (Nat.le_refl _))
  replace HQl := hid (Nat.le_trans HQl.out b.size)
  replace RX := hid (RX.out.below b (Nat.le_refl _))
  replace OX := hid (owns_below b (Nat.le_refl _) OX.out)
  replace HB := hid (HB.out.trans (b.mono HB.out.size))
  clear b o1 o2 r1 r2 dd1 dd2 ap
  generalize w4.heap.size = TT at *
  have bM := Below.alloc1 w5 (.cells #[.int .i64 A, .int .i64 B, .int .i64 K, .int .i64 N, .float .f64 i1, .slice ai1 Z.length ci1, .int .i64 L, .int .i64 M, .float .f64 i2, .slice ai2 Y.length ci2] 40)
  have HG := hid (ArgT.new A B K N i1 ai1 Z.length ci1 L M i2 ai2 Y.length ci2 Ri1.out Ri2.out 40 w5.heap.size rfl)
  replace HA := hid (HA.out.below bM (Nat.le_refl _))
  replace HQ := hid (HQ.out.below bM (Nat.le_refl _))
  replace HQl := hid (Nat.le_trans HQl.out bM.size)
  replace RX := hid (RX.out.below bM (Nat.le_refl _))
  replace OX := hid (owns_below bM (Nat.le_refl _) OX.out)
  replace Oi1 := hid (owns_below bM (Nat.le_refl _) Oi1.out)
  replace Oi2 := hid (owns_below bM (Nat.le_refl _) Oi2.out)
  replace Ri1 := hid (Ri1.out.below bM (Nat.le_refl _))
  replace Ri2 := hid (Ri2.out.below bM (Nat.le_refl _))
  replace HB := hid (HB.out.trans (bM.mono HB.out.size))
  have hqq := HQ.out.box
  obtain ⟨d0, d1, d2, d3, d4, d5, d6, d7, d8, d9⟩ := hqq
  go_wp2_with fail
  clear d0 d1 d2 d3 d4 d5 d6 d7 d8 d9 bM
  generalize w5.alloc (.cells #[.int .i64 A, .int .i64 B, .int .i64 K, .int .i64 N, .float .f64 i1, .slice ai1 Z.length ci1, .int .i64 L, .int .i64 M, .float .f64 i2, .slice ai2 Y.length ci2] 40) = t2 at *
  generalize w5.heap.size = CC at *
  clear Ri1 Ri2
  have hok1 : (ok != ok) = false := by cases ok <;> rfl
  refine (eqTuple A B K N i1 s1 ci1 cs1 L M i2 s2 ci2 cs2 hi1 hs1f hi2 hs2f (hid (Same.both Si1.out Ss1.out)) (hid (Same.both Si2.out Ss2.out)) HG.out.rk HQ.out.rk HG.out.rv HQ.out.rv (by omega) (by omega)).mono ?_
  rintro e w6 ⟨rfl, b⟩
  replace HA := hid (HA.out.below b (Nat.le_refl _))
  replace HQ := hid (HQ.out.below b (Nat.le_refl _))
  replace HQl := hid (Nat.le_trans HQl.out b.size)
  replace RX := hid (RX.out.below b (Nat.le_refl _))
  replace OX := hid (owns_below b (Nat.le_refl _) OX.out)
  replace Oi1 := hid (owns_below b (Nat.le_refl _) Oi1.out)
  replace Oi2 := hid (owns_below b (Nat.le_refl _) Oi2.out)
  replace HG := hid (HG.out.below b (Nat.le_refl _))
  replace HB := hid (HB.out.trans (b.mono HB.out.size))
  clear b
  go_wp2_with fail
  refine (toByteS_any cap HA.out (by omega)).mono ?_
  rintro e w7 ⟨rfl, o, b⟩
  replace HA := hid (HA.out.below b (Nat.le_refl _))
  replace HQ := hid (HQ.out.below b (Nat.le_refl _))
  replace HQl := hid (Nat.le_trans HQl.out b.size)
  replace RX := hid (RX.out.below b (Nat.le_refl _))
  replace OX := hid (owns_below b (Nat.le_refl _) OX.out)
  replace Oi1 := hid (owns_below b (Nat.le_refl _) Oi1.out)
  replace Oi2 := hid (owns_below b (Nat.le_refl _) Oi2.out)
  replace HG := hid (HG.out.below b (Nat.le_refl _))
  replace HB := hid (HB.out.trans (b.mono HB.out.size))
  obtain ⟨_, _, e1, p, _⟩ := Reads.own o bd.out
  obtain ⟨rfl, _, rfl⟩ := Value.slice.inj e1
  have P := hid p
  clear o b e1 p
  go_wp2_with fail
  refine (eqByteS_any n n RX.out P.out (by omega)).mono ?_
  rintro e w8 ⟨rfl, s⟩
  have b := s.below w7.heap.size
  replace HA := hid (HA.out.below b (Nat.le_refl _))
  replace HQ := hid (HQ.out.below b (Nat.le_refl _))
  replace HQl := hid (Nat.le_trans HQl.out b.size)
  replace RX := hid (RX.out.below b (Nat.le_refl _))
  replace OX := hid (owns_below b (Nat.le_refl _) OX.out)
  replace Oi1 := hid (owns_below b (Nat.le_refl _) Oi1.out)
  replace Oi2 := hid (owns_below b (Nat.le_refl _) Oi2.out)
  replace HG := hid (HG.out.below b (Nat.le_refl _))
  replace HB := hid (HB.out.trans (b.mono HB.out.size))
  clear b s P
  go_wp2_with fail
  refine (markByteS_any 1 (by omega) (by omega) (by omega) OX.out).mono ?_
  rintro e w9 ⟨rfl, _, g⟩
  have z0 := X0.out
  have z1 := X1.out
  have z2 := TC.out
  have z3 := XB.out
  have z4 := TB.out
  have DX : In (some ⟨x, 0, none⟩) x (x + 1) := .inr ⟨x, rfl, Nat.le_refl _, by omega⟩
  replace HB := hid (HB.out.grown g HB.out.size (fun k hk => by have := DX.ge k hk; omega))
  replace HA := hid (HH.out.below HB.out (Nat.le_refl _))
  replace HQ := hid (HQ.out.other g (fun e => by have := DX.ge _ e.symm; omega) (HQ.out.rk.other g (Ds1.out.ne DX (.inl (by omega)))) (HQ.out.rv.other g (Ds2.out.ne DX (.inl (by omega)))))
  replace HG := hid (HG.out.other g (fun e => by have := DX.ge _ e.symm; omega) (HG.out.rk.other g (Di1.out.ne DX (.inr (by omega)))) (HG.out.rv.other g (Di2.out.ne DX (.inr (by omega)))))
  replace Oi1 := hid (Oi1.out.kept g (Di1.out.own DX (.inr (by omega))))
  replace Oi2 := hid (Oi2.out.kept g (Di2.out.own DX (.inr (by omega))))
  clear g DX RX OX z0 z1 z2 z3 z4
  have hk1 : ¬ (1 + (n : Int)) < 0 := by omega
  obtain ⟨c0, c1, c2, c3, c4, c5, c6, c7, c8, c9⟩ := HG.out.box
  obtain ⟨d0, d1, d2, d3, d4, d5, d6, d7, d8, d9⟩ := HQ.out.box
  go_wp2_with fail
  clear c0 c1 c2 c3 c4 c5 c6 c7 c8 c9 d0 d1 d2 d3 d4 d5 d6 d7 d8 d9
  refine (eqTuple A B K N i1 s1 ci1 cs1 L M i2 s2 ci2 cs2 hi1 hs1f hi2 hs2f (hid (Same.both Si1.out Ss1.out)) (hid (Same.both Si2.out Ss2.out)) HG.out.rk HQ.out.rk HG.out.rv HQ.out.rv (by omega) (by omega)).mono ?_
  rintro e w10 ⟨rfl, b⟩
  replace HA := hid (HA.out.below b (Nat.le_refl _))
  replace HQ := hid (HQ.out.below b (Nat.le_refl _))
  replace HG := hid (HG.out.below b (Nat.le_refl _))
  replace Oi1 := hid (owns_below b (Nat.le_refl _) Oi1.out)
  replace Oi2 := hid (owns_below b (Nat.le_refl _) Oi2.out)
  replace HB := hid (HB.out.trans (b.mono HB.out.size))
  clear b
  clear hk1
  obtain ⟨c0, c1, c2, c3, c4, c5, c6, c7, c8, c9⟩ := HG.out.box
  go_wp2_with fail
  clear c0 c1 c2 c3 c4 c5 c6 c7 c8 c9
  refine (markTuple A B K N i1 L M i2 1 (by omega) (by omega) (by omega) (by omega) Oi1.out Oi2.out Ap.out).mono ?_
  rintro e w11 ⟨rfl, o1, o2, wm, g1, g2⟩
  obtain ⟨_, _, e1, r1, _⟩ := Reads.own o1 (marks_bd 1 Z.length)
  obtain ⟨rfl, _, rfl⟩ := Value.slice.inj e1
  obtain ⟨_, _, e2, r2, _⟩ := Reads.own o2 (marks_bd (1 + Z.length) Y.length)
  obtain ⟨rfl, _, rfl⟩ := Value.slice.inj e2
  have z0 := X0.out
  have z1 := X1.out
  have z2 := TC.out
  have z3 := XB.out
  have z4 := TB.out
  replace HB := hid (HB.out.grown g1 HB.out.size (fun k hk => by have := Di1.out.ge k hk; omega))
  replace HQ := hid (HQ.out.other g1 (fun e => by have := Di1.out.ge _ e.symm; omega) (HQ.out.rk.other g1 (Ds1.out.ne Di1.out (.inl (by omega)))) (HQ.out.rv.other g1 (Ds2.out.ne Di1.out (.inl (by omega)))))
  replace HB := hid (HB.out.grown g2 HB.out.size (fun k hk => by have := Di2.out.ge k hk; omega))
  replace HQ := hid (HQ.out.other g2 (fun e => by have := Di2.out.ge _ e.symm; omega) (HQ.out.rk.other g2 (Ds1.out.ne Di2.out (.inl (by omega)))) (HQ.out.rv.other g2 (Ds2.out.ne Di2.out (.inl (by omega)))))
  have bg := HG.out.box.other g1 (fun e => by have := Di1.out.ge _ e.symm; omega)
  replace HG := hid (ArgT.mk (bg.other g2 (fun e => by have := Di2.out.ge _ e.symm; omega)) r1 r2)
  replace HA := hid (HH.out.below HB.out (Nat.le_refl _))
  clear g1 g2 bg o1 o2 e1 e2 r1 r2 Oi1 Oi2 z0 z1 z2 z3 z4
  have hk2 : ¬ (1 + (Z.length : Int) + (Y.length : Int)) < 0 := by omega
  obtain ⟨c0, c1, c2, c3, c4, c5, c6, c7, c8, c9⟩ := HG.out.box
  go_wp2_with fail
  clear c0 c1 c2 c3 c4 c5 c6 c7 c8 c9
  refine (heldTuple A B K N i1 ci1 L M i2 ci2 1 HG.out.rk HG.out.rv (by omega) (by omega) (by omega) (by omega)).mono ?_
  rintro e w12 ⟨rfl, b⟩
  replace HA := hid (HA.out.below b (Nat.le_refl _))
  replace HQ := hid (HQ.out.below b (Nat.le_refl _))
  replace HG := hid (HG.out.below b (Nat.le_refl _))
  replace HB := hid (HB.out.trans (b.mono HB.out.size))
  clear b
  go_wp2_with fail
  refine (toByteS_any cap HA.out (by omega)).mono ?_
  rintro e w13 ⟨rfl, o, b⟩
  replace HA := hid (HA.out.below b (Nat.le_refl _))
  replace HQ := hid (HQ.out.below b (Nat.le_refl _))
  replace HG := hid (HG.out.below b (Nat.le_refl _))
  replace HB := hid (HB.out.trans (b.mono HB.out.size))
  obtain ⟨_, _, e1, p, _⟩ := Reads.own o bd.out
  obtain ⟨rfl, _, rfl⟩ := Value.slice.inj e1
  have P := hid p
  clear o b e1 p
  go_wp2_with fail
  refine (HI.out _ _ _ n (Nat.le_refl _) P.out hn).mono ?_
  rintro e w14 ⟨j1, u1, j2, u2, rfl, hj1, hj2, Sj1, Sj2, o1, o2, ap, b⟩
  obtain ⟨aj1, cj1, rfl, r1, dd1, _⟩ := Reads.place o1 BZ.out
  obtain ⟨aj2, cj2, rfl, r2, dd2, _⟩ := Reads.place o2 BY.out
  have hsj1 := fun w a m => run_store Try.prog w a (.float .f64 j1) m rfl
  have hsj2 := fun w a m => run_store Try.prog w a (.float .f64 j2) m rfl
  have Rj1 := hid r1
  have Rj2 := hid r2
  replace HA := hid (HA.out.below b (Nat.le_refl _))
  replace HQ := hid (HQ.out.below b (Nat.le_refl _))
  replace HG := hid (HG.out.below b (Nat.le_refl _))
  replace HB := hid (HB.out.trans (b.mono HB.out.size))
  clear b o1 o2 r1 r2 dd1 dd2 ap P
  have bM := Below.alloc1 w14 (.cells #[.int .i64 A, .int .i64 B, .int .i64 K, .int .i64 N, .float .f64 j1, .slice aj1 Z.length cj1, .int .i64 L, .int .i64 M, .float .f64 j2, .slice aj2 Y.length cj2] 40)
  have HJ := hid (ArgT.new A B K N j1 aj1 Z.length cj1 L M j2 aj2 Y.length cj2 Rj1.out Rj2.out 40 w14.heap.size rfl)
  replace HA := hid (HA.out.below bM (Nat.le_refl _))
  replace HQ := hid (HQ.out.below bM (Nat.le_refl _))
  replace HG := hid (HG.out.below bM (Nat.le_refl _))
  replace HB := hid (HB.out.trans (bM.mono HB.out.size))
  obtain ⟨d0, d1, d2, d3, d4, d5, d6, d7, d8, d9⟩ := HQ.out.box
  go_wp2_with fail
  clear d0 d1 d2 d3 d4 d5 d6 d7 d8 d9 bM Rj1 Rj2
  generalize w14.alloc (.cells #[.int .i64 A, .int .i64 B, .int .i64 K, .int .i64 N, .float .f64 j1, .slice aj1 Z.length cj1, .int .i64 L, .int .i64 M, .float .f64 j2, .slice aj2 Y.length cj2] 40) = t3 at *
  generalize w14.heap.size = C3 at *
  refine (eqTuple A B K N j1 s1 cj1 cs1 L M j2 s2 cj2 cs2 hj1 hs1f hj2 hs2f (hid (Same.both Sj1.out Ss1.out)) (hid (Same.both Sj2.out Ss2.out)) HJ.out.rk HQ.out.rk HJ.out.rv HQ.out.rv (by omega) (by omega)).mono ?_
  rintro e w15 ⟨rfl, b⟩
  replace HA := hid (HA.out.below b (Nat.le_refl _))
  replace HQ := hid (HQ.out.below b (Nat.le_refl _))
  replace HG := hid (HG.out.below b (Nat.le_refl _))
  replace HB := hid (HB.out.trans (b.mono HB.out.size))
  clear b
  clear HJ
  obtain ⟨c0, c1, c2, c3, c4, c5, c6, c7, c8, c9⟩ := HG.out.box
  go_wp2_with fail
  clear c0 c1 c2 c3 c4 c5 c6 c7 c8 c9
  refine (heldTuple A B K N i1 ci1 L M i2 ci2 1 HG.out.rk HG.out.rv (by omega) (by omega) (by omega) (by omega)).mono ?_
  rintro e w16 ⟨rfl, b⟩
  replace HA := hid (HA.out.below b (Nat.le_refl _))
  replace HQ := hid (HQ.out.below b (Nat.le_refl _))
  replace HG := hid (HG.out.below b (Nat.le_refl _))
  replace HB := hid (HB.out.trans (b.mono HB.out.size))
  clear b
  go_wp2_with fail
  go_ret
  exact ⟨rfl, HB.out⟩
end Go.Proofs.Ytlapfmfaammheaa
