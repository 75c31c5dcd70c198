/- FnTuples' walk. -/
import Derived.Test.YtlapfmfaammheaaD6
import Derived.Test.YtlapfmfaammheaaTm
import Derived.Test.YtlapfmfaammheaaTrci
import Derived.Test.YtlapfmfaammheaaSmi
import Derived.Test.YtlapfmfaammheaaTbi
import Derived.Test.YtlapfmfaammheaaTl
namespace Go.Proofs.Ytlapfmfaammheaa
open Go.RowKit
set_option maxRecDepth 100000

set_option maxHeartbeats 1600000 in
theorem same_tuple (A B K N : Int) (f f' : Nat) {ad bd : Option Addr} {n : Nat} (cap cp : Nat) (L M : Int) (h h' : Nat) {ad' bd' : Option Addr} {m : Nat} (cap' cp' : Nat) {zs ys : List Int} {w : World} (hf : f < 18446744073709551616) (hf' : f' < 18446744073709551616) (hh : h < 18446744073709551616) (hh' : h' < 18446744073709551616)
    (sf : Hid (fbits f = fbits f')) (sh : Hid (fbits h = fbits h')) (rk : Reads w ad n zs) (rk' : Reads w bd n zs) (rv : Reads w ad' m ys) (rv' : Reads w bd' m ys) :
    Calls Try.prog 27 #[.agg #[.int .i64 A, .int .i64 B, .int .i64 K, .int .i64 N, .float .f64 f, .slice ad n cap, .int .i64 L, .int .i64 M, .float .f64 h, .slice ad' m cap'], .agg #[.int .i64 A, .int .i64 B, .int .i64 K, .int .i64 N, .float .f64 f', .slice bd n cp, .int .i64 L, .int .i64 M, .float .f64 h', .slice bd' m cp']] w fun e w' => e = .returned (.bool true) ∧ Below w.heap.size w w' := by
  have b0 := two w (.cells #[.int .i64 A, .int .i64 B, .int .i64 K, .int .i64 N, .float .f64 f, .slice ad n cap, .int .i64 L, .int .i64 M, .float .f64 h, .slice ad' m cap'] 40) (.cells #[.int .i64 A, .int .i64 B, .int .i64 K, .int .i64 N, .float .f64 f', .slice bd n cp, .int .i64 L, .int .i64 M, .float .f64 h', .slice bd' m cp'] 40)
  have HB := hid b0
  have RK := hid (rk.below b0 (Nat.le_refl _))
  have RK' := hid (rk'.below b0 (Nat.le_refl _))
  have RV := hid (rv.below b0 (Nat.le_refl _))
  have RV' := hid (rv'.below b0 (Nat.le_refl _))
  have R := two_rows w (.cells #[.int .i64 A, .int .i64 B, .int .i64 K, .int .i64 N, .float .f64 f, .slice ad n cap, .int .i64 L, .int .i64 M, .float .f64 h, .slice ad' m cap'] 40) (.cells #[.int .i64 A, .int .i64 B, .int .i64 K, .int .i64 N, .float .f64 f', .slice bd n cp, .int .i64 L, .int .i64 M, .float .f64 h', .slice bd' m cp'] 40)
  have H1 := hid (BoxT.row R.1)
  have H2 := hid (BoxT.row R.2.1)
  have q1 : decide (K = K ∧ N = N ∧ fbits f = fbits f' ∧ zs = zs) = true := decide_eq_true ⟨rfl, rfl, sf.out, rfl⟩
  have q2 : decide (L = L ∧ M = M ∧ fbits h = fbits h' ∧ ys = ys) = true := decide_eq_true ⟨rfl, rfl, sh.out, rfl⟩
  have I1 : Hid (∀ W, Reads W ad n zs → Reads W bd n zs → _) := hid fun W (r : Reads W ad n zs) (r' : Reads W bd n zs) => law_same K N K N f f' cap cp hf hf' r r'
  have I2 : Hid (∀ W, Reads W ad' m ys → Reads W bd' m ys → _) := hid fun W (r : Reads W ad' m ys) (r' : Reads W bd' m ys) => law_same L M L M h h' cap' cp' hh hh' r r'
  rw [q1] at I1
  rw [q2] at I2
  clear b0 R rk rk' rv rv' q1 q2
  have qA : (A == A) = true := by simp
  have qB : (B == B) = true := by simp
  go_enter Try.func27, Try.ntmps27
  go_wp2_with fail
  refine (I1.out _ RK.out RK'.out).mono ?_
  rintro e w1 ⟨rfl, b1⟩
  obtain ⟨x0, x1, x2, x3, x4, x5, x6, x7, x8, x9⟩ := H1.out.below b1 (Nat.le_refl _)
  obtain ⟨y0, y1, y2, y3, y4, y5, y6, y7, y8, y9⟩ := H2.out.below b1 (Nat.le_refl _)
  replace HB := hid (HB.out.trans (b1.mono HB.out.size))
  replace RV := hid (RV.out.below b1 (Nat.le_refl _))
  replace RV' := hid (RV'.out.below b1 (Nat.le_refl _))
  clear b1 H1 H2
  go_wp2_with fail
  clear x0 x1 x2 x3 x4 x5 x6 x7 x8 x9 y0 y1 y2 y3 y4 y5 y6 y7 y8 y9
  refine (I2.out _ RV.out RV'.out).mono ?_
  rintro e w2 ⟨rfl, b1⟩
  replace HB := hid (HB.out.trans (b1.mono HB.out.size))
  clear b1
  go_wp2_with fail
  go_ret
  exact ⟨rfl, HB.out⟩

set_option maxHeartbeats 12800000 in
theorem lawTuples {ad : Option Addr} {n : Nat} (cap : Nat) {zs : List Int} {w : World} (r : Reads w ad n zs) (hm : n ≤ maxLen) :
    Calls Try.prog 4 #[.slice ad n cap] w fun e w' => e = .returned (.bool true) ∧ Below w.heap.size w w' := by
  unfold maxLen at hm
  have HR := hid r
  have HB := hid (Below.refl w.heap.size w)
  have hbg := law_big ad n cap
  clear r
  go_enter Try.func4, Try.ntmps4
  go_wp2_with fail
  refine (hbg _).mono ?_
  rintro e w0 ⟨rfl, hw0⟩
  subst w0
  clear hbg
  by_cases hbig : (1048576 : Int) < (n : Int)
  · rw [decide_eq_true hbig]
    go_wp2_with fail
    go_ret
    exact ⟨rfl, HB.out⟩
  rw [decide_eq_false hbig]
  have hn : n ≤ 2097152 := by omega
  clear hbig
  go_wp2_with fail
  refine (drawTuple cap HR.out hn).mono ?_
  rintro e w1 ⟨A, B, K, N, f, a1, n1, c1, D1, L, M, h, a2, n2, c2, D2, rfl, I1, I2, b⟩
  have hst1 := fun w a m => run_store Try.prog w a (.float .f64 f) m rfl
  have hst2 := fun w a m => run_store Try.prog w a (.float .f64 h) m rfl
  have J1 := hid I1
  have J2 := hid I2
  have hf := I1.f0
  have hh := I2.f0
  have m1 := I1.m0
  have m2 := I2.m0
  have hN : -9223372036854775808 ≤ N ∧ N ≤ 9223372036854775807 := ⟨I1.n0, I1.n1⟩
  have hM : -9223372036854775808 ≤ M ∧ M ≤ 9223372036854775807 := ⟨I2.n0, I2.n1⟩
  replace HB := hid (HB.out.trans (b.mono HB.out.size))
  clear b I1 I2 HR
  have bA := Below.alloc1 w1 (.cells #[.int .i64 A, .int .i64 B, .int .i64 K, .int .i64 N, .float .f64 f, .slice a1 n1 c1, .int .i64 L, .int .i64 M, .float .f64 h, .slice a2 n2 c2] 40)
  have HT := hid (ArgT.new A B K N f a1 n1 c1 L M h a2 n2 c2 J1.out.rd J2.out.rd 40 w1.heap.size rfl)
  replace HB := hid (HB.out.trans (bA.mono HB.out.size))
  clear bA
  go_wp2_with fail
  generalize w1.alloc (.cells #[.int .i64 A, .int .i64 B, .int .i64 K, .int .i64 N, .float .f64 f, .slice a1 n1 c1, .int .i64 L, .int .i64 M, .float .f64 h, .slice a2 n2 c2] 40) = U1 at *
  generalize w1.heap.size = p at *
  obtain ⟨BL, hBL⟩ : ∃ BL, bytesT A B K N f n1 D1 L M h n2 D2 = BL := ⟨_, rfl⟩
  have IB := hid (impl_TupleBytes A B K N f c1 L M h c2 HT.out.rk HT.out.rv J1.out.nl J2.out.nl (by omega) (by omega) hN hM hf hh)
  have bB := hid (bytesT_bd (A := A) (B := B) (K := K) (N := N) (f := f) (L := L) (M := M) (h := h) HT.out.rk.bd HT.out.rv.bd HT.out.rk.len HT.out.rv.len)
  rw [hBL] at IB bB
  refine IB.out.mono ?_
  rintro e w2 ⟨v, rfl, o, b⟩
  obtain ⟨aB, cB, rfl, rB, _, _⟩ := Reads.place o bB.out
  have capB := own_le o
  have RB := hid rB
  replace HT := hid (HT.out.below b (Nat.le_refl _))
  replace HB := hid (HB.out.trans (b.mono HB.out.size))
  clear b o rB IB
  obtain ⟨x0, x1, x2, x3, x4, x5, x6, x7, x8, x9⟩ := HT.out.box
  go_wp2_with fail
  clear x0 x1 x2 x3 x4 x5 x6 x7 x8 x9
  refine (spec_TupleOk A B K N f a1 n1 c1 L M h a2 n2 c2 hf hh (by omega) (by omega) _).mono ?_
  rintro e w3 ⟨rfl, b⟩
  replace HT := hid (HT.out.below b (Nat.le_refl _))
  replace RB := hid (RB.out.below b (Nat.le_refl _))
  replace HB := hid (HB.out.trans (b.mono HB.out.size))
  clear b
  have lz := HT.out.rk.len
  have ly := HT.out.rv.len
  obtain ⟨ok, hok⟩ : ∃ b, okT A B K N f n1 L M h n2 = b := ⟨_, rfl⟩
  rw [hok]
  cases ok
  · have h0 : BL = [] := by rw [← hBL, bytesT, if_neg (by rw [hok]; simp)]
    subst h0
    obtain ⟨x0, x1, x2, x3, x4, x5, x6, x7, x8, x9⟩ := HT.out.box
    have io := impl_TupleOk A B K N f a1 n1 c1 L M h a2 n2 c2 hf hh (by omega) (by omega)
    rw [hok] at io
    clear hBL hok lz ly
    go_wp2_with fail
    clear x0 x1 x2 x3 x4 x5 x6 x7 x8 x9
    refine (io _).mono ?_
    rintro e w4 ⟨rfl, b⟩
    replace HB := hid (HB.out.trans (b.mono HB.out.size))
    clear b
    go_wp2_with fail
    go_ret
    exact ⟨rfl, HB.out⟩
  obtain ⟨F, H, hT, hF, hH⟩ := tuple_back hok lz ly hN hM hf hh
  have hcut := tuple_cut (zs := D1) (ys := D2) hok lz ly
  have hlen := bytesT_lim (zs := D1) (ys := D2) hok lz ly
  rw [hBL] at hT hcut hlen
  have HTT := hid hT
  have HCT := hid hcut
  have EF := hid hF
  have EH := hid hH
  clear hok hBL hT hcut hF hH lz ly
  obtain ⟨bl, hbl⟩ : ∃ bl, BL.length = bl := ⟨_, rfl⟩
  rw [hbl] at hlen RB capB HCT
  rw [hbl]
  have HBL := hid hbl
  clear hbl
  obtain ⟨gB, offB, eB⟩ := RB.out.pos (by omega)
  subst eB
  go_wp2_with fail
  refine (impl_TupleRead cB capB RB.out (by omega)).mono ?_
  rintro e w4 ⟨i1, u1, i2, u2, rfl, hi1, hi2, Si1, Si2, o1, o2, _, b⟩
  rw [HTT.out] at Si1 Si2 o1 o2
  rw [HTT.out]
  dsimp only at Si1 Si2 o1 o2 ⊢
  obtain ⟨ai1, ci1, rfl, r1, _⟩ := Reads.own o1 HT.out.rk.bd
  obtain ⟨ai2, ci2, rfl, r2, _⟩ := Reads.own o2 HT.out.rv.bd
  have hs1 := fun w a m => run_store Try.prog w a (.float .f64 i1) m rfl
  have hs2 := fun w a m => run_store Try.prog w a (.float .f64 i2) m rfl
  replace HT := hid (HT.out.below b (Nat.le_refl _))
  replace RB := hid (RB.out.below b (Nat.le_refl _))
  replace HB := hid (HB.out.trans (b.mono HB.out.size))
  have e1 := HT.out.rk.len
  have e2 := HT.out.rv.len
  rw [e1] at r1
  rw [e2] at r2
  rw [e1, e2]
  have bA := Below.alloc1 w4 (.cells #[.int .i64 A, .int .i64 B, .int .i64 K, .int .i64 N, .float .f64 i1, .slice ai1 n1 ci1, .int .i64 L, .int .i64 M, .float .f64 i2, .slice ai2 n2 ci2] 40)
  have HU := hid (ArgT.new A B K N i1 ai1 n1 ci1 L M i2 ai2 n2 ci2 r1 r2 40 w4.heap.size rfl)
  replace HT := hid (HT.out.below bA (Nat.le_refl _))
  replace RB := hid (RB.out.below bA (Nat.le_refl _))
  replace HB := hid (HB.out.trans (bA.mono HB.out.size))
  have EQ1 : Hid (fbits f = fbits i1) := hid (by rw [fbits_sm Si1.out, EF.out])
  have EQ2 : Hid (fbits h = fbits i2) := hid (by rw [fbits_sm Si2.out, EH.out])
  have RC : Hid (∀ U, Reads U (some ⟨gB, offB, none⟩) bl BL → Reads U (some ⟨gB, offB, none⟩) (bl - 1) (BL.take (bl - 1))) := hid fun U r => (r.sub 0 (bl - 1) (by omega)).cast rfl (by simp)
  clear b bA o1 o2 r1 r2 e1 e2 Si1 Si2 EF EH
  have j1 : (1 : Int) ≤ (bl : Int) := by omega
  have j2 : (bl : Int) - 1 ≤ (cB : Int) := by omega
  have j3 : (0 : Int) ≤ (bl : Int) - 1 := by omega
  go_wp2_with fail
  generalize w4.alloc (.cells #[.int .i64 A, .int .i64 B, .int .i64 K, .int .i64 N, .float .f64 i1, .slice ai1 n1 ci1, .int .i64 L, .int .i64 M, .float .f64 i2, .slice ai2 n2 ci2] 40) = U4 at *
  generalize w4.heap.size = p4 at *
  have bdc := hid (readT_bd (take_bd bB.out (bl - 1)) (by have := HBL.out; simp; omega))
  have IC := hid fun (W : World) (r : Reads W (some ⟨gB, offB, none⟩) bl BL) => impl_TupleRead cB (by omega) (RC.out W r) (by omega)
  generalize readT (BL.take (bl - 1)) = T2 at *
  have hc := HCT.out
  refine (IC.out _ RB.out).mono ?_
  rintro e w5 ⟨j1, u1, j2, u2, rfl, hj1, hj2, _, _, o1, o2, _, b⟩
  rw [hc]
  obtain ⟨aj1, cj1, rfl, r1, _⟩ := Reads.own o1 bdc.out.1
  obtain ⟨aj2, cj2, rfl, r2, _⟩ := Reads.own o2 bdc.out.2.2.1
  have hs3 := fun w a m => run_store Try.prog w a (.float .f64 j1) m rfl
  have hs4 := fun w a m => run_store Try.prog w a (.float .f64 j2) m rfl
  replace HT := hid (HT.out.below b (Nat.le_refl _))
  replace RB := hid (RB.out.below b (Nat.le_refl _))
  replace HU := hid (HU.out.below b (Nat.le_refl _))
  replace HB := hid (HB.out.trans (b.mono HB.out.size))
  have bA := Below.alloc1 w5 (.cells #[.int .i64 T2.A, .int .i64 T2.B, .int .i64 T2.K, .int .i64 T2.N, .float .f64 j1, .slice aj1 T2.Z.length cj1, .int .i64 T2.L, .int .i64 T2.M, .float .f64 j2, .slice aj2 T2.Y.length cj2] 40)
  replace HT := hid (HT.out.below bA (Nat.le_refl _))
  replace RB := hid (RB.out.below bA (Nat.le_refl _))
  replace HU := hid (HU.out.below bA (Nat.le_refl _))
  replace HB := hid (HB.out.trans (bA.mono HB.out.size))
  clear b bA o1 o2 r1 r2 hc bdc IC HCT HTT
  obtain ⟨x0, x1, x2, x3, x4, x5, x6, x7, x8, x9⟩ := HT.out.box
  obtain ⟨y0, y1, y2, y3, y4, y5, y6, y7, y8, y9⟩ := HU.out.box
  have k1 : (10 : Int) ≤ (bl : Int) := by omega
  have k2 : (bl : Int) ≤ 92 := by omega
  go_wp2_with fail
  clear x0 x1 x2 x3 x4 x5 x6 x7 x8 x9 y0 y1 y2 y3 y4 y5 y6 y7 y8 y9
  refine (same_tuple A B K N f i1 c1 ci1 L M h i2 c2 ci2 hf hi1 hh hi2 EQ1 EQ2 HT.out.rk HU.out.rk HT.out.rv HU.out.rv).mono ?_
  rintro e w6 ⟨rfl, b⟩
  replace HB := hid (HB.out.trans (b.mono HB.out.size))
  clear b
  go_wp2_with fail
  go_ret
  exact ⟨rfl, HB.out⟩
end Go.Proofs.Ytlapfmfaammheaa
