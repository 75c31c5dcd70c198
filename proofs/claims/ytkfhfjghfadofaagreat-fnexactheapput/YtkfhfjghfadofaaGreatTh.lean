/- The contracts of the laws' szTuple, eqTuple, heldTuple, markTuple. Conditions: texts of at most 2^21 bytes. -/
import Derived.Test.YtkfhfjghfadofaaGreatMgb
import Derived.Test.YtkfhfjghfadofaaGreatMga
namespace Go.Proofs.YtkfhfjghfadofaaGreat
open Go.RowKit
set_option maxRecDepth 100000
theorem grown_none_trans {a b c : World} {row : Option Nat} (h : a.grownBy b none) (k : b.grownBy c row) : a.grownBy c row :=
 grown_trans (row := row) ⟨h.os, h.tape, h.output, h.size, fun i hi _ => h.block i hi (by simp)⟩ k
def lftT (left : Int) (n m : Nat) : Int := if left < n then -1 else if left - n < m then -1 else left - n - m
set_option maxHeartbeats 1600000 in
theorem szTuple (A B K N : Int) (f : Nat) (ad : Option Addr) (n cap : Nat) (L M : Int) (h : Nat) (ad' : Option Addr) (m cap' : Nat) (left : Int) (hn : n ≤ 9223372036854775807) (hm : m ≤ 9223372036854775807) (h0 : 0 ≤ left) (h1 : left ≤ 1048576) (w : World) :
 Calls Tryz.prog 31 #[.agg #[.int .i64 A, .int .i64 B, .int .i64 K, .int .i64 N, .float .f64 f, .slice ad n cap, .int .i64 L, .int .i64 M, .float .f64 h, .slice ad' m cap'], .int .i64 left] w fun e w' => e = .returned (.int .i64 (lftT left n m)) ∧ Below w.heap.size w w' := by
 have hB := hid (BoxT.new w A B K N f ad n cap L M h ad' m cap' 67)
 have HB := hid (Below.alloc1 w (.cells #[.int .i64 A, .int .i64 B, .int .i64 K, .int .i64 N, .float .f64 f, .slice ad n cap, .int .i64 L, .int .i64 M, .float .f64 h, .slice ad' m cap'] 67))
 have i1 := szItem K N f ad n cap left hn h0 h1
 unfold lftT
 by_cases hl : left < n
 · rw [if_pos hl] at i1 ⊢
   clear hl
   go_enter Tryz.func31, Tryz.ntmps31
   go_wp2_with fail
   refine (i1 _).mono ?_
   rintro e w1 ⟨rfl, b1⟩
   replace HB := hid (HB.out.trans (b1.mono HB.out.size))
   clear b1 i1
   go_wp2_with fail
   go_ret
   exact ⟨rfl, HB.out⟩
 · rw [if_neg hl] at i1 ⊢
   have i2 := szItem L M h ad' m cap' (left - n) hm (by omega) (by omega)
   have hl' : ¬ left - (n : Int) < 0 := by omega
   clear hl
   by_cases hk : left - n < m
   · rw [if_pos hk] at i2 ⊢
     clear hk
     generalize left - (n : Int) = l1 at *
     go_enter Tryz.func31, Tryz.ntmps31
     go_wp2_with fail
     refine (i1 _).mono ?_
     rintro e w1 ⟨rfl, b1⟩
     obtain ⟨c0, c1, c2, c3, c4, c5, c6, c7, c8, c9⟩ := hB.out.below b1 (Nat.le_refl _)
     replace HB := hid (HB.out.trans (b1.mono HB.out.size))
     clear b1 i1
     go_wp2_with fail
     clear c0 c1 c2 c3 c4 c5 c6 c7 c8 c9
     refine (i2 _).mono ?_
     rintro e w2 ⟨rfl, b1⟩
     replace HB := hid (HB.out.trans (b1.mono HB.out.size))
     clear b1 i2
     go_wp2_with fail
     go_ret
     exact ⟨rfl, HB.out⟩
   · rw [if_neg hk] at i2 ⊢
     have hk' : ¬ left - (n : Int) - (m : Int) < 0 := by omega
     clear hk
     generalize left - (n : Int) - (m : Int) = l2 at *
     generalize left - (n : Int) = l1 at *
     go_enter Tryz.func31, Tryz.ntmps31
     go_wp2_with fail
     refine (i1 _).mono ?_
     rintro e w1 ⟨rfl, b1⟩
     obtain ⟨c0, c1, c2, c3, c4, c5, c6, c7, c8, c9⟩ := hB.out.below b1 (Nat.le_refl _)
     replace HB := hid (HB.out.trans (b1.mono HB.out.size))
     clear b1 i1
     go_wp2_with fail
     clear c0 c1 c2 c3 c4 c5 c6 c7 c8 c9
     refine (i2 _).mono ?_
     rintro e w2 ⟨rfl, b1⟩
     replace HB := hid (HB.out.trans (b1.mono HB.out.size))
     clear b1 i2
     go_wp2_with fail
     go_ret
     exact ⟨rfl, HB.out⟩
set_option maxHeartbeats 1600000 in
theorem eqTuple (A B K N : Int) (f f' : Nat) {ad bd : Option Addr} {n : Nat} (cap cp : Nat) (L M : Int) (h h' : Nat) {ad' bd' : Option Addr} {m : Nat} (cap' cp' : Nat) {zs ys : List Int} {w : World} (hf : f < 18446744073709551616) (hf' : f' < 18446744073709551616) (hh : h < 18446744073709551616) (hh' : h' < 18446744073709551616)
 (sf : Hid (Same f f')) (sh : Hid (Same h h')) (rk : Reads w ad n zs) (rk' : Reads w bd n zs) (rv : Reads w ad' m ys) (rv' : Reads w bd' m ys) (hn : n ≤ 2097152) (hm : m ≤ 2097152) :
 Calls Tryz.prog 35 #[.agg #[.int .i64 A, .int .i64 B, .int .i64 K, .int .i64 N, .float .f64 f, .slice ad n cap, .int .i64 L, .int .i64 M, .float .f64 h, .slice ad' m cap'], .agg #[.int .i64 A, .int .i64 B, .int .i64 K, .int .i64 N, .float .f64 f', .slice bd n cp, .int .i64 L, .int .i64 M, .float .f64 h', .slice bd' m cp']] w fun e w' => e = .returned (.bool true) ∧ Below w.heap.size w w' := by
 have b0 := two w (.cells #[.int .i64 A, .int .i64 B, .int .i64 K, .int .i64 N, .float .f64 f, .slice ad n cap, .int .i64 L, .int .i64 M, .float .f64 h, .slice ad' m cap'] 31) (.cells #[.int .i64 A, .int .i64 B, .int .i64 K, .int .i64 N, .float .f64 f', .slice bd n cp, .int .i64 L, .int .i64 M, .float .f64 h', .slice bd' m cp'] 31)
 have HB := hid b0
 have RK := hid (rk.below b0 (Nat.le_refl _))
 have RK' := hid (rk'.below b0 (Nat.le_refl _))
 have RV := hid (rv.below b0 (Nat.le_refl _))
 have RV' := hid (rv'.below b0 (Nat.le_refl _))
 have R := two_rows w (.cells #[.int .i64 A, .int .i64 B, .int .i64 K, .int .i64 N, .float .f64 f, .slice ad n cap, .int .i64 L, .int .i64 M, .float .f64 h, .slice ad' m cap'] 31) (.cells #[.int .i64 A, .int .i64 B, .int .i64 K, .int .i64 N, .float .f64 f', .slice bd n cp, .int .i64 L, .int .i64 M, .float .f64 h', .slice bd' m cp'] 31)
 have H1 := hid (BoxT.row R.1)
 have H2 := hid (BoxT.row R.2.1)
 clear b0 R rk rk' rv rv'
 have qA : (A != A) = false := by simp
 have qB : (B != B) = false := by simp
 go_enter Tryz.func35, Tryz.ntmps35
 go_wp2_with fail
 refine (eqItem K N f f' cap cp hf hf' sf.out RK.out RK'.out hn).mono ?_
 rintro e w1 ⟨rfl, b1⟩
 obtain ⟨c0, c1, c2, c3, c4, c5, c6, c7, c8, c9⟩ := H1.out.below b1 (Nat.le_refl _)
 obtain ⟨d0, d1, d2, d3, d4, d5, d6, d7, d8, d9⟩ := H2.out.below b1 (Nat.le_refl _)
 replace HB := hid (HB.out.trans (b1.mono HB.out.size))
 replace RV := hid (RV.out.below b1 (Nat.le_refl _))
 replace RV' := hid (RV'.out.below b1 (Nat.le_refl _))
 clear b1 H1 H2
 go_wp2_with fail
 clear c0 c1 c2 c3 c4 c5 c6 c7 c8 c9 d0 d1 d2 d3 d4 d5 d6 d7 d8 d9
 refine (eqItem L M h h' cap' cp' hh hh' sh.out RV.out RV'.out hm).mono ?_
 rintro e w2 ⟨rfl, b1⟩
 replace HB := hid (HB.out.trans (b1.mono HB.out.size))
 clear b1
 go_wp2_with fail
 go_ret
 exact ⟨rfl, HB.out⟩
set_option maxHeartbeats 1600000 in
theorem markTuple (A B K N : Int) (f : Nat) {ad : Option Addr} {n cap : Nat} (L M : Int) (h : Nat) {ad' : Option Addr} {m cap' : Nat} (k : Int) {b1 b2 : Nat} {xs ys : List Value} {w : World} (hn : n ≤ 1048576) (hm : m ≤ 1048576) (hk0 : 0 ≤ k) (hk1 : k ≤ 1000000)
 (o1 : w.ownsRow b1 5 1 (.slice ad n cap) n xs) (o2 : w.ownsRow b2 5 1 (.slice ad' m cap') m ys) (ha : Apart (.slice ad n cap) (.slice ad' m cap')) :
 Calls Tryz.prog 37 #[.agg #[.int .i64 A, .int .i64 B, .int .i64 K, .int .i64 N, .float .f64 f, .slice ad n cap, .int .i64 L, .int .i64 M, .float .f64 h, .slice ad' m cap'], .int .i64 k] w fun e w' => e = .returned (.int .i64 (k + n + m)) ∧ w'.ownsRow b1 5 1 (.slice ad n cap) n (bys (marks k n)) ∧ w'.ownsRow b2 5 1 (.slice ad' m cap') m (bys (marks (k + n) m)) ∧ ∃ wm, w.grownBy wm (Value.slice ad n cap).ownBlock ∧ wm.grownBy w' (Value.slice ad' m cap').ownBlock := by
 have hB := BoxT.new w A B K N f ad n cap L M h ad' m cap' 31
 have HL := o1.2
 have z0 := alloc_size w (.cells #[.int .i64 A, .int .i64 B, .int .i64 K, .int .i64 N, .float .f64 f, .slice ad n cap, .int .i64 L, .int .i64 M, .float .f64 h, .slice ad' m cap'] 31)
 have O1 := hid (o1.alloc (.cells #[.int .i64 A, .int .i64 B, .int .i64 K, .int .i64 N, .float .f64 f, .slice ad n cap, .int .i64 L, .int .i64 M, .float .f64 h, .slice ad' m cap'] 31))
 have O2 := hid (o2.alloc (.cells #[.int .i64 A, .int .i64 B, .int .i64 K, .int .i64 N, .float .f64 f, .slice ad n cap, .int .i64 L, .int .i64 M, .float .f64 h, .slice ad' m cap'] 31))
 have G0 : Hid (w.grownBy (w.alloc (.cells #[.int .i64 A, .int .i64 B, .int .i64 K, .int .i64 N, .float .f64 f, .slice ad n cap, .int .i64 L, .int .i64 M, .float .f64 h, .slice ad' m cap'] 31)) none) := hid ⟨rfl, rfl, rfl, by omega, fun i hi _ => heap_alloc_old _ _ hi⟩
 have N1 : Hid (some w.heap.size ≠ (Value.slice ad n cap).ownBlock) := hid fun e => by have := (o1.lt _ e.symm).2; omega
 have HX := hid hB
 have HA := hid ha
 clear hB HL z0 o1 o2 ha
 go_enter Tryz.func37, Tryz.ntmps37
 go_wp2_with fail
 refine (markItem K N f k (by omega) (by omega) (by omega) O1.out).mono ?_
 rintro e w1 ⟨rfl, o, g⟩
 obtain ⟨c0, c1, c2, c3, c4, c5, c6, c7, c8, c9⟩ := HX.out.other g N1.out
 have G1 := hid (grown_none_trans G0.out g)
 have g' := g
 replace O2 := hid (O2.out.kept g (HA.out.symm))
 replace O1 := hid o
 clear g g' o G0
 go_wp2_with fail
 clear c0 c1 c2 c3 c4 c5 c6 c7 c8 c9
 refine (markItem L M h (k + n) (by omega) (by omega) (by omega) O2.out).mono ?_
 rintro e w2 ⟨rfl, o, g⟩
 have O1' := hid (O1.out.kept g HA.out)
 have O2' := hid o
 have G2 := hid g
 clear g o
 go_wp2_with fail
 go_ret
 exact ⟨rfl, O1'.out, O2'.out, w1, G1.out, G2.out⟩
end Go.Proofs.YtkfhfjghfadofaaGreat
