/- The contract of the program's OpOk. Conditions: texts of at most 2^21 bytes. -/
import Derived.Test.YtnbpblephmjfnaaQc15
namespace Go.Proofs.Ytnbpblephmjfnaa
open Go.RowKit
set_option maxRecDepth 100000
set_option linter.unusedVariables false
theorem within15 (n lo hi : Int) (w : World) : Calls Try.prog 17 #[.int .i64 n, .int .i64 lo, .int .i64 hi] w fun e w' => e = .returned (.bool (decide (lo ≤ n ∧ n ≤ hi))) ∧ w' = w := by
 by_cases h1 : lo ≤ n
 · by_cases h2 : n ≤ hi
   · rw [decide_eq_true ⟨h1, h2⟩]
     go_enter Try.func17, Try.ntmps17
     go_wp2
     go_ret
     exact ⟨rfl, rfl⟩
   · rw [decide_eq_false (fun q => h2 q.2)]
     go_enter Try.func17, Try.ntmps17
     go_wp2
     go_ret
     exact ⟨rfl, rfl⟩
 · rw [decide_eq_false (fun q => h1 q.1)]
   go_enter Try.func17, Try.ntmps17
   go_wp2
   go_ret
   exact ⟨rfl, rfl⟩
set_option maxHeartbeats 1600000 in
theorem impl_isKey (K N : Int) (f : Nat) {ad : Option Addr} {n : Nat} (cap : Nat) {zs : List Int} {w : World} (h : Reads w ad n zs) (hf : f < 18446744073709551616) (hn : n ≤ 2097152) :
 Calls Try.prog 25 #[.agg #[.int .i64 K, .int .i64 N, .float .f64 f, .slice ad n cap]] w fun e w' => e = .returned (.bool (cKey K N f n)) ∧ Below w.heap.size w w' := by
 have hst := fun w a m => run_store Try.prog w a (.float .f64 f) m rfl
 have HB := hid (Below.alloc1 w (.cells #[.int .i64 K, .int .i64 N, .float .f64 f, .slice ad n cap] 31))
 have R1 := hid (h.below HB.out (Nat.le_refl _))
 have L1 := hid h.len
 have D1 := hid h.bd
 clear h
 obtain ⟨⟨RK, RN, RF, RZ⟩, hR⟩ : ∃ R, cleanR K N f n zs = R := ⟨_, rfl⟩
 have HR := hid hR
 clear hR
 go_enter Try.func25, Try.ntmps25
 go_wp2_with fail
 refine (impl_Clean K N f cap R1.out hf hn HR.out).mono ?_
 rintro e u1 ⟨g1, v, rfl, hg1, HS, o, b⟩
 obtain ⟨a1, d1, rfl, -, -⟩ := Reads.own o (clean_len HR.out D1.out (by rw [L1.out]; exact hn)).1
 replace HB := hid (HB.out.trans (b.mono HB.out.size))
 clear o b
 go_wp2_with fail
 refine (impl_KeyOk RK RN g1 a1 RZ.length d1 hg1 (clean_len HR.out D1.out (by rw [L1.out]; exact hn)).2 _).mono ?_
 rintro e y1 ⟨rfl, b⟩
 rw [key_clean HR.out L1.out HS.out]
 replace HB := hid (HB.out.trans (b.mono HB.out.size))
 clear b
 go_wp2_with fail
 go_ret
 exact ⟨rfl, HB.out⟩
def hasB (kd le nn : Int) (k t v : Bool) (nb : Nat) : Bool := decide ((kd = 1 → 0 ≤ le ∧ le ≤ 1) ∧ (2 ≤ kd ∧ kd ≤ 6 → k = true) ∧ (kd = 3 → v = true) ∧ (kd = 5 ∨ kd = 6 → t = true) ∧ (kd = 5 → 0 ≤ nn ∧ nn ≤ 50) ∧ (kd = 11 → 0 ≤ nn ∧ nn ≤ 15) ∧ (kd = 12 → 0 ≤ nn) ∧ (kd = 13 → nb ≤ 600))
theorem op_has (kd se le nn : Int) (k t v : Bool) (nb : Nat) (h : 1 ≤ kd ∧ kd ≤ 13) (hs : kd ≤ 8 → 0 ≤ se ∧ se ≤ 7) : opB kd se le nn k t v nb = hasB kd le nn k t v nb := by
 unfold opB hasB
 rw [decide_eq_decide]
 exact ⟨fun q => q.2.2.2, fun q => ⟨h.1, h.2, hs, q⟩⟩
set_option maxHeartbeats 3200000 in
theorem impl_has_1 {se le nn : Int} {K1 N1 : Int} {f1 : Nat} {ad1 : Option Addr} {n1 c1 : Nat} {K2 N2 : Int} {f2 : Nat} {ad2 : Option Addr} {n2 c2 : Nat} {K3 N3 : Int} {f3 : Nat} {ad3 : Option Addr} {n3 c3 : Nat} {ab : Option Addr} {nb cb : Nat} {z1 z2 : List Int} {w : World} (r1 : Reads w ad1 n1 z1) (r2 : Reads w ad2 n2 z2) (hf1 : f1 < 18446744073709551616) (hf2 : f2 < 18446744073709551616) (hf3 : f3 < 18446744073709551616) (hn1 : n1 ≤ 2097152) (hn2 : n2 ≤ 2097152) (hn3 : n3 ≤ 2097152) (hl1 : ad1 = none → c1 = 0) (hl2 : ad2 = none → c2 = 0) :
 Calls Try.prog 18 #[OpV 1 se le nn K1 N1 f1 ad1 n1 c1 K2 N2 f2 ad2 n2 c2 K3 N3 f3 ad3 n3 c3 ab nb cb] w fun e w' => e = .returned (.bool (hasB 1 le nn (cKey K1 N1 f1 n1) (cKey K2 N2 f2 n2) (cKey K3 N3 f3 n3) nb)) ∧ Below w.heap.size w w' := by
 unfold OpV
 have hst1 := fun w a m => run_store Try.prog w a (.float .f64 f1) m rfl
 have hst2 := fun w a m => run_store Try.prog w a (.float .f64 f2) m rfl
 have hst3 := fun w a m => run_store Try.prog w a (.float .f64 f3) m rfl
 have HB := hid (Below.alloc1 w (.cells #[.int .i64 1, .int .i64 se, .int .i64 le, .int .i64 nn, .int .i64 K1, .int .i64 N1, .float .f64 f1, .slice ad1 n1 c1, .int .i64 K2, .int .i64 N2, .float .f64 f2, .slice ad2 n2 c2, .int .i64 K3, .int .i64 N3, .float .f64 f3, .slice ad3 n3 c3, .slice ab nb cb] 33))
 have HX := hid (BoxO.row (heap_alloc_new w (.cells #[.int .i64 1, .int .i64 se, .int .i64 le, .int .i64 nn, .int .i64 K1, .int .i64 N1, .float .f64 f1, .slice ad1 n1 c1, .int .i64 K2, .int .i64 N2, .float .f64 f2, .slice ad2 n2 c2, .int .i64 K3, .int .i64 N3, .float .f64 f3, .slice ad3 n3 c3, .slice ab nb cb] 33)) rfl)
 have R1 := hid (r1.below HB.out (Nat.le_refl _))
 have R2 := hid (r2.below HB.out (Nat.le_refl _))
 clear r1 r2
 go_enter Try.func18, Try.ntmps18
 go_wp2_with fail
 refine (within15 le 0 1 _).mono ?_
 rintro e w9 ⟨rfl, rfl⟩
 have HE := hid (show hasB 1 le nn (cKey K1 N1 f1 n1) (cKey K2 N2 f2 n2) (cKey K3 N3 f3 n3) nb = decide (0 ≤ le ∧ le ≤ 1) by unfold hasB; simp)
 obtain ⟨Q, hQ⟩ : ∃ Q, decide (0 ≤ le ∧ le ≤ 1) = Q := ⟨_, rfl⟩
 rw [hQ] at HE ⊢
 go_wp2_with fail
 go_ret
 exact ⟨by rw [HE.out]; try rfl, HB.out⟩
set_option maxHeartbeats 3200000 in
theorem impl_has_2 {se le nn : Int} {K1 N1 : Int} {f1 : Nat} {ad1 : Option Addr} {n1 c1 : Nat} {K2 N2 : Int} {f2 : Nat} {ad2 : Option Addr} {n2 c2 : Nat} {K3 N3 : Int} {f3 : Nat} {ad3 : Option Addr} {n3 c3 : Nat} {ab : Option Addr} {nb cb : Nat} {z1 z2 : List Int} {w : World} (r1 : Reads w ad1 n1 z1) (r2 : Reads w ad2 n2 z2) (hf1 : f1 < 18446744073709551616) (hf2 : f2 < 18446744073709551616) (hf3 : f3 < 18446744073709551616) (hn1 : n1 ≤ 2097152) (hn2 : n2 ≤ 2097152) (hn3 : n3 ≤ 2097152) (hl1 : ad1 = none → c1 = 0) (hl2 : ad2 = none → c2 = 0) :
 Calls Try.prog 18 #[OpV 2 se le nn K1 N1 f1 ad1 n1 c1 K2 N2 f2 ad2 n2 c2 K3 N3 f3 ad3 n3 c3 ab nb cb] w fun e w' => e = .returned (.bool (hasB 2 le nn (cKey K1 N1 f1 n1) (cKey K2 N2 f2 n2) (cKey K3 N3 f3 n3) nb)) ∧ Below w.heap.size w w' := by
 unfold OpV
 have hst1 := fun w a m => run_store Try.prog w a (.float .f64 f1) m rfl
 have hst2 := fun w a m => run_store Try.prog w a (.float .f64 f2) m rfl
 have hst3 := fun w a m => run_store Try.prog w a (.float .f64 f3) m rfl
 have HB := hid (Below.alloc1 w (.cells #[.int .i64 2, .int .i64 se, .int .i64 le, .int .i64 nn, .int .i64 K1, .int .i64 N1, .float .f64 f1, .slice ad1 n1 c1, .int .i64 K2, .int .i64 N2, .float .f64 f2, .slice ad2 n2 c2, .int .i64 K3, .int .i64 N3, .float .f64 f3, .slice ad3 n3 c3, .slice ab nb cb] 33))
 have HX := hid (BoxO.row (heap_alloc_new w (.cells #[.int .i64 2, .int .i64 se, .int .i64 le, .int .i64 nn, .int .i64 K1, .int .i64 N1, .float .f64 f1, .slice ad1 n1 c1, .int .i64 K2, .int .i64 N2, .float .f64 f2, .slice ad2 n2 c2, .int .i64 K3, .int .i64 N3, .float .f64 f3, .slice ad3 n3 c3, .slice ab nb cb] 33)) rfl)
 have R1 := hid (r1.below HB.out (Nat.le_refl _))
 have R2 := hid (r2.below HB.out (Nat.le_refl _))
 clear r1 r2
 go_enter Try.func18, Try.ntmps18
 go_wp2_with fail
 generalize w.alloc (.cells #[.int .i64 2, .int .i64 se, .int .i64 le, .int .i64 nn, .int .i64 K1, .int .i64 N1, .float .f64 f1, .slice ad1 n1 c1, .int .i64 K2, .int .i64 N2, .float .f64 f2, .slice ad2 n2 c2, .int .i64 K3, .int .i64 N3, .float .f64 f3, .slice ad3 n3 c3, .slice ab nb cb] 33) = U0 at *
 refine (impl_isKey K1 N1 f1 c1 R1.out hf1 hn1).mono ?_
 rintro e y1 ⟨rfl, b⟩
 replace HX := hid (HX.out.below b (Nat.le_refl _))
 replace R1 := hid (R1.out.below b (Nat.le_refl _))
 replace R2 := hid (R2.out.below b (Nat.le_refl _))
 replace HB := hid (HB.out.trans (b.mono HB.out.size))
 clear b
 obtain ⟨Q, hQ⟩ : ∃ Q, cKey K1 N1 f1 n1 = Q := ⟨_, rfl⟩
 rw [hQ]
 have HE := hid (show hasB 2 le nn (cKey K1 N1 f1 n1) (cKey K2 N2 f2 n2) (cKey K3 N3 f3 n3) nb = Q by rw [hQ]; unfold hasB; cases Q <;> simp)
 go_wp2_with fail
 go_ret
 exact ⟨by rw [HE.out]; try rfl, HB.out⟩
set_option maxHeartbeats 3200000 in
theorem impl_has_3 {se le nn : Int} {K1 N1 : Int} {f1 : Nat} {ad1 : Option Addr} {n1 c1 : Nat} {K2 N2 : Int} {f2 : Nat} {ad2 : Option Addr} {n2 c2 : Nat} {K3 N3 : Int} {f3 : Nat} {ad3 : Option Addr} {n3 c3 : Nat} {ab : Option Addr} {nb cb : Nat} {z1 z2 : List Int} {w : World} (r1 : Reads w ad1 n1 z1) (r2 : Reads w ad2 n2 z2) (hf1 : f1 < 18446744073709551616) (hf2 : f2 < 18446744073709551616) (hf3 : f3 < 18446744073709551616) (hn1 : n1 ≤ 2097152) (hn2 : n2 ≤ 2097152) (hn3 : n3 ≤ 2097152) (hl1 : ad1 = none → c1 = 0) (hl2 : ad2 = none → c2 = 0) :
 Calls Try.prog 18 #[OpV 3 se le nn K1 N1 f1 ad1 n1 c1 K2 N2 f2 ad2 n2 c2 K3 N3 f3 ad3 n3 c3 ab nb cb] w fun e w' => e = .returned (.bool (hasB 3 le nn (cKey K1 N1 f1 n1) (cKey K2 N2 f2 n2) (cKey K3 N3 f3 n3) nb)) ∧ Below w.heap.size w w' := by
 unfold OpV
 have hst1 := fun w a m => run_store Try.prog w a (.float .f64 f1) m rfl
 have hst2 := fun w a m => run_store Try.prog w a (.float .f64 f2) m rfl
 have hst3 := fun w a m => run_store Try.prog w a (.float .f64 f3) m rfl
 have HB := hid (Below.alloc1 w (.cells #[.int .i64 3, .int .i64 se, .int .i64 le, .int .i64 nn, .int .i64 K1, .int .i64 N1, .float .f64 f1, .slice ad1 n1 c1, .int .i64 K2, .int .i64 N2, .float .f64 f2, .slice ad2 n2 c2, .int .i64 K3, .int .i64 N3, .float .f64 f3, .slice ad3 n3 c3, .slice ab nb cb] 33))
 have HX := hid (BoxO.row (heap_alloc_new w (.cells #[.int .i64 3, .int .i64 se, .int .i64 le, .int .i64 nn, .int .i64 K1, .int .i64 N1, .float .f64 f1, .slice ad1 n1 c1, .int .i64 K2, .int .i64 N2, .float .f64 f2, .slice ad2 n2 c2, .int .i64 K3, .int .i64 N3, .float .f64 f3, .slice ad3 n3 c3, .slice ab nb cb] 33)) rfl)
 have R1 := hid (r1.below HB.out (Nat.le_refl _))
 have R2 := hid (r2.below HB.out (Nat.le_refl _))
 clear r1 r2
 go_enter Try.func18, Try.ntmps18
 go_wp2_with fail
 generalize w.alloc (.cells #[.int .i64 3, .int .i64 se, .int .i64 le, .int .i64 nn, .int .i64 K1, .int .i64 N1, .float .f64 f1, .slice ad1 n1 c1, .int .i64 K2, .int .i64 N2, .float .f64 f2, .slice ad2 n2 c2, .int .i64 K3, .int .i64 N3, .float .f64 f3, .slice ad3 n3 c3, .slice ab nb cb] 33) = U0 at *
 refine (impl_isKey K1 N1 f1 c1 R1.out hf1 hn1).mono ?_
 rintro e y1 ⟨rfl, b⟩
 replace HX := hid (HX.out.below b (Nat.le_refl _))
 replace R1 := hid (R1.out.below b (Nat.le_refl _))
 replace R2 := hid (R2.out.below b (Nat.le_refl _))
 replace HB := hid (HB.out.trans (b.mono HB.out.size))
 clear b
 cases hk1 : cKey K1 N1 f1 n1 with
 | false =>
  have HE := hid (show hasB 3 le nn (cKey K1 N1 f1 n1) (cKey K2 N2 f2 n2) (cKey K3 N3 f3 n3) nb = false by rw [hk1]; unfold hasB; simp)
  go_wp2_with fail
  go_ret
  exact ⟨by rw [HE.out]; try rfl, HB.out⟩
 | true =>
 have c12_ : y1.cell? ⟨w.heap.size, 12, none⟩ = some (.int .i64 K3) := HX.out.ce 12 (by omega)
 have c13_ : y1.cell? ⟨w.heap.size, 13, none⟩ = some (.int .i64 N3) := HX.out.ce 13 (by omega)
 have c14_ : y1.cell? ⟨w.heap.size, 14, none⟩ = some (.float .f64 f3) := HX.out.ce 14 (by omega)
 have c15_ : y1.cell? ⟨w.heap.size, 15, none⟩ = some (.slice ad3 n3 c3) := HX.out.ce 15 (by omega)
 go_wp2_with fail
 refine (impl_ItemOk K3 N3 f3 ad3 n3 c3 hf3 hn3 _).mono ?_
 rintro e y4 ⟨rfl, b⟩
 replace HX := hid (HX.out.below b (Nat.le_refl _))
 replace HB := hid (HB.out.trans (b.mono HB.out.size))
 clear b c12_ c13_ c14_ c15_
 have c12_ : y4.cell? ⟨w.heap.size, 12, none⟩ = some (.int .i64 K3) := HX.out.ce 12 (by omega)
 obtain ⟨q, hq⟩ : ∃ q, (K3 != 0) = q := ⟨_, rfl⟩
 have HC := hid (cKey_and K3 N3 f3 n3 q hq)
 cases hv : okI K3 N3 f3 n3 with
 | false =>
  rw [hv] at HC
  have HE := hid (show hasB 3 le nn (cKey K1 N1 f1 n1) (cKey K2 N2 f2 n2) (cKey K3 N3 f3 n3) nb = (false && q) by rw [HC.out, hk1]; unfold hasB; cases q <;> simp)
  go_wp2_with fail
  go_ret
  exact ⟨by rw [HE.out]; first | rfl | simp, HB.out⟩
 | true =>
  rw [hv] at HC
  have HE := hid (show hasB 3 le nn (cKey K1 N1 f1 n1) (cKey K2 N2 f2 n2) (cKey K3 N3 f3 n3) nb = (true && q) by rw [HC.out, hk1]; unfold hasB; cases q <;> simp)
  go_wp2_with fail
  go_ret
  exact ⟨by rw [HE.out]; first | rfl | simp, HB.out⟩
set_option maxHeartbeats 3200000 in
theorem impl_has_4 {se le nn : Int} {K1 N1 : Int} {f1 : Nat} {ad1 : Option Addr} {n1 c1 : Nat} {K2 N2 : Int} {f2 : Nat} {ad2 : Option Addr} {n2 c2 : Nat} {K3 N3 : Int} {f3 : Nat} {ad3 : Option Addr} {n3 c3 : Nat} {ab : Option Addr} {nb cb : Nat} {z1 z2 : List Int} {w : World} (r1 : Reads w ad1 n1 z1) (r2 : Reads w ad2 n2 z2) (hf1 : f1 < 18446744073709551616) (hf2 : f2 < 18446744073709551616) (hf3 : f3 < 18446744073709551616) (hn1 : n1 ≤ 2097152) (hn2 : n2 ≤ 2097152) (hn3 : n3 ≤ 2097152) (hl1 : ad1 = none → c1 = 0) (hl2 : ad2 = none → c2 = 0) :
 Calls Try.prog 18 #[OpV 4 se le nn K1 N1 f1 ad1 n1 c1 K2 N2 f2 ad2 n2 c2 K3 N3 f3 ad3 n3 c3 ab nb cb] w fun e w' => e = .returned (.bool (hasB 4 le nn (cKey K1 N1 f1 n1) (cKey K2 N2 f2 n2) (cKey K3 N3 f3 n3) nb)) ∧ Below w.heap.size w w' := by
 unfold OpV
 have hst1 := fun w a m => run_store Try.prog w a (.float .f64 f1) m rfl
 have hst2 := fun w a m => run_store Try.prog w a (.float .f64 f2) m rfl
 have hst3 := fun w a m => run_store Try.prog w a (.float .f64 f3) m rfl
 have HB := hid (Below.alloc1 w (.cells #[.int .i64 4, .int .i64 se, .int .i64 le, .int .i64 nn, .int .i64 K1, .int .i64 N1, .float .f64 f1, .slice ad1 n1 c1, .int .i64 K2, .int .i64 N2, .float .f64 f2, .slice ad2 n2 c2, .int .i64 K3, .int .i64 N3, .float .f64 f3, .slice ad3 n3 c3, .slice ab nb cb] 33))
 have HX := hid (BoxO.row (heap_alloc_new w (.cells #[.int .i64 4, .int .i64 se, .int .i64 le, .int .i64 nn, .int .i64 K1, .int .i64 N1, .float .f64 f1, .slice ad1 n1 c1, .int .i64 K2, .int .i64 N2, .float .f64 f2, .slice ad2 n2 c2, .int .i64 K3, .int .i64 N3, .float .f64 f3, .slice ad3 n3 c3, .slice ab nb cb] 33)) rfl)
 have R1 := hid (r1.below HB.out (Nat.le_refl _))
 have R2 := hid (r2.below HB.out (Nat.le_refl _))
 clear r1 r2
 go_enter Try.func18, Try.ntmps18
 go_wp2_with fail
 generalize w.alloc (.cells #[.int .i64 4, .int .i64 se, .int .i64 le, .int .i64 nn, .int .i64 K1, .int .i64 N1, .float .f64 f1, .slice ad1 n1 c1, .int .i64 K2, .int .i64 N2, .float .f64 f2, .slice ad2 n2 c2, .int .i64 K3, .int .i64 N3, .float .f64 f3, .slice ad3 n3 c3, .slice ab nb cb] 33) = U0 at *
 refine (impl_isKey K1 N1 f1 c1 R1.out hf1 hn1).mono ?_
 rintro e y1 ⟨rfl, b⟩
 replace HX := hid (HX.out.below b (Nat.le_refl _))
 replace R1 := hid (R1.out.below b (Nat.le_refl _))
 replace R2 := hid (R2.out.below b (Nat.le_refl _))
 replace HB := hid (HB.out.trans (b.mono HB.out.size))
 clear b
 obtain ⟨Q, hQ⟩ : ∃ Q, cKey K1 N1 f1 n1 = Q := ⟨_, rfl⟩
 rw [hQ]
 have HE := hid (show hasB 4 le nn (cKey K1 N1 f1 n1) (cKey K2 N2 f2 n2) (cKey K3 N3 f3 n3) nb = Q by rw [hQ]; unfold hasB; cases Q <;> simp)
 go_wp2_with fail
 go_ret
 exact ⟨by rw [HE.out]; try rfl, HB.out⟩
set_option maxHeartbeats 3200000 in
theorem impl_has_5 {se le nn : Int} {K1 N1 : Int} {f1 : Nat} {ad1 : Option Addr} {n1 c1 : Nat} {K2 N2 : Int} {f2 : Nat} {ad2 : Option Addr} {n2 c2 : Nat} {K3 N3 : Int} {f3 : Nat} {ad3 : Option Addr} {n3 c3 : Nat} {ab : Option Addr} {nb cb : Nat} {z1 z2 : List Int} {w : World} (r1 : Reads w ad1 n1 z1) (r2 : Reads w ad2 n2 z2) (hf1 : f1 < 18446744073709551616) (hf2 : f2 < 18446744073709551616) (hf3 : f3 < 18446744073709551616) (hn1 : n1 ≤ 2097152) (hn2 : n2 ≤ 2097152) (hn3 : n3 ≤ 2097152) (hl1 : ad1 = none → c1 = 0) (hl2 : ad2 = none → c2 = 0) :
 Calls Try.prog 18 #[OpV 5 se le nn K1 N1 f1 ad1 n1 c1 K2 N2 f2 ad2 n2 c2 K3 N3 f3 ad3 n3 c3 ab nb cb] w fun e w' => e = .returned (.bool (hasB 5 le nn (cKey K1 N1 f1 n1) (cKey K2 N2 f2 n2) (cKey K3 N3 f3 n3) nb)) ∧ Below w.heap.size w w' := by
 unfold OpV
 have hst1 := fun w a m => run_store Try.prog w a (.float .f64 f1) m rfl
 have hst2 := fun w a m => run_store Try.prog w a (.float .f64 f2) m rfl
 have hst3 := fun w a m => run_store Try.prog w a (.float .f64 f3) m rfl
 have HB := hid (Below.alloc1 w (.cells #[.int .i64 5, .int .i64 se, .int .i64 le, .int .i64 nn, .int .i64 K1, .int .i64 N1, .float .f64 f1, .slice ad1 n1 c1, .int .i64 K2, .int .i64 N2, .float .f64 f2, .slice ad2 n2 c2, .int .i64 K3, .int .i64 N3, .float .f64 f3, .slice ad3 n3 c3, .slice ab nb cb] 33))
 have HX := hid (BoxO.row (heap_alloc_new w (.cells #[.int .i64 5, .int .i64 se, .int .i64 le, .int .i64 nn, .int .i64 K1, .int .i64 N1, .float .f64 f1, .slice ad1 n1 c1, .int .i64 K2, .int .i64 N2, .float .f64 f2, .slice ad2 n2 c2, .int .i64 K3, .int .i64 N3, .float .f64 f3, .slice ad3 n3 c3, .slice ab nb cb] 33)) rfl)
 have R1 := hid (r1.below HB.out (Nat.le_refl _))
 have R2 := hid (r2.below HB.out (Nat.le_refl _))
 clear r1 r2
 go_enter Try.func18, Try.ntmps18
 go_wp2_with fail
 generalize w.alloc (.cells #[.int .i64 5, .int .i64 se, .int .i64 le, .int .i64 nn, .int .i64 K1, .int .i64 N1, .float .f64 f1, .slice ad1 n1 c1, .int .i64 K2, .int .i64 N2, .float .f64 f2, .slice ad2 n2 c2, .int .i64 K3, .int .i64 N3, .float .f64 f3, .slice ad3 n3 c3, .slice ab nb cb] 33) = U0 at *
 refine (impl_isKey K1 N1 f1 c1 R1.out hf1 hn1).mono ?_
 rintro e y1 ⟨rfl, b⟩
 replace HX := hid (HX.out.below b (Nat.le_refl _))
 replace R1 := hid (R1.out.below b (Nat.le_refl _))
 replace R2 := hid (R2.out.below b (Nat.le_refl _))
 replace HB := hid (HB.out.trans (b.mono HB.out.size))
 clear b
 cases hk1 : cKey K1 N1 f1 n1 with
 | false =>
  have HE := hid (show hasB 5 le nn (cKey K1 N1 f1 n1) (cKey K2 N2 f2 n2) (cKey K3 N3 f3 n3) nb = false by rw [hk1]; unfold hasB; simp)
  go_wp2_with fail
  go_ret
  exact ⟨by rw [HE.out]; try rfl, HB.out⟩
 | true =>
 have c8_ : y1.cell? ⟨w.heap.size, 8, none⟩ = some (.int .i64 K2) := HX.out.ce 8 (by omega)
 have c9_ : y1.cell? ⟨w.heap.size, 9, none⟩ = some (.int .i64 N2) := HX.out.ce 9 (by omega)
 have c10_ : y1.cell? ⟨w.heap.size, 10, none⟩ = some (.float .f64 f2) := HX.out.ce 10 (by omega)
 have c11_ : y1.cell? ⟨w.heap.size, 11, none⟩ = some (.slice ad2 n2 c2) := HX.out.ce 11 (by omega)
 go_wp2_with fail
 refine (impl_isKey K2 N2 f2 c2 R2.out hf2 hn2).mono ?_
 rintro e y2 ⟨rfl, b⟩
 replace HX := hid (HX.out.below b (Nat.le_refl _))
 replace R1 := hid (R1.out.below b (Nat.le_refl _))
 replace R2 := hid (R2.out.below b (Nat.le_refl _))
 replace HB := hid (HB.out.trans (b.mono HB.out.size))
 clear b
 clear c8_ c9_ c10_ c11_
 have c3_ : y2.cell? ⟨w.heap.size, 3, none⟩ = some (.int .i64 nn) := HX.out.ce 3 (by omega)
 cases hk2 : cKey K2 N2 f2 n2 with
 | false =>
  have HE := hid (show hasB 5 le nn (cKey K1 N1 f1 n1) (cKey K2 N2 f2 n2) (cKey K3 N3 f3 n3) nb = false by rw [hk1, hk2]; unfold hasB; simp)
  go_wp2_with fail
  go_ret
  exact ⟨by rw [HE.out]; try rfl, HB.out⟩
 | true =>
 go_wp2_with fail
 refine (within15 nn 0 50 _).mono ?_
 rintro e w9 ⟨rfl, rfl⟩
 have HE := hid (show hasB 5 le nn (cKey K1 N1 f1 n1) (cKey K2 N2 f2 n2) (cKey K3 N3 f3 n3) nb = decide (0 ≤ nn ∧ nn ≤ 50) by rw [hk1, hk2]; unfold hasB; simp)
 obtain ⟨Q, hQ⟩ : ∃ Q, decide (0 ≤ nn ∧ nn ≤ 50) = Q := ⟨_, rfl⟩
 rw [hQ] at HE ⊢
 go_wp2_with fail
 go_ret
 exact ⟨by rw [HE.out]; try rfl, HB.out⟩
set_option maxHeartbeats 3200000 in
theorem impl_has_6 {se le nn : Int} {K1 N1 : Int} {f1 : Nat} {ad1 : Option Addr} {n1 c1 : Nat} {K2 N2 : Int} {f2 : Nat} {ad2 : Option Addr} {n2 c2 : Nat} {K3 N3 : Int} {f3 : Nat} {ad3 : Option Addr} {n3 c3 : Nat} {ab : Option Addr} {nb cb : Nat} {z1 z2 : List Int} {w : World} (r1 : Reads w ad1 n1 z1) (r2 : Reads w ad2 n2 z2) (hf1 : f1 < 18446744073709551616) (hf2 : f2 < 18446744073709551616) (hf3 : f3 < 18446744073709551616) (hn1 : n1 ≤ 2097152) (hn2 : n2 ≤ 2097152) (hn3 : n3 ≤ 2097152) (hl1 : ad1 = none → c1 = 0) (hl2 : ad2 = none → c2 = 0) :
 Calls Try.prog 18 #[OpV 6 se le nn K1 N1 f1 ad1 n1 c1 K2 N2 f2 ad2 n2 c2 K3 N3 f3 ad3 n3 c3 ab nb cb] w fun e w' => e = .returned (.bool (hasB 6 le nn (cKey K1 N1 f1 n1) (cKey K2 N2 f2 n2) (cKey K3 N3 f3 n3) nb)) ∧ Below w.heap.size w w' := by
 unfold OpV
 have hst1 := fun w a m => run_store Try.prog w a (.float .f64 f1) m rfl
 have hst2 := fun w a m => run_store Try.prog w a (.float .f64 f2) m rfl
 have hst3 := fun w a m => run_store Try.prog w a (.float .f64 f3) m rfl
 have HB := hid (Below.alloc1 w (.cells #[.int .i64 6, .int .i64 se, .int .i64 le, .int .i64 nn, .int .i64 K1, .int .i64 N1, .float .f64 f1, .slice ad1 n1 c1, .int .i64 K2, .int .i64 N2, .float .f64 f2, .slice ad2 n2 c2, .int .i64 K3, .int .i64 N3, .float .f64 f3, .slice ad3 n3 c3, .slice ab nb cb] 33))
 have HX := hid (BoxO.row (heap_alloc_new w (.cells #[.int .i64 6, .int .i64 se, .int .i64 le, .int .i64 nn, .int .i64 K1, .int .i64 N1, .float .f64 f1, .slice ad1 n1 c1, .int .i64 K2, .int .i64 N2, .float .f64 f2, .slice ad2 n2 c2, .int .i64 K3, .int .i64 N3, .float .f64 f3, .slice ad3 n3 c3, .slice ab nb cb] 33)) rfl)
 have R1 := hid (r1.below HB.out (Nat.le_refl _))
 have R2 := hid (r2.below HB.out (Nat.le_refl _))
 clear r1 r2
 go_enter Try.func18, Try.ntmps18
 go_wp2_with fail
 generalize w.alloc (.cells #[.int .i64 6, .int .i64 se, .int .i64 le, .int .i64 nn, .int .i64 K1, .int .i64 N1, .float .f64 f1, .slice ad1 n1 c1, .int .i64 K2, .int .i64 N2, .float .f64 f2, .slice ad2 n2 c2, .int .i64 K3, .int .i64 N3, .float .f64 f3, .slice ad3 n3 c3, .slice ab nb cb] 33) = U0 at *
 refine (impl_isKey K1 N1 f1 c1 R1.out hf1 hn1).mono ?_
 rintro e y1 ⟨rfl, b⟩
 replace HX := hid (HX.out.below b (Nat.le_refl _))
 replace R1 := hid (R1.out.below b (Nat.le_refl _))
 replace R2 := hid (R2.out.below b (Nat.le_refl _))
 replace HB := hid (HB.out.trans (b.mono HB.out.size))
 clear b
 cases hk1 : cKey K1 N1 f1 n1 with
 | false =>
  have HE := hid (show hasB 6 le nn (cKey K1 N1 f1 n1) (cKey K2 N2 f2 n2) (cKey K3 N3 f3 n3) nb = false by rw [hk1]; unfold hasB; simp)
  go_wp2_with fail
  go_ret
  exact ⟨by rw [HE.out]; try rfl, HB.out⟩
 | true =>
 have c8_ : y1.cell? ⟨w.heap.size, 8, none⟩ = some (.int .i64 K2) := HX.out.ce 8 (by omega)
 have c9_ : y1.cell? ⟨w.heap.size, 9, none⟩ = some (.int .i64 N2) := HX.out.ce 9 (by omega)
 have c10_ : y1.cell? ⟨w.heap.size, 10, none⟩ = some (.float .f64 f2) := HX.out.ce 10 (by omega)
 have c11_ : y1.cell? ⟨w.heap.size, 11, none⟩ = some (.slice ad2 n2 c2) := HX.out.ce 11 (by omega)
 go_wp2_with fail
 refine (impl_isKey K2 N2 f2 c2 R2.out hf2 hn2).mono ?_
 rintro e y2 ⟨rfl, b⟩
 replace HX := hid (HX.out.below b (Nat.le_refl _))
 replace R1 := hid (R1.out.below b (Nat.le_refl _))
 replace R2 := hid (R2.out.below b (Nat.le_refl _))
 replace HB := hid (HB.out.trans (b.mono HB.out.size))
 clear b
 clear c8_ c9_ c10_ c11_
 obtain ⟨Q, hQ⟩ : ∃ Q, cKey K2 N2 f2 n2 = Q := ⟨_, rfl⟩
 rw [hQ]
 have HE := hid (show hasB 6 le nn (cKey K1 N1 f1 n1) (cKey K2 N2 f2 n2) (cKey K3 N3 f3 n3) nb = Q by rw [hk1, hQ]; unfold hasB; cases Q <;> simp)
 go_wp2_with fail
 go_ret
 exact ⟨by rw [HE.out]; try rfl, HB.out⟩
set_option maxHeartbeats 3200000 in
theorem impl_has_7 {se le nn : Int} {K1 N1 : Int} {f1 : Nat} {ad1 : Option Addr} {n1 c1 : Nat} {K2 N2 : Int} {f2 : Nat} {ad2 : Option Addr} {n2 c2 : Nat} {K3 N3 : Int} {f3 : Nat} {ad3 : Option Addr} {n3 c3 : Nat} {ab : Option Addr} {nb cb : Nat} {z1 z2 : List Int} {w : World} (r1 : Reads w ad1 n1 z1) (r2 : Reads w ad2 n2 z2) (hf1 : f1 < 18446744073709551616) (hf2 : f2 < 18446744073709551616) (hf3 : f3 < 18446744073709551616) (hn1 : n1 ≤ 2097152) (hn2 : n2 ≤ 2097152) (hn3 : n3 ≤ 2097152) (hl1 : ad1 = none → c1 = 0) (hl2 : ad2 = none → c2 = 0) :
 Calls Try.prog 18 #[OpV 7 se le nn K1 N1 f1 ad1 n1 c1 K2 N2 f2 ad2 n2 c2 K3 N3 f3 ad3 n3 c3 ab nb cb] w fun e w' => e = .returned (.bool (hasB 7 le nn (cKey K1 N1 f1 n1) (cKey K2 N2 f2 n2) (cKey K3 N3 f3 n3) nb)) ∧ Below w.heap.size w w' := by
 unfold OpV
 have hst1 := fun w a m => run_store Try.prog w a (.float .f64 f1) m rfl
 have hst2 := fun w a m => run_store Try.prog w a (.float .f64 f2) m rfl
 have hst3 := fun w a m => run_store Try.prog w a (.float .f64 f3) m rfl
 have HB := hid (Below.alloc1 w (.cells #[.int .i64 7, .int .i64 se, .int .i64 le, .int .i64 nn, .int .i64 K1, .int .i64 N1, .float .f64 f1, .slice ad1 n1 c1, .int .i64 K2, .int .i64 N2, .float .f64 f2, .slice ad2 n2 c2, .int .i64 K3, .int .i64 N3, .float .f64 f3, .slice ad3 n3 c3, .slice ab nb cb] 33))
 have HX := hid (BoxO.row (heap_alloc_new w (.cells #[.int .i64 7, .int .i64 se, .int .i64 le, .int .i64 nn, .int .i64 K1, .int .i64 N1, .float .f64 f1, .slice ad1 n1 c1, .int .i64 K2, .int .i64 N2, .float .f64 f2, .slice ad2 n2 c2, .int .i64 K3, .int .i64 N3, .float .f64 f3, .slice ad3 n3 c3, .slice ab nb cb] 33)) rfl)
 have R1 := hid (r1.below HB.out (Nat.le_refl _))
 have R2 := hid (r2.below HB.out (Nat.le_refl _))
 clear r1 r2
 go_enter Try.func18, Try.ntmps18
 have HE := hid (show hasB 7 le nn (cKey K1 N1 f1 n1) (cKey K2 N2 f2 n2) (cKey K3 N3 f3 n3) nb = true by unfold hasB; simp)
 go_wp2_with fail
 go_ret
 exact ⟨by rw [HE.out]; try rfl, HB.out⟩
set_option maxHeartbeats 3200000 in
theorem impl_has_8 {se le nn : Int} {K1 N1 : Int} {f1 : Nat} {ad1 : Option Addr} {n1 c1 : Nat} {K2 N2 : Int} {f2 : Nat} {ad2 : Option Addr} {n2 c2 : Nat} {K3 N3 : Int} {f3 : Nat} {ad3 : Option Addr} {n3 c3 : Nat} {ab : Option Addr} {nb cb : Nat} {z1 z2 : List Int} {w : World} (r1 : Reads w ad1 n1 z1) (r2 : Reads w ad2 n2 z2) (hf1 : f1 < 18446744073709551616) (hf2 : f2 < 18446744073709551616) (hf3 : f3 < 18446744073709551616) (hn1 : n1 ≤ 2097152) (hn2 : n2 ≤ 2097152) (hn3 : n3 ≤ 2097152) (hl1 : ad1 = none → c1 = 0) (hl2 : ad2 = none → c2 = 0) :
 Calls Try.prog 18 #[OpV 8 se le nn K1 N1 f1 ad1 n1 c1 K2 N2 f2 ad2 n2 c2 K3 N3 f3 ad3 n3 c3 ab nb cb] w fun e w' => e = .returned (.bool (hasB 8 le nn (cKey K1 N1 f1 n1) (cKey K2 N2 f2 n2) (cKey K3 N3 f3 n3) nb)) ∧ Below w.heap.size w w' := by
 unfold OpV
 have hst1 := fun w a m => run_store Try.prog w a (.float .f64 f1) m rfl
 have hst2 := fun w a m => run_store Try.prog w a (.float .f64 f2) m rfl
 have hst3 := fun w a m => run_store Try.prog w a (.float .f64 f3) m rfl
 have HB := hid (Below.alloc1 w (.cells #[.int .i64 8, .int .i64 se, .int .i64 le, .int .i64 nn, .int .i64 K1, .int .i64 N1, .float .f64 f1, .slice ad1 n1 c1, .int .i64 K2, .int .i64 N2, .float .f64 f2, .slice ad2 n2 c2, .int .i64 K3, .int .i64 N3, .float .f64 f3, .slice ad3 n3 c3, .slice ab nb cb] 33))
 have HX := hid (BoxO.row (heap_alloc_new w (.cells #[.int .i64 8, .int .i64 se, .int .i64 le, .int .i64 nn, .int .i64 K1, .int .i64 N1, .float .f64 f1, .slice ad1 n1 c1, .int .i64 K2, .int .i64 N2, .float .f64 f2, .slice ad2 n2 c2, .int .i64 K3, .int .i64 N3, .float .f64 f3, .slice ad3 n3 c3, .slice ab nb cb] 33)) rfl)
 have R1 := hid (r1.below HB.out (Nat.le_refl _))
 have R2 := hid (r2.below HB.out (Nat.le_refl _))
 clear r1 r2
 go_enter Try.func18, Try.ntmps18
 have HE := hid (show hasB 8 le nn (cKey K1 N1 f1 n1) (cKey K2 N2 f2 n2) (cKey K3 N3 f3 n3) nb = true by unfold hasB; simp)
 go_wp2_with fail
 go_ret
 exact ⟨by rw [HE.out]; try rfl, HB.out⟩
set_option maxHeartbeats 3200000 in
theorem impl_has_9 {se le nn : Int} {K1 N1 : Int} {f1 : Nat} {ad1 : Option Addr} {n1 c1 : Nat} {K2 N2 : Int} {f2 : Nat} {ad2 : Option Addr} {n2 c2 : Nat} {K3 N3 : Int} {f3 : Nat} {ad3 : Option Addr} {n3 c3 : Nat} {ab : Option Addr} {nb cb : Nat} {z1 z2 : List Int} {w : World} (r1 : Reads w ad1 n1 z1) (r2 : Reads w ad2 n2 z2) (hf1 : f1 < 18446744073709551616) (hf2 : f2 < 18446744073709551616) (hf3 : f3 < 18446744073709551616) (hn1 : n1 ≤ 2097152) (hn2 : n2 ≤ 2097152) (hn3 : n3 ≤ 2097152) (hl1 : ad1 = none → c1 = 0) (hl2 : ad2 = none → c2 = 0) :
 Calls Try.prog 18 #[OpV 9 se le nn K1 N1 f1 ad1 n1 c1 K2 N2 f2 ad2 n2 c2 K3 N3 f3 ad3 n3 c3 ab nb cb] w fun e w' => e = .returned (.bool (hasB 9 le nn (cKey K1 N1 f1 n1) (cKey K2 N2 f2 n2) (cKey K3 N3 f3 n3) nb)) ∧ Below w.heap.size w w' := by
 unfold OpV
 have hst1 := fun w a m => run_store Try.prog w a (.float .f64 f1) m rfl
 have hst2 := fun w a m => run_store Try.prog w a (.float .f64 f2) m rfl
 have hst3 := fun w a m => run_store Try.prog w a (.float .f64 f3) m rfl
 have HB := hid (Below.alloc1 w (.cells #[.int .i64 9, .int .i64 se, .int .i64 le, .int .i64 nn, .int .i64 K1, .int .i64 N1, .float .f64 f1, .slice ad1 n1 c1, .int .i64 K2, .int .i64 N2, .float .f64 f2, .slice ad2 n2 c2, .int .i64 K3, .int .i64 N3, .float .f64 f3, .slice ad3 n3 c3, .slice ab nb cb] 33))
 have HX := hid (BoxO.row (heap_alloc_new w (.cells #[.int .i64 9, .int .i64 se, .int .i64 le, .int .i64 nn, .int .i64 K1, .int .i64 N1, .float .f64 f1, .slice ad1 n1 c1, .int .i64 K2, .int .i64 N2, .float .f64 f2, .slice ad2 n2 c2, .int .i64 K3, .int .i64 N3, .float .f64 f3, .slice ad3 n3 c3, .slice ab nb cb] 33)) rfl)
 have R1 := hid (r1.below HB.out (Nat.le_refl _))
 have R2 := hid (r2.below HB.out (Nat.le_refl _))
 clear r1 r2
 go_enter Try.func18, Try.ntmps18
 have HE := hid (show hasB 9 le nn (cKey K1 N1 f1 n1) (cKey K2 N2 f2 n2) (cKey K3 N3 f3 n3) nb = true by unfold hasB; simp)
 go_wp2_with fail
 go_ret
 exact ⟨by rw [HE.out]; try rfl, HB.out⟩
set_option maxHeartbeats 3200000 in
theorem impl_has_10 {se le nn : Int} {K1 N1 : Int} {f1 : Nat} {ad1 : Option Addr} {n1 c1 : Nat} {K2 N2 : Int} {f2 : Nat} {ad2 : Option Addr} {n2 c2 : Nat} {K3 N3 : Int} {f3 : Nat} {ad3 : Option Addr} {n3 c3 : Nat} {ab : Option Addr} {nb cb : Nat} {z1 z2 : List Int} {w : World} (r1 : Reads w ad1 n1 z1) (r2 : Reads w ad2 n2 z2) (hf1 : f1 < 18446744073709551616) (hf2 : f2 < 18446744073709551616) (hf3 : f3 < 18446744073709551616) (hn1 : n1 ≤ 2097152) (hn2 : n2 ≤ 2097152) (hn3 : n3 ≤ 2097152) (hl1 : ad1 = none → c1 = 0) (hl2 : ad2 = none → c2 = 0) :
 Calls Try.prog 18 #[OpV 10 se le nn K1 N1 f1 ad1 n1 c1 K2 N2 f2 ad2 n2 c2 K3 N3 f3 ad3 n3 c3 ab nb cb] w fun e w' => e = .returned (.bool (hasB 10 le nn (cKey K1 N1 f1 n1) (cKey K2 N2 f2 n2) (cKey K3 N3 f3 n3) nb)) ∧ Below w.heap.size w w' := by
 unfold OpV
 have hst1 := fun w a m => run_store Try.prog w a (.float .f64 f1) m rfl
 have hst2 := fun w a m => run_store Try.prog w a (.float .f64 f2) m rfl
 have hst3 := fun w a m => run_store Try.prog w a (.float .f64 f3) m rfl
 have HB := hid (Below.alloc1 w (.cells #[.int .i64 10, .int .i64 se, .int .i64 le, .int .i64 nn, .int .i64 K1, .int .i64 N1, .float .f64 f1, .slice ad1 n1 c1, .int .i64 K2, .int .i64 N2, .float .f64 f2, .slice ad2 n2 c2, .int .i64 K3, .int .i64 N3, .float .f64 f3, .slice ad3 n3 c3, .slice ab nb cb] 33))
 have HX := hid (BoxO.row (heap_alloc_new w (.cells #[.int .i64 10, .int .i64 se, .int .i64 le, .int .i64 nn, .int .i64 K1, .int .i64 N1, .float .f64 f1, .slice ad1 n1 c1, .int .i64 K2, .int .i64 N2, .float .f64 f2, .slice ad2 n2 c2, .int .i64 K3, .int .i64 N3, .float .f64 f3, .slice ad3 n3 c3, .slice ab nb cb] 33)) rfl)
 have R1 := hid (r1.below HB.out (Nat.le_refl _))
 have R2 := hid (r2.below HB.out (Nat.le_refl _))
 clear r1 r2
 go_enter Try.func18, Try.ntmps18
 have HE := hid (show hasB 10 le nn (cKey K1 N1 f1 n1) (cKey K2 N2 f2 n2) (cKey K3 N3 f3 n3) nb = true by unfold hasB; simp)
 go_wp2_with fail
 go_ret
 exact ⟨by rw [HE.out]; try rfl, HB.out⟩
set_option maxHeartbeats 3200000 in
theorem impl_has_11 {se le nn : Int} {K1 N1 : Int} {f1 : Nat} {ad1 : Option Addr} {n1 c1 : Nat} {K2 N2 : Int} {f2 : Nat} {ad2 : Option Addr} {n2 c2 : Nat} {K3 N3 : Int} {f3 : Nat} {ad3 : Option Addr} {n3 c3 : Nat} {ab : Option Addr} {nb cb : Nat} {z1 z2 : List Int} {w : World} (r1 : Reads w ad1 n1 z1) (r2 : Reads w ad2 n2 z2) (hf1 : f1 < 18446744073709551616) (hf2 : f2 < 18446744073709551616) (hf3 : f3 < 18446744073709551616) (hn1 : n1 ≤ 2097152) (hn2 : n2 ≤ 2097152) (hn3 : n3 ≤ 2097152) (hl1 : ad1 = none → c1 = 0) (hl2 : ad2 = none → c2 = 0) :
 Calls Try.prog 18 #[OpV 11 se le nn K1 N1 f1 ad1 n1 c1 K2 N2 f2 ad2 n2 c2 K3 N3 f3 ad3 n3 c3 ab nb cb] w fun e w' => e = .returned (.bool (hasB 11 le nn (cKey K1 N1 f1 n1) (cKey K2 N2 f2 n2) (cKey K3 N3 f3 n3) nb)) ∧ Below w.heap.size w w' := by
 unfold OpV
 have hst1 := fun w a m => run_store Try.prog w a (.float .f64 f1) m rfl
 have hst2 := fun w a m => run_store Try.prog w a (.float .f64 f2) m rfl
 have hst3 := fun w a m => run_store Try.prog w a (.float .f64 f3) m rfl
 have HB := hid (Below.alloc1 w (.cells #[.int .i64 11, .int .i64 se, .int .i64 le, .int .i64 nn, .int .i64 K1, .int .i64 N1, .float .f64 f1, .slice ad1 n1 c1, .int .i64 K2, .int .i64 N2, .float .f64 f2, .slice ad2 n2 c2, .int .i64 K3, .int .i64 N3, .float .f64 f3, .slice ad3 n3 c3, .slice ab nb cb] 33))
 have HX := hid (BoxO.row (heap_alloc_new w (.cells #[.int .i64 11, .int .i64 se, .int .i64 le, .int .i64 nn, .int .i64 K1, .int .i64 N1, .float .f64 f1, .slice ad1 n1 c1, .int .i64 K2, .int .i64 N2, .float .f64 f2, .slice ad2 n2 c2, .int .i64 K3, .int .i64 N3, .float .f64 f3, .slice ad3 n3 c3, .slice ab nb cb] 33)) rfl)
 have R1 := hid (r1.below HB.out (Nat.le_refl _))
 have R2 := hid (r2.below HB.out (Nat.le_refl _))
 clear r1 r2
 go_enter Try.func18, Try.ntmps18
 go_wp2_with fail
 refine (within15 nn 0 15 _).mono ?_
 rintro e w9 ⟨rfl, rfl⟩
 have HE := hid (show hasB 11 le nn (cKey K1 N1 f1 n1) (cKey K2 N2 f2 n2) (cKey K3 N3 f3 n3) nb = decide (0 ≤ nn ∧ nn ≤ 15) by unfold hasB; simp)
 obtain ⟨Q, hQ⟩ : ∃ Q, decide (0 ≤ nn ∧ nn ≤ 15) = Q := ⟨_, rfl⟩
 rw [hQ] at HE ⊢
 go_wp2_with fail
 go_ret
 exact ⟨by rw [HE.out]; try rfl, HB.out⟩
set_option maxHeartbeats 3200000 in
theorem impl_has_12 {se le nn : Int} {K1 N1 : Int} {f1 : Nat} {ad1 : Option Addr} {n1 c1 : Nat} {K2 N2 : Int} {f2 : Nat} {ad2 : Option Addr} {n2 c2 : Nat} {K3 N3 : Int} {f3 : Nat} {ad3 : Option Addr} {n3 c3 : Nat} {ab : Option Addr} {nb cb : Nat} {z1 z2 : List Int} {w : World} (r1 : Reads w ad1 n1 z1) (r2 : Reads w ad2 n2 z2) (hf1 : f1 < 18446744073709551616) (hf2 : f2 < 18446744073709551616) (hf3 : f3 < 18446744073709551616) (hn1 : n1 ≤ 2097152) (hn2 : n2 ≤ 2097152) (hn3 : n3 ≤ 2097152) (hl1 : ad1 = none → c1 = 0) (hl2 : ad2 = none → c2 = 0) :
 Calls Try.prog 18 #[OpV 12 se le nn K1 N1 f1 ad1 n1 c1 K2 N2 f2 ad2 n2 c2 K3 N3 f3 ad3 n3 c3 ab nb cb] w fun e w' => e = .returned (.bool (hasB 12 le nn (cKey K1 N1 f1 n1) (cKey K2 N2 f2 n2) (cKey K3 N3 f3 n3) nb)) ∧ Below w.heap.size w w' := by
 unfold OpV
 have hst1 := fun w a m => run_store Try.prog w a (.float .f64 f1) m rfl
 have hst2 := fun w a m => run_store Try.prog w a (.float .f64 f2) m rfl
 have hst3 := fun w a m => run_store Try.prog w a (.float .f64 f3) m rfl
 have HB := hid (Below.alloc1 w (.cells #[.int .i64 12, .int .i64 se, .int .i64 le, .int .i64 nn, .int .i64 K1, .int .i64 N1, .float .f64 f1, .slice ad1 n1 c1, .int .i64 K2, .int .i64 N2, .float .f64 f2, .slice ad2 n2 c2, .int .i64 K3, .int .i64 N3, .float .f64 f3, .slice ad3 n3 c3, .slice ab nb cb] 33))
 have HX := hid (BoxO.row (heap_alloc_new w (.cells #[.int .i64 12, .int .i64 se, .int .i64 le, .int .i64 nn, .int .i64 K1, .int .i64 N1, .float .f64 f1, .slice ad1 n1 c1, .int .i64 K2, .int .i64 N2, .float .f64 f2, .slice ad2 n2 c2, .int .i64 K3, .int .i64 N3, .float .f64 f3, .slice ad3 n3 c3, .slice ab nb cb] 33)) rfl)
 have R1 := hid (r1.below HB.out (Nat.le_refl _))
 have R2 := hid (r2.below HB.out (Nat.le_refl _))
 clear r1 r2
 go_enter Try.func18, Try.ntmps18
 by_cases hn : 0 ≤ nn
 · have HE := hid (show hasB 12 le nn (cKey K1 N1 f1 n1) (cKey K2 N2 f2 n2) (cKey K3 N3 f3 n3) nb = true by unfold hasB; simp; omega)
   go_wp2_with fail
   go_ret
   exact ⟨by rw [HE.out]; first | rfl | simp [hn], HB.out⟩
 · have HE := hid (show hasB 12 le nn (cKey K1 N1 f1 n1) (cKey K2 N2 f2 n2) (cKey K3 N3 f3 n3) nb = false by unfold hasB; simp; omega)
   go_wp2_with fail
   go_ret
   exact ⟨by rw [HE.out]; first | rfl | simp [hn], HB.out⟩
set_option maxHeartbeats 3200000 in
theorem impl_has_13 {se le nn : Int} {K1 N1 : Int} {f1 : Nat} {ad1 : Option Addr} {n1 c1 : Nat} {K2 N2 : Int} {f2 : Nat} {ad2 : Option Addr} {n2 c2 : Nat} {K3 N3 : Int} {f3 : Nat} {ad3 : Option Addr} {n3 c3 : Nat} {ab : Option Addr} {nb cb : Nat} {z1 z2 : List Int} {w : World} (r1 : Reads w ad1 n1 z1) (r2 : Reads w ad2 n2 z2) (hf1 : f1 < 18446744073709551616) (hf2 : f2 < 18446744073709551616) (hf3 : f3 < 18446744073709551616) (hn1 : n1 ≤ 2097152) (hn2 : n2 ≤ 2097152) (hn3 : n3 ≤ 2097152) (hl1 : ad1 = none → c1 = 0) (hl2 : ad2 = none → c2 = 0) :
 Calls Try.prog 18 #[OpV 13 se le nn K1 N1 f1 ad1 n1 c1 K2 N2 f2 ad2 n2 c2 K3 N3 f3 ad3 n3 c3 ab nb cb] w fun e w' => e = .returned (.bool (hasB 13 le nn (cKey K1 N1 f1 n1) (cKey K2 N2 f2 n2) (cKey K3 N3 f3 n3) nb)) ∧ Below w.heap.size w w' := by
 unfold OpV
 have hst1 := fun w a m => run_store Try.prog w a (.float .f64 f1) m rfl
 have hst2 := fun w a m => run_store Try.prog w a (.float .f64 f2) m rfl
 have hst3 := fun w a m => run_store Try.prog w a (.float .f64 f3) m rfl
 have HB := hid (Below.alloc1 w (.cells #[.int .i64 13, .int .i64 se, .int .i64 le, .int .i64 nn, .int .i64 K1, .int .i64 N1, .float .f64 f1, .slice ad1 n1 c1, .int .i64 K2, .int .i64 N2, .float .f64 f2, .slice ad2 n2 c2, .int .i64 K3, .int .i64 N3, .float .f64 f3, .slice ad3 n3 c3, .slice ab nb cb] 33))
 have HX := hid (BoxO.row (heap_alloc_new w (.cells #[.int .i64 13, .int .i64 se, .int .i64 le, .int .i64 nn, .int .i64 K1, .int .i64 N1, .float .f64 f1, .slice ad1 n1 c1, .int .i64 K2, .int .i64 N2, .float .f64 f2, .slice ad2 n2 c2, .int .i64 K3, .int .i64 N3, .float .f64 f3, .slice ad3 n3 c3, .slice ab nb cb] 33)) rfl)
 have R1 := hid (r1.below HB.out (Nat.le_refl _))
 have R2 := hid (r2.below HB.out (Nat.le_refl _))
 clear r1 r2
 go_enter Try.func18, Try.ntmps18
 by_cases hn : nb ≤ 600
 · have HE := hid (show hasB 13 le nn (cKey K1 N1 f1 n1) (cKey K2 N2 f2 n2) (cKey K3 N3 f3 n3) nb = true by unfold hasB; simp; omega)
   have hnq : (nb : Int) ≤ 600 := by omega
   go_wp2_with fail
   go_ret
   exact ⟨by rw [HE.out]; first | rfl | simp [hnq], HB.out⟩
 · have HE := hid (show hasB 13 le nn (cKey K1 N1 f1 n1) (cKey K2 N2 f2 n2) (cKey K3 N3 f3 n3) nb = false by unfold hasB; simp; omega)
   have hnq : ¬ (nb : Int) ≤ 600 := by omega
   go_wp2_with fail
   go_ret
   exact ⟨by rw [HE.out]; first | rfl | simp [hnq], HB.out⟩
theorem impl_has {kd : Int} {se le nn : Int} {K1 N1 : Int} {f1 : Nat} {ad1 : Option Addr} {n1 c1 : Nat} {K2 N2 : Int} {f2 : Nat} {ad2 : Option Addr} {n2 c2 : Nat} {K3 N3 : Int} {f3 : Nat} {ad3 : Option Addr} {n3 c3 : Nat} {ab : Option Addr} {nb cb : Nat} {z1 z2 : List Int} {w : World} (r1 : Reads w ad1 n1 z1) (r2 : Reads w ad2 n2 z2) (hf1 : f1 < 18446744073709551616) (hf2 : f2 < 18446744073709551616) (hf3 : f3 < 18446744073709551616) (hn1 : n1 ≤ 2097152) (hn2 : n2 ≤ 2097152) (hn3 : n3 ≤ 2097152) (hl1 : ad1 = none → c1 = 0) (hl2 : ad2 = none → c2 = 0) (hk : 1 ≤ kd ∧ kd ≤ 13) :
 Calls Try.prog 18 #[OpV kd se le nn K1 N1 f1 ad1 n1 c1 K2 N2 f2 ad2 n2 c2 K3 N3 f3 ad3 n3 c3 ab nb cb] w fun e w' => e = .returned (.bool (hasB kd le nn (cKey K1 N1 f1 n1) (cKey K2 N2 f2 n2) (cKey K3 N3 f3 n3) nb)) ∧ Below w.heap.size w w' := by
 have hc : kd = 1 ∨ kd = 2 ∨ kd = 3 ∨ kd = 4 ∨ kd = 5 ∨ kd = 6 ∨ kd = 7 ∨ kd = 8 ∨ kd = 9 ∨ kd = 10 ∨ kd = 11 ∨ kd = 12 ∨ kd = 13 := by omega
 rcases hc with rfl | rfl | rfl | rfl | rfl | rfl | rfl | rfl | rfl | rfl | rfl | rfl | rfl
 · exact impl_has_1 r1 r2 hf1 hf2 hf3 hn1 hn2 hn3 hl1 hl2
 · exact impl_has_2 r1 r2 hf1 hf2 hf3 hn1 hn2 hn3 hl1 hl2
 · exact impl_has_3 r1 r2 hf1 hf2 hf3 hn1 hn2 hn3 hl1 hl2
 · exact impl_has_4 r1 r2 hf1 hf2 hf3 hn1 hn2 hn3 hl1 hl2
 · exact impl_has_5 r1 r2 hf1 hf2 hf3 hn1 hn2 hn3 hl1 hl2
 · exact impl_has_6 r1 r2 hf1 hf2 hf3 hn1 hn2 hn3 hl1 hl2
 · exact impl_has_7 r1 r2 hf1 hf2 hf3 hn1 hn2 hn3 hl1 hl2
 · exact impl_has_8 r1 r2 hf1 hf2 hf3 hn1 hn2 hn3 hl1 hl2
 · exact impl_has_9 r1 r2 hf1 hf2 hf3 hn1 hn2 hn3 hl1 hl2
 · exact impl_has_10 r1 r2 hf1 hf2 hf3 hn1 hn2 hn3 hl1 hl2
 · exact impl_has_11 r1 r2 hf1 hf2 hf3 hn1 hn2 hn3 hl1 hl2
 · exact impl_has_12 r1 r2 hf1 hf2 hf3 hn1 hn2 hn3 hl1 hl2
 · exact impl_has_13 r1 r2 hf1 hf2 hf3 hn1 hn2 hn3 hl1 hl2
set_option maxHeartbeats 3200000 in
theorem impl_OpOk {kd : Int} {se le nn : Int} {K1 N1 : Int} {f1 : Nat} {ad1 : Option Addr} {n1 c1 : Nat} {K2 N2 : Int} {f2 : Nat} {ad2 : Option Addr} {n2 c2 : Nat} {K3 N3 : Int} {f3 : Nat} {ad3 : Option Addr} {n3 c3 : Nat} {ab : Option Addr} {nb cb : Nat} {z1 z2 : List Int} {w : World} (r1 : Reads w ad1 n1 z1) (r2 : Reads w ad2 n2 z2) (hf1 : f1 < 18446744073709551616) (hf2 : f2 < 18446744073709551616) (hf3 : f3 < 18446744073709551616) (hn1 : n1 ≤ 2097152) (hn2 : n2 ≤ 2097152) (hn3 : n3 ≤ 2097152) (hl1 : ad1 = none → c1 = 0) (hl2 : ad2 = none → c2 = 0) :
 Calls Try.prog 7 #[OpV kd se le nn K1 N1 f1 ad1 n1 c1 K2 N2 f2 ad2 n2 c2 K3 N3 f3 ad3 n3 c3 ab nb cb] w fun e w' => e = .returned (.bool (opB kd se le nn (cKey K1 N1 f1 n1) (cKey K2 N2 f2 n2) (cKey K3 N3 f3 n3) nb)) ∧ Below w.heap.size w w' := by
 have hst1 := fun w a m => run_store Try.prog w a (.float .f64 f1) m rfl
 have hst2 := fun w a m => run_store Try.prog w a (.float .f64 f2) m rfl
 have hst3 := fun w a m => run_store Try.prog w a (.float .f64 f3) m rfl
 have HB := hid (Below.alloc1 w (.cells #[.int .i64 kd, .int .i64 se, .int .i64 le, .int .i64 nn, .int .i64 K1, .int .i64 N1, .float .f64 f1, .slice ad1 n1 c1, .int .i64 K2, .int .i64 N2, .float .f64 f2, .slice ad2 n2 c2, .int .i64 K3, .int .i64 N3, .float .f64 f3, .slice ad3 n3 c3, .slice ab nb cb] 33))
 have R1 := hid (r1.below HB.out (Nat.le_refl _))
 have R2 := hid (r2.below HB.out (Nat.le_refl _))
 have HI := hid (fun (hk : 1 ≤ kd ∧ kd ≤ 13) => impl_has (kd := kd) (se := se) (le := le) (nn := nn) (K1 := K1) (N1 := N1) (K2 := K2) (N2 := N2) (K3 := K3) (N3 := N3) (f3 := f3) (ad3 := ad3) (n3 := n3) (c3 := c3) (ab := ab) (nb := nb) (cb := cb) R1.out R2.out hf1 hf2 hf3 hn1 hn2 hn3 hl1 hl2 hk)
 clear r1 r2
 unfold OpV at HI ⊢
 go_enter Try.func7, Try.ntmps7
 go_wp2_with fail
 refine (within15 kd 1 13 _).mono ?_
 rintro e w1 ⟨rfl, rfl⟩
 by_cases hk : 1 ≤ kd ∧ kd ≤ 13
 case neg =>
  have HE := hid (show opB kd se le nn (cKey K1 N1 f1 n1) (cKey K2 N2 f2 n2) (cKey K3 N3 f3 n3) nb = false from decide_eq_false (fun q => hk ⟨q.1, q.2.1⟩))
  rw [decide_eq_false hk]
  go_wp2_with fail
  go_ret
  exact ⟨by rw [HE.out]; try rfl, HB.out⟩
 rw [decide_eq_true hk]
 have HK := hid hk
 have HO := hid (fun hs => op_has kd se le nn (cKey K1 N1 f1 n1) (cKey K2 N2 f2 n2) (cKey K3 N3 f3 n3) nb hk hs)
 clear hk
 by_cases h8 : kd ≤ 8
 · go_wp2_with fail
   refine (within15 se 0 7 _).mono ?_
   rintro e w1 ⟨rfl, rfl⟩
   by_cases hs : 0 ≤ se ∧ se ≤ 7
   case neg =>
    have HE := hid (show opB kd se le nn (cKey K1 N1 f1 n1) (cKey K2 N2 f2 n2) (cKey K3 N3 f3 n3) nb = false from decide_eq_false (fun q => hs (q.2.2.1 h8)))
    rw [decide_eq_false hs]
    go_wp2_with fail
    go_ret
    exact ⟨by rw [HE.out]; try rfl, HB.out⟩
   rw [decide_eq_true hs]
   have HE := hid (HO.out (fun _ => hs))
   clear hs
   go_wp2_with fail
   refine (HI.out HK.out).mono ?_
   rintro e y ⟨rfl, b⟩
   replace HB := hid (HB.out.trans (b.mono HB.out.size))
   clear b
   go_wp2_with fail
   go_ret
   exact ⟨by rw [HE.out]; try rfl, HB.out⟩
 · have HE := hid (HO.out (fun q => absurd q h8))
   go_wp2_with fail
   refine (HI.out HK.out).mono ?_
   rintro e y ⟨rfl, b⟩
   replace HB := hid (HB.out.trans (b.mono HB.out.size))
   clear b
   go_wp2_with fail
   go_ret
   exact ⟨by rw [HE.out]; try rfl, HB.out⟩
end Go.Proofs.Ytnbpblephmjfnaa
