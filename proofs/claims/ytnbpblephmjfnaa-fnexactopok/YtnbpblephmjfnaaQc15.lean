/- OpOk, plain; the contract of the specification's. Conditions: texts of at most 2^21 bytes. -/
import Derived.Test.YtnbpblephmjfnaaQb15
import Derived.Test.YtnbpblephmjfnaaCn
import Derived.Test.YtnbpblephmjfnaaIm2
namespace Go.Proofs.Ytnbpblephmjfnaa
open Go.RowKit
set_option maxRecDepth 100000
set_option linter.unusedVariables false
def OpV (kd se le nn : Int) (K1 N1 : Int) (f1 : Nat) (ad1 : Option Addr) (n1 c1 : Nat) (K2 N2 : Int) (f2 : Nat) (ad2 : Option Addr) (n2 c2 : Nat) (K3 N3 : Int) (f3 : Nat) (ad3 : Option Addr) (n3 c3 : Nat) (ab : Option Addr) (nb cb : Nat) : Value := .agg #[.int .i64 kd, .int .i64 se, .int .i64 le, .int .i64 nn, .int .i64 K1, .int .i64 N1, .float .f64 f1, .slice ad1 n1 c1, .int .i64 K2, .int .i64 N2, .float .f64 f2, .slice ad2 n2 c2, .int .i64 K3, .int .i64 N3, .float .f64 f3, .slice ad3 n3 c3, .slice ab nb cb]
def cKey (K N : Int) (f n : Nat) : Bool := okI K N f n && decide (K ≠ 0)
def opB (kd se le nn : Int) (k t v : Bool) (nb : Nat) : Bool := decide (1 ≤ kd ∧ kd ≤ 13 ∧ (kd ≤ 8 → 0 ≤ se ∧ se ≤ 7) ∧ (kd = 1 → 0 ≤ le ∧ le ≤ 1) ∧ (2 ≤ kd ∧ kd ≤ 6 → k = true) ∧ (kd = 3 → v = true) ∧ (kd = 5 ∨ kd = 6 → t = true) ∧ (kd = 5 → 0 ≤ nn ∧ nn ≤ 50) ∧ (kd = 11 → 0 ≤ nn ∧ nn ≤ 15) ∧ (kd = 12 → 0 ≤ nn) ∧ (kd = 13 → nb ≤ 600))
theorem key_clean {K N : Int} {f n : Nat} {zs : List Int} {RK RN : Int} {RF : Nat} {RZ : List Int} (hR : cleanR K N f n zs = (RK, RN, RF, RZ)) (hl : zs.length = n) {f' : Nat} (hs : Same RF f') : okK RK RN f' RZ.length = cKey K N f n := by
 have h2 : isN RF = false → f' = RF := fun q => by
  rcases hs with h | h
  · rw [q] at h; cases h.1
  · exact h.2
 have h3 : isN RF = true → isN f' = true := fun q => by
  rcases hs with h | h
  · exact h.2
  · rw [q] at h; cases h.1
 unfold cleanR at hR
 split at hR
 · rename_i hok
   obtain ⟨rfl, e2⟩ := Prod.mk.inj hR
   obtain ⟨rfl, e3⟩ := Prod.mk.inj e2
   obtain ⟨rfl, rfl⟩ := Prod.mk.inj e3
   have ho := of_decide_eq_true hok
   have hne : f' ≠ 9223372036854775808 := by
    cases hN : isN (cleanF f) with
    | false =>
     rw [h2 hN]
     unfold cleanF
     split <;> omega
    | true =>
     intro e
     have := h3 hN
     rw [e] at this
     exact absurd this (by decide)
   have hz : K = 2 ∨ f' = 0 := by
    by_cases hK : K = 2
    · exact .inl hK
    · right
      have hf : f = 0 := by omega
      subst hf
      exact h2 (by decide)
   have hok' : okI K N f' zs.length = true := decide_eq_true (by rw [hl]; omega)
   unfold okK cKey
   rw [hok', hok, Bool.true_and, Bool.true_and, decide_eq_decide]
   exact ⟨fun q => q.1, fun q => ⟨q, hne⟩⟩
 · rename_i hok
   obtain ⟨rfl, e2⟩ := Prod.mk.inj hR
   obtain ⟨rfl, e3⟩ := Prod.mk.inj e2
   obtain ⟨rfl, rfl⟩ := Prod.mk.inj e3
   unfold okK cKey
   rw [show okI K N f n = false by simpa using hok]
   simp
theorem clean_len {K N : Int} {f n : Nat} {zs : List Int} {RK RN : Int} {RF : Nat} {RZ : List Int} (hR : cleanR K N f n zs = (RK, RN, RF, RZ)) (hz : ∀ i, 0 ≤ zs.getD i 0 ∧ zs.getD i 0 ≤ 255) (hl : zs.length ≤ 2097152) : (∀ i, 0 ≤ RZ.getD i 0 ∧ RZ.getD i 0 ≤ 255) ∧ RZ.length ≤ 2097152 := by
 unfold cleanR at hR
 split at hR
 · obtain ⟨rfl, h2⟩ := Prod.mk.inj hR
   obtain ⟨rfl, h3⟩ := Prod.mk.inj h2
   obtain ⟨rfl, rfl⟩ := Prod.mk.inj h3
   exact ⟨hz, hl⟩
 · obtain ⟨rfl, h2⟩ := Prod.mk.inj hR
   obtain ⟨rfl, h3⟩ := Prod.mk.inj h2
   obtain ⟨rfl, rfl⟩ := Prod.mk.inj h3
   exact ⟨fun i => by simp, by simp⟩
theorem cKey_and (K N : Int) (f n : Nat) (q : Bool) (h : (K != 0) = q) : cKey K N f n = (okI K N f n && q) := by
 unfold cKey
 congr 1
 rw [← h]
 by_cases e : K = 0 <;> simp [e]
theorem in15 (n lo hi : Int) (w : World) : Calls Try.prog 11 #[.int .i64 n, .int .i64 lo, .int .i64 hi] w fun e w' => e = .returned (.bool (decide (lo ≤ n ∧ n ≤ hi))) ∧ w' = w := by
 by_cases h1 : lo ≤ n
 · by_cases h2 : n ≤ hi
   · rw [decide_eq_true ⟨h1, h2⟩]
     go_enter Try.func11, Try.ntmps11
     go_wp2
     go_ret
     exact ⟨rfl, rfl⟩
   · rw [decide_eq_false (fun q => h2 q.2)]
     go_enter Try.func11, Try.ntmps11
     go_wp2
     go_ret
     exact ⟨rfl, rfl⟩
 · rw [decide_eq_false (fun q => h1 q.1)]
   go_enter Try.func11, Try.ntmps11
   go_wp2
   go_ret
   exact ⟨rfl, rfl⟩
set_option maxHeartbeats 3200000 in
theorem spec_OpOk_1 {se le nn : Int} {K1 N1 : Int} {f1 : Nat} {ad1 : Option Addr} {n1 c1 : Nat} {K2 N2 : Int} {f2 : Nat} {ad2 : Option Addr} {n2 c2 : Nat} {K3 N3 : Int} {f3 : Nat} {ad3 : Option Addr} {n3 c3 : Nat} {ab : Option Addr} {nb cb : Nat} {z1 z2 : List Int} {w : World} (r1 : Reads w ad1 n1 z1) (r2 : Reads w ad2 n2 z2) (hf1 : f1 < 18446744073709551616) (hf2 : f2 < 18446744073709551616) (hf3 : f3 < 18446744073709551616) (hn1 : n1 ≤ 2097152) (hn2 : n2 ≤ 2097152) (hn3 : n3 ≤ 2097152) (hl1 : ad1 = none → c1 = 0) (hl2 : ad2 = none → c2 = 0) :
 Calls Try.prog 5 #[OpV 1 se le nn K1 N1 f1 ad1 n1 c1 K2 N2 f2 ad2 n2 c2 K3 N3 f3 ad3 n3 c3 ab nb cb] w fun e w' => e = .returned (.bool (opB 1 se le nn (cKey K1 N1 f1 n1) (cKey K2 N2 f2 n2) (cKey K3 N3 f3 n3) nb)) ∧ Below w.heap.size w w' := by
 unfold OpV
 have hst1 := fun w a m => run_store Try.prog w a (.float .f64 f1) m rfl
 have hst2 := fun w a m => run_store Try.prog w a (.float .f64 f2) m rfl
 have hst3 := fun w a m => run_store Try.prog w a (.float .f64 f3) m rfl
 have HB := hid (Below.alloc1 w (.cells #[.int .i64 1, .int .i64 se, .int .i64 le, .int .i64 nn, .int .i64 K1, .int .i64 N1, .float .f64 f1, .slice ad1 n1 c1, .int .i64 K2, .int .i64 N2, .float .f64 f2, .slice ad2 n2 c2, .int .i64 K3, .int .i64 N3, .float .f64 f3, .slice ad3 n3 c3, .slice ab nb cb] 33))
 have HX := hid (BoxO.row (heap_alloc_new w (.cells #[.int .i64 1, .int .i64 se, .int .i64 le, .int .i64 nn, .int .i64 K1, .int .i64 N1, .float .f64 f1, .slice ad1 n1 c1, .int .i64 K2, .int .i64 N2, .float .f64 f2, .slice ad2 n2 c2, .int .i64 K3, .int .i64 N3, .float .f64 f3, .slice ad3 n3 c3, .slice ab nb cb] 33)) rfl)
 have R1 := hid (r1.below HB.out (Nat.le_refl _))
 have R2 := hid (r2.below HB.out (Nat.le_refl _))
 have L1 := hid r1.len
 have L2 := hid r2.len
 have D1 := hid r1.bd
 have D2 := hid r2.bd
 clear r1 r2
 go_enter Try.func5, Try.ntmps5
 go_wp2_with fail
 refine (in15 1 1 13 _).mono ?_
 rintro e w1 ⟨rfl, rfl⟩
 rw [show decide ((1 : Int) ≤ 1 ∧ (1 : Int) ≤ 13) = true from rfl]
 go_wp2_with fail
 refine (in15 se 0 7 _).mono ?_
 rintro e w1 ⟨rfl, rfl⟩
 by_cases hs : 0 ≤ se ∧ se ≤ 7
 case neg =>
  rw [decide_eq_false hs]
  have HE := hid (show opB 1 se le nn (cKey K1 N1 f1 n1) (cKey K2 N2 f2 n2) (cKey K3 N3 f3 n3) nb = false from decide_eq_false (fun q => hs (q.2.2.1 (by omega))))
  go_wp2_with fail
  go_ret
  exact ⟨by rw [HE.out]; try rfl, HB.out⟩
 rw [decide_eq_true hs]
 go_wp2_with fail
 refine (in15 le 0 1 _).mono ?_
 rintro e w9 ⟨rfl, rfl⟩
 have HE := hid (show opB 1 se le nn (cKey K1 N1 f1 n1) (cKey K2 N2 f2 n2) (cKey K3 N3 f3 n3) nb = decide (0 ≤ le ∧ le ≤ 1) by unfold opB; simp [hs])
 obtain ⟨Q, hQ⟩ : ∃ Q, decide (0 ≤ le ∧ le ≤ 1) = Q := ⟨_, rfl⟩
 rw [hQ] at HE ⊢
 go_wp2_with fail
 go_ret
 exact ⟨by rw [HE.out]; try rfl, HB.out⟩
set_option maxHeartbeats 3200000 in
theorem spec_OpOk_2 {se le nn : Int} {K1 N1 : Int} {f1 : Nat} {ad1 : Option Addr} {n1 c1 : Nat} {K2 N2 : Int} {f2 : Nat} {ad2 : Option Addr} {n2 c2 : Nat} {K3 N3 : Int} {f3 : Nat} {ad3 : Option Addr} {n3 c3 : Nat} {ab : Option Addr} {nb cb : Nat} {z1 z2 : List Int} {w : World} (r1 : Reads w ad1 n1 z1) (r2 : Reads w ad2 n2 z2) (hf1 : f1 < 18446744073709551616) (hf2 : f2 < 18446744073709551616) (hf3 : f3 < 18446744073709551616) (hn1 : n1 ≤ 2097152) (hn2 : n2 ≤ 2097152) (hn3 : n3 ≤ 2097152) (hl1 : ad1 = none → c1 = 0) (hl2 : ad2 = none → c2 = 0) :
 Calls Try.prog 5 #[OpV 2 se le nn K1 N1 f1 ad1 n1 c1 K2 N2 f2 ad2 n2 c2 K3 N3 f3 ad3 n3 c3 ab nb cb] w fun e w' => e = .returned (.bool (opB 2 se le nn (cKey K1 N1 f1 n1) (cKey K2 N2 f2 n2) (cKey K3 N3 f3 n3) nb)) ∧ Below w.heap.size w w' := by
 unfold OpV
 have hst1 := fun w a m => run_store Try.prog w a (.float .f64 f1) m rfl
 have hst2 := fun w a m => run_store Try.prog w a (.float .f64 f2) m rfl
 have hst3 := fun w a m => run_store Try.prog w a (.float .f64 f3) m rfl
 have HB := hid (Below.alloc1 w (.cells #[.int .i64 2, .int .i64 se, .int .i64 le, .int .i64 nn, .int .i64 K1, .int .i64 N1, .float .f64 f1, .slice ad1 n1 c1, .int .i64 K2, .int .i64 N2, .float .f64 f2, .slice ad2 n2 c2, .int .i64 K3, .int .i64 N3, .float .f64 f3, .slice ad3 n3 c3, .slice ab nb cb] 33))
 have HX := hid (BoxO.row (heap_alloc_new w (.cells #[.int .i64 2, .int .i64 se, .int .i64 le, .int .i64 nn, .int .i64 K1, .int .i64 N1, .float .f64 f1, .slice ad1 n1 c1, .int .i64 K2, .int .i64 N2, .float .f64 f2, .slice ad2 n2 c2, .int .i64 K3, .int .i64 N3, .float .f64 f3, .slice ad3 n3 c3, .slice ab nb cb] 33)) rfl)
 have R1 := hid (r1.below HB.out (Nat.le_refl _))
 have R2 := hid (r2.below HB.out (Nat.le_refl _))
 have L1 := hid r1.len
 have L2 := hid r2.len
 have D1 := hid r1.bd
 have D2 := hid r2.bd
 clear r1 r2
 go_enter Try.func5, Try.ntmps5
 go_wp2_with fail
 refine (in15 2 1 13 _).mono ?_
 rintro e w1 ⟨rfl, rfl⟩
 rw [show decide ((1 : Int) ≤ 2 ∧ (2 : Int) ≤ 13) = true from rfl]
 go_wp2_with fail
 refine (in15 se 0 7 _).mono ?_
 rintro e w1 ⟨rfl, rfl⟩
 by_cases hs : 0 ≤ se ∧ se ≤ 7
 case neg =>
  rw [decide_eq_false hs]
  have HE := hid (show opB 2 se le nn (cKey K1 N1 f1 n1) (cKey K2 N2 f2 n2) (cKey K3 N3 f3 n3) nb = false from decide_eq_false (fun q => hs (q.2.2.1 (by omega))))
  go_wp2_with fail
  go_ret
  exact ⟨by rw [HE.out]; try rfl, HB.out⟩
 rw [decide_eq_true hs]
 go_wp2_with fail
 generalize w.alloc (.cells #[.int .i64 2, .int .i64 se, .int .i64 le, .int .i64 nn, .int .i64 K1, .int .i64 N1, .float .f64 f1, .slice ad1 n1 c1, .int .i64 K2, .int .i64 N2, .float .f64 f2, .slice ad2 n2 c2, .int .i64 K3, .int .i64 N3, .float .f64 f3, .slice ad3 n3 c3, .slice ab nb cb] 33) = U0 at *
 obtain ⟨⟨RK1, RN1, RF1, RZ1⟩, hR1⟩ : ∃ R, cleanR K1 N1 f1 n1 z1 = R := ⟨_, rfl⟩
 have HR1 := hid hR1
 clear hR1
 refine (spec_Clean K1 N1 f1 c1 hl1 R1.out hf1 hn1 HR1.out).mono ?_
 rintro e u1 ⟨g1, v, rfl, hg1, HS1, o, b⟩
 obtain ⟨a1, d1, rfl, -, -⟩ := Reads.own o (clean_len HR1.out D1.out (by rw [L1.out]; exact hn1)).1
 replace HX := hid (HX.out.below b (Nat.le_refl _))
 replace R1 := hid (R1.out.below b (Nat.le_refl _))
 replace R2 := hid (R2.out.below b (Nat.le_refl _))
 replace HB := hid (HB.out.trans (b.mono HB.out.size))
 clear o b
 go_wp2_with fail
 refine (spec_KeyOk RK1 RN1 g1 a1 RZ1.length d1 hg1 (clean_len HR1.out D1.out (by rw [L1.out]; exact hn1)).2 _).mono ?_
 rintro e y1 ⟨rfl, b⟩
 rw [key_clean HR1.out L1.out HS1.out]
 replace HX := hid (HX.out.below b (Nat.le_refl _))
 replace R1 := hid (R1.out.below b (Nat.le_refl _))
 replace R2 := hid (R2.out.below b (Nat.le_refl _))
 replace HB := hid (HB.out.trans (b.mono HB.out.size))
 clear b
 cases hk1 : cKey K1 N1 f1 n1 with
 | false =>
  have HE := hid (show opB 2 se le nn (cKey K1 N1 f1 n1) (cKey K2 N2 f2 n2) (cKey K3 N3 f3 n3) nb = false by rw [hk1]; unfold opB; simp)
  go_wp2_with fail
  go_ret
  exact ⟨by rw [HE.out]; try rfl, HB.out⟩
 | true =>
 have c0_ : y1.cell? ⟨w.heap.size, 0, none⟩ = some (.int .i64 2) := HX.out.ce 0 (by omega)
 have HE := hid (show opB 2 se le nn (cKey K1 N1 f1 n1) (cKey K2 N2 f2 n2) (cKey K3 N3 f3 n3) nb = true by rw [hk1]; unfold opB; simp [hs])
 go_wp2_with fail
 go_ret
 exact ⟨by rw [HE.out]; try rfl, HB.out⟩
set_option maxHeartbeats 3200000 in
theorem spec_OpOk_3 {se le nn : Int} {K1 N1 : Int} {f1 : Nat} {ad1 : Option Addr} {n1 c1 : Nat} {K2 N2 : Int} {f2 : Nat} {ad2 : Option Addr} {n2 c2 : Nat} {K3 N3 : Int} {f3 : Nat} {ad3 : Option Addr} {n3 c3 : Nat} {ab : Option Addr} {nb cb : Nat} {z1 z2 : List Int} {w : World} (r1 : Reads w ad1 n1 z1) (r2 : Reads w ad2 n2 z2) (hf1 : f1 < 18446744073709551616) (hf2 : f2 < 18446744073709551616) (hf3 : f3 < 18446744073709551616) (hn1 : n1 ≤ 2097152) (hn2 : n2 ≤ 2097152) (hn3 : n3 ≤ 2097152) (hl1 : ad1 = none → c1 = 0) (hl2 : ad2 = none → c2 = 0) :
 Calls Try.prog 5 #[OpV 3 se le nn K1 N1 f1 ad1 n1 c1 K2 N2 f2 ad2 n2 c2 K3 N3 f3 ad3 n3 c3 ab nb cb] w fun e w' => e = .returned (.bool (opB 3 se le nn (cKey K1 N1 f1 n1) (cKey K2 N2 f2 n2) (cKey K3 N3 f3 n3) nb)) ∧ Below w.heap.size w w' := by
 unfold OpV
 have hst1 := fun w a m => run_store Try.prog w a (.float .f64 f1) m rfl
 have hst2 := fun w a m => run_store Try.prog w a (.float .f64 f2) m rfl
 have hst3 := fun w a m => run_store Try.prog w a (.float .f64 f3) m rfl
 have HB := hid (Below.alloc1 w (.cells #[.int .i64 3, .int .i64 se, .int .i64 le, .int .i64 nn, .int .i64 K1, .int .i64 N1, .float .f64 f1, .slice ad1 n1 c1, .int .i64 K2, .int .i64 N2, .float .f64 f2, .slice ad2 n2 c2, .int .i64 K3, .int .i64 N3, .float .f64 f3, .slice ad3 n3 c3, .slice ab nb cb] 33))
 have HX := hid (BoxO.row (heap_alloc_new w (.cells #[.int .i64 3, .int .i64 se, .int .i64 le, .int .i64 nn, .int .i64 K1, .int .i64 N1, .float .f64 f1, .slice ad1 n1 c1, .int .i64 K2, .int .i64 N2, .float .f64 f2, .slice ad2 n2 c2, .int .i64 K3, .int .i64 N3, .float .f64 f3, .slice ad3 n3 c3, .slice ab nb cb] 33)) rfl)
 have R1 := hid (r1.below HB.out (Nat.le_refl _))
 have R2 := hid (r2.below HB.out (Nat.le_refl _))
 have L1 := hid r1.len
 have L2 := hid r2.len
 have D1 := hid r1.bd
 have D2 := hid r2.bd
 clear r1 r2
 go_enter Try.func5, Try.ntmps5
 go_wp2_with fail
 refine (in15 3 1 13 _).mono ?_
 rintro e w1 ⟨rfl, rfl⟩
 rw [show decide ((1 : Int) ≤ 3 ∧ (3 : Int) ≤ 13) = true from rfl]
 go_wp2_with fail
 refine (in15 se 0 7 _).mono ?_
 rintro e w1 ⟨rfl, rfl⟩
 by_cases hs : 0 ≤ se ∧ se ≤ 7
 case neg =>
  rw [decide_eq_false hs]
  have HE := hid (show opB 3 se le nn (cKey K1 N1 f1 n1) (cKey K2 N2 f2 n2) (cKey K3 N3 f3 n3) nb = false from decide_eq_false (fun q => hs (q.2.2.1 (by omega))))
  go_wp2_with fail
  go_ret
  exact ⟨by rw [HE.out]; try rfl, HB.out⟩
 rw [decide_eq_true hs]
 go_wp2_with fail
 generalize w.alloc (.cells #[.int .i64 3, .int .i64 se, .int .i64 le, .int .i64 nn, .int .i64 K1, .int .i64 N1, .float .f64 f1, .slice ad1 n1 c1, .int .i64 K2, .int .i64 N2, .float .f64 f2, .slice ad2 n2 c2, .int .i64 K3, .int .i64 N3, .float .f64 f3, .slice ad3 n3 c3, .slice ab nb cb] 33) = U0 at *
 obtain ⟨⟨RK1, RN1, RF1, RZ1⟩, hR1⟩ : ∃ R, cleanR K1 N1 f1 n1 z1 = R := ⟨_, rfl⟩
 have HR1 := hid hR1
 clear hR1
 refine (spec_Clean K1 N1 f1 c1 hl1 R1.out hf1 hn1 HR1.out).mono ?_
 rintro e u1 ⟨g1, v, rfl, hg1, HS1, o, b⟩
 obtain ⟨a1, d1, rfl, -, -⟩ := Reads.own o (clean_len HR1.out D1.out (by rw [L1.out]; exact hn1)).1
 replace HX := hid (HX.out.below b (Nat.le_refl _))
 replace R1 := hid (R1.out.below b (Nat.le_refl _))
 replace R2 := hid (R2.out.below b (Nat.le_refl _))
 replace HB := hid (HB.out.trans (b.mono HB.out.size))
 clear o b
 go_wp2_with fail
 refine (spec_KeyOk RK1 RN1 g1 a1 RZ1.length d1 hg1 (clean_len HR1.out D1.out (by rw [L1.out]; exact hn1)).2 _).mono ?_
 rintro e y1 ⟨rfl, b⟩
 rw [key_clean HR1.out L1.out HS1.out]
 replace HX := hid (HX.out.below b (Nat.le_refl _))
 replace R1 := hid (R1.out.below b (Nat.le_refl _))
 replace R2 := hid (R2.out.below b (Nat.le_refl _))
 replace HB := hid (HB.out.trans (b.mono HB.out.size))
 clear b
 cases hk1 : cKey K1 N1 f1 n1 with
 | false =>
  have HE := hid (show opB 3 se le nn (cKey K1 N1 f1 n1) (cKey K2 N2 f2 n2) (cKey K3 N3 f3 n3) nb = false by rw [hk1]; unfold opB; simp)
  go_wp2_with fail
  go_ret
  exact ⟨by rw [HE.out]; try rfl, HB.out⟩
 | true =>
 have c0_ : y1.cell? ⟨w.heap.size, 0, none⟩ = some (.int .i64 3) := HX.out.ce 0 (by omega)
 have c12_ : y1.cell? ⟨w.heap.size, 12, none⟩ = some (.int .i64 K3) := HX.out.ce 12 (by omega)
 have c13_ : y1.cell? ⟨w.heap.size, 13, none⟩ = some (.int .i64 N3) := HX.out.ce 13 (by omega)
 have c14_ : y1.cell? ⟨w.heap.size, 14, none⟩ = some (.float .f64 f3) := HX.out.ce 14 (by omega)
 have c15_ : y1.cell? ⟨w.heap.size, 15, none⟩ = some (.slice ad3 n3 c3) := HX.out.ce 15 (by omega)
 go_wp2_with fail
 refine (spec_ItemOk K3 N3 f3 ad3 n3 c3 hf3 hn3 _).mono ?_
 rintro e y4 ⟨rfl, b⟩
 replace HX := hid (HX.out.below b (Nat.le_refl _))
 replace HB := hid (HB.out.trans (b.mono HB.out.size))
 clear b c0_ c12_ c13_ c14_ c15_
 have c12_ : y4.cell? ⟨w.heap.size, 12, none⟩ = some (.int .i64 K3) := HX.out.ce 12 (by omega)
 obtain ⟨q, hq⟩ : ∃ q, (K3 != 0) = q := ⟨_, rfl⟩
 have HC := hid (cKey_and K3 N3 f3 n3 q hq)
 cases hv : okI K3 N3 f3 n3 with
 | false =>
  rw [hv] at HC
  have HE := hid (show opB 3 se le nn (cKey K1 N1 f1 n1) (cKey K2 N2 f2 n2) (cKey K3 N3 f3 n3) nb = (false && q) by rw [HC.out, hk1]; unfold opB; cases q <;> simp [hs])
  go_wp2_with fail
  go_ret
  exact ⟨by rw [HE.out]; first | rfl | simp, HB.out⟩
 | true =>
  rw [hv] at HC
  have HE := hid (show opB 3 se le nn (cKey K1 N1 f1 n1) (cKey K2 N2 f2 n2) (cKey K3 N3 f3 n3) nb = (true && q) by rw [HC.out, hk1]; unfold opB; cases q <;> simp [hs])
  go_wp2_with fail
  go_ret
  exact ⟨by rw [HE.out]; first | rfl | simp, HB.out⟩
set_option maxHeartbeats 3200000 in
theorem spec_OpOk_4 {se le nn : Int} {K1 N1 : Int} {f1 : Nat} {ad1 : Option Addr} {n1 c1 : Nat} {K2 N2 : Int} {f2 : Nat} {ad2 : Option Addr} {n2 c2 : Nat} {K3 N3 : Int} {f3 : Nat} {ad3 : Option Addr} {n3 c3 : Nat} {ab : Option Addr} {nb cb : Nat} {z1 z2 : List Int} {w : World} (r1 : Reads w ad1 n1 z1) (r2 : Reads w ad2 n2 z2) (hf1 : f1 < 18446744073709551616) (hf2 : f2 < 18446744073709551616) (hf3 : f3 < 18446744073709551616) (hn1 : n1 ≤ 2097152) (hn2 : n2 ≤ 2097152) (hn3 : n3 ≤ 2097152) (hl1 : ad1 = none → c1 = 0) (hl2 : ad2 = none → c2 = 0) :
 Calls Try.prog 5 #[OpV 4 se le nn K1 N1 f1 ad1 n1 c1 K2 N2 f2 ad2 n2 c2 K3 N3 f3 ad3 n3 c3 ab nb cb] w fun e w' => e = .returned (.bool (opB 4 se le nn (cKey K1 N1 f1 n1) (cKey K2 N2 f2 n2) (cKey K3 N3 f3 n3) nb)) ∧ Below w.heap.size w w' := by
 unfold OpV
 have hst1 := fun w a m => run_store Try.prog w a (.float .f64 f1) m rfl
 have hst2 := fun w a m => run_store Try.prog w a (.float .f64 f2) m rfl
 have hst3 := fun w a m => run_store Try.prog w a (.float .f64 f3) m rfl
 have HB := hid (Below.alloc1 w (.cells #[.int .i64 4, .int .i64 se, .int .i64 le, .int .i64 nn, .int .i64 K1, .int .i64 N1, .float .f64 f1, .slice ad1 n1 c1, .int .i64 K2, .int .i64 N2, .float .f64 f2, .slice ad2 n2 c2, .int .i64 K3, .int .i64 N3, .float .f64 f3, .slice ad3 n3 c3, .slice ab nb cb] 33))
 have HX := hid (BoxO.row (heap_alloc_new w (.cells #[.int .i64 4, .int .i64 se, .int .i64 le, .int .i64 nn, .int .i64 K1, .int .i64 N1, .float .f64 f1, .slice ad1 n1 c1, .int .i64 K2, .int .i64 N2, .float .f64 f2, .slice ad2 n2 c2, .int .i64 K3, .int .i64 N3, .float .f64 f3, .slice ad3 n3 c3, .slice ab nb cb] 33)) rfl)
 have R1 := hid (r1.below HB.out (Nat.le_refl _))
 have R2 := hid (r2.below HB.out (Nat.le_refl _))
 have L1 := hid r1.len
 have L2 := hid r2.len
 have D1 := hid r1.bd
 have D2 := hid r2.bd
 clear r1 r2
 go_enter Try.func5, Try.ntmps5
 go_wp2_with fail
 refine (in15 4 1 13 _).mono ?_
 rintro e w1 ⟨rfl, rfl⟩
 rw [show decide ((1 : Int) ≤ 4 ∧ (4 : Int) ≤ 13) = true from rfl]
 go_wp2_with fail
 refine (in15 se 0 7 _).mono ?_
 rintro e w1 ⟨rfl, rfl⟩
 by_cases hs : 0 ≤ se ∧ se ≤ 7
 case neg =>
  rw [decide_eq_false hs]
  have HE := hid (show opB 4 se le nn (cKey K1 N1 f1 n1) (cKey K2 N2 f2 n2) (cKey K3 N3 f3 n3) nb = false from decide_eq_false (fun q => hs (q.2.2.1 (by omega))))
  go_wp2_with fail
  go_ret
  exact ⟨by rw [HE.out]; try rfl, HB.out⟩
 rw [decide_eq_true hs]
 go_wp2_with fail
 generalize w.alloc (.cells #[.int .i64 4, .int .i64 se, .int .i64 le, .int .i64 nn, .int .i64 K1, .int .i64 N1, .float .f64 f1, .slice ad1 n1 c1, .int .i64 K2, .int .i64 N2, .float .f64 f2, .slice ad2 n2 c2, .int .i64 K3, .int .i64 N3, .float .f64 f3, .slice ad3 n3 c3, .slice ab nb cb] 33) = U0 at *
 obtain ⟨⟨RK1, RN1, RF1, RZ1⟩, hR1⟩ : ∃ R, cleanR K1 N1 f1 n1 z1 = R := ⟨_, rfl⟩
 have HR1 := hid hR1
 clear hR1
 refine (spec_Clean K1 N1 f1 c1 hl1 R1.out hf1 hn1 HR1.out).mono ?_
 rintro e u1 ⟨g1, v, rfl, hg1, HS1, o, b⟩
 obtain ⟨a1, d1, rfl, -, -⟩ := Reads.own o (clean_len HR1.out D1.out (by rw [L1.out]; exact hn1)).1
 replace HX := hid (HX.out.below b (Nat.le_refl _))
 replace R1 := hid (R1.out.below b (Nat.le_refl _))
 replace R2 := hid (R2.out.below b (Nat.le_refl _))
 replace HB := hid (HB.out.trans (b.mono HB.out.size))
 clear o b
 go_wp2_with fail
 refine (spec_KeyOk RK1 RN1 g1 a1 RZ1.length d1 hg1 (clean_len HR1.out D1.out (by rw [L1.out]; exact hn1)).2 _).mono ?_
 rintro e y1 ⟨rfl, b⟩
 rw [key_clean HR1.out L1.out HS1.out]
 replace HX := hid (HX.out.below b (Nat.le_refl _))
 replace R1 := hid (R1.out.below b (Nat.le_refl _))
 replace R2 := hid (R2.out.below b (Nat.le_refl _))
 replace HB := hid (HB.out.trans (b.mono HB.out.size))
 clear b
 cases hk1 : cKey K1 N1 f1 n1 with
 | false =>
  have HE := hid (show opB 4 se le nn (cKey K1 N1 f1 n1) (cKey K2 N2 f2 n2) (cKey K3 N3 f3 n3) nb = false by rw [hk1]; unfold opB; simp)
  go_wp2_with fail
  go_ret
  exact ⟨by rw [HE.out]; try rfl, HB.out⟩
 | true =>
 have c0_ : y1.cell? ⟨w.heap.size, 0, none⟩ = some (.int .i64 4) := HX.out.ce 0 (by omega)
 have HE := hid (show opB 4 se le nn (cKey K1 N1 f1 n1) (cKey K2 N2 f2 n2) (cKey K3 N3 f3 n3) nb = true by rw [hk1]; unfold opB; simp [hs])
 go_wp2_with fail
 go_ret
 exact ⟨by rw [HE.out]; try rfl, HB.out⟩
set_option maxHeartbeats 3200000 in
theorem spec_OpOk_5 {se le nn : Int} {K1 N1 : Int} {f1 : Nat} {ad1 : Option Addr} {n1 c1 : Nat} {K2 N2 : Int} {f2 : Nat} {ad2 : Option Addr} {n2 c2 : Nat} {K3 N3 : Int} {f3 : Nat} {ad3 : Option Addr} {n3 c3 : Nat} {ab : Option Addr} {nb cb : Nat} {z1 z2 : List Int} {w : World} (r1 : Reads w ad1 n1 z1) (r2 : Reads w ad2 n2 z2) (hf1 : f1 < 18446744073709551616) (hf2 : f2 < 18446744073709551616) (hf3 : f3 < 18446744073709551616) (hn1 : n1 ≤ 2097152) (hn2 : n2 ≤ 2097152) (hn3 : n3 ≤ 2097152) (hl1 : ad1 = none → c1 = 0) (hl2 : ad2 = none → c2 = 0) :
 Calls Try.prog 5 #[OpV 5 se le nn K1 N1 f1 ad1 n1 c1 K2 N2 f2 ad2 n2 c2 K3 N3 f3 ad3 n3 c3 ab nb cb] w fun e w' => e = .returned (.bool (opB 5 se le nn (cKey K1 N1 f1 n1) (cKey K2 N2 f2 n2) (cKey K3 N3 f3 n3) nb)) ∧ Below w.heap.size w w' := by
 unfold OpV
 have hst1 := fun w a m => run_store Try.prog w a (.float .f64 f1) m rfl
 have hst2 := fun w a m => run_store Try.prog w a (.float .f64 f2) m rfl
 have hst3 := fun w a m => run_store Try.prog w a (.float .f64 f3) m rfl
 have HB := hid (Below.alloc1 w (.cells #[.int .i64 5, .int .i64 se, .int .i64 le, .int .i64 nn, .int .i64 K1, .int .i64 N1, .float .f64 f1, .slice ad1 n1 c1, .int .i64 K2, .int .i64 N2, .float .f64 f2, .slice ad2 n2 c2, .int .i64 K3, .int .i64 N3, .float .f64 f3, .slice ad3 n3 c3, .slice ab nb cb] 33))
 have HX := hid (BoxO.row (heap_alloc_new w (.cells #[.int .i64 5, .int .i64 se, .int .i64 le, .int .i64 nn, .int .i64 K1, .int .i64 N1, .float .f64 f1, .slice ad1 n1 c1, .int .i64 K2, .int .i64 N2, .float .f64 f2, .slice ad2 n2 c2, .int .i64 K3, .int .i64 N3, .float .f64 f3, .slice ad3 n3 c3, .slice ab nb cb] 33)) rfl)
 have R1 := hid (r1.below HB.out (Nat.le_refl _))
 have R2 := hid (r2.below HB.out (Nat.le_refl _))
 have L1 := hid r1.len
 have L2 := hid r2.len
 have D1 := hid r1.bd
 have D2 := hid r2.bd
 clear r1 r2
 go_enter Try.func5, Try.ntmps5
 go_wp2_with fail
 refine (in15 5 1 13 _).mono ?_
 rintro e w1 ⟨rfl, rfl⟩
 rw [show decide ((1 : Int) ≤ 5 ∧ (5 : Int) ≤ 13) = true from rfl]
 go_wp2_with fail
 refine (in15 se 0 7 _).mono ?_
 rintro e w1 ⟨rfl, rfl⟩
 by_cases hs : 0 ≤ se ∧ se ≤ 7
 case neg =>
  rw [decide_eq_false hs]
  have HE := hid (show opB 5 se le nn (cKey K1 N1 f1 n1) (cKey K2 N2 f2 n2) (cKey K3 N3 f3 n3) nb = false from decide_eq_false (fun q => hs (q.2.2.1 (by omega))))
  go_wp2_with fail
  go_ret
  exact ⟨by rw [HE.out]; try rfl, HB.out⟩
 rw [decide_eq_true hs]
 go_wp2_with fail
 generalize w.alloc (.cells #[.int .i64 5, .int .i64 se, .int .i64 le, .int .i64 nn, .int .i64 K1, .int .i64 N1, .float .f64 f1, .slice ad1 n1 c1, .int .i64 K2, .int .i64 N2, .float .f64 f2, .slice ad2 n2 c2, .int .i64 K3, .int .i64 N3, .float .f64 f3, .slice ad3 n3 c3, .slice ab nb cb] 33) = U0 at *
 obtain ⟨⟨RK1, RN1, RF1, RZ1⟩, hR1⟩ : ∃ R, cleanR K1 N1 f1 n1 z1 = R := ⟨_, rfl⟩
 have HR1 := hid hR1
 clear hR1
 refine (spec_Clean K1 N1 f1 c1 hl1 R1.out hf1 hn1 HR1.out).mono ?_
 rintro e u1 ⟨g1, v, rfl, hg1, HS1, o, b⟩
 obtain ⟨a1, d1, rfl, -, -⟩ := Reads.own o (clean_len HR1.out D1.out (by rw [L1.out]; exact hn1)).1
 replace HX := hid (HX.out.below b (Nat.le_refl _))
 replace R1 := hid (R1.out.below b (Nat.le_refl _))
 replace R2 := hid (R2.out.below b (Nat.le_refl _))
 replace HB := hid (HB.out.trans (b.mono HB.out.size))
 clear o b
 go_wp2_with fail
 refine (spec_KeyOk RK1 RN1 g1 a1 RZ1.length d1 hg1 (clean_len HR1.out D1.out (by rw [L1.out]; exact hn1)).2 _).mono ?_
 rintro e y1 ⟨rfl, b⟩
 rw [key_clean HR1.out L1.out HS1.out]
 replace HX := hid (HX.out.below b (Nat.le_refl _))
 replace R1 := hid (R1.out.below b (Nat.le_refl _))
 replace R2 := hid (R2.out.below b (Nat.le_refl _))
 replace HB := hid (HB.out.trans (b.mono HB.out.size))
 clear b
 cases hk1 : cKey K1 N1 f1 n1 with
 | false =>
  have HE := hid (show opB 5 se le nn (cKey K1 N1 f1 n1) (cKey K2 N2 f2 n2) (cKey K3 N3 f3 n3) nb = false by rw [hk1]; unfold opB; simp)
  go_wp2_with fail
  go_ret
  exact ⟨by rw [HE.out]; try rfl, HB.out⟩
 | true =>
 have c0_ : y1.cell? ⟨w.heap.size, 0, none⟩ = some (.int .i64 5) := HX.out.ce 0 (by omega)
 have c8_ : y1.cell? ⟨w.heap.size, 8, none⟩ = some (.int .i64 K2) := HX.out.ce 8 (by omega)
 have c9_ : y1.cell? ⟨w.heap.size, 9, none⟩ = some (.int .i64 N2) := HX.out.ce 9 (by omega)
 have c10_ : y1.cell? ⟨w.heap.size, 10, none⟩ = some (.float .f64 f2) := HX.out.ce 10 (by omega)
 have c11_ : y1.cell? ⟨w.heap.size, 11, none⟩ = some (.slice ad2 n2 c2) := HX.out.ce 11 (by omega)
 go_wp2_with fail
 obtain ⟨⟨RK2, RN2, RF2, RZ2⟩, hR2⟩ : ∃ R, cleanR K2 N2 f2 n2 z2 = R := ⟨_, rfl⟩
 have HR2 := hid hR2
 clear hR2
 refine (spec_Clean K2 N2 f2 c2 hl2 R2.out hf2 hn2 HR2.out).mono ?_
 rintro e u2 ⟨g2, v, rfl, hg2, HS2, o, b⟩
 obtain ⟨a2, d2, rfl, -, -⟩ := Reads.own o (clean_len HR2.out D2.out (by rw [L2.out]; exact hn2)).1
 replace HX := hid (HX.out.below b (Nat.le_refl _))
 replace R1 := hid (R1.out.below b (Nat.le_refl _))
 replace R2 := hid (R2.out.below b (Nat.le_refl _))
 replace HB := hid (HB.out.trans (b.mono HB.out.size))
 clear o b
 go_wp2_with fail
 refine (spec_KeyOk RK2 RN2 g2 a2 RZ2.length d2 hg2 (clean_len HR2.out D2.out (by rw [L2.out]; exact hn2)).2 _).mono ?_
 rintro e y2 ⟨rfl, b⟩
 rw [key_clean HR2.out L2.out HS2.out]
 replace HX := hid (HX.out.below b (Nat.le_refl _))
 replace R1 := hid (R1.out.below b (Nat.le_refl _))
 replace R2 := hid (R2.out.below b (Nat.le_refl _))
 replace HB := hid (HB.out.trans (b.mono HB.out.size))
 clear b
 clear c0_ c8_ c9_ c10_ c11_
 have c3_ : y2.cell? ⟨w.heap.size, 3, none⟩ = some (.int .i64 nn) := HX.out.ce 3 (by omega)
 cases hk2 : cKey K2 N2 f2 n2 with
 | false =>
  have HE := hid (show opB 5 se le nn (cKey K1 N1 f1 n1) (cKey K2 N2 f2 n2) (cKey K3 N3 f3 n3) nb = false by rw [hk1, hk2]; unfold opB; simp)
  go_wp2_with fail
  go_ret
  exact ⟨by rw [HE.out]; try rfl, HB.out⟩
 | true =>
 go_wp2_with fail
 refine (in15 nn 0 50 _).mono ?_
 rintro e w9 ⟨rfl, rfl⟩
 have HE := hid (show opB 5 se le nn (cKey K1 N1 f1 n1) (cKey K2 N2 f2 n2) (cKey K3 N3 f3 n3) nb = decide (0 ≤ nn ∧ nn ≤ 50) by rw [hk1, hk2]; unfold opB; simp [hs])
 obtain ⟨Q, hQ⟩ : ∃ Q, decide (0 ≤ nn ∧ nn ≤ 50) = Q := ⟨_, rfl⟩
 rw [hQ] at HE ⊢
 go_wp2_with fail
 go_ret
 exact ⟨by rw [HE.out]; try rfl, HB.out⟩
set_option maxHeartbeats 3200000 in
theorem spec_OpOk_6 {se le nn : Int} {K1 N1 : Int} {f1 : Nat} {ad1 : Option Addr} {n1 c1 : Nat} {K2 N2 : Int} {f2 : Nat} {ad2 : Option Addr} {n2 c2 : Nat} {K3 N3 : Int} {f3 : Nat} {ad3 : Option Addr} {n3 c3 : Nat} {ab : Option Addr} {nb cb : Nat} {z1 z2 : List Int} {w : World} (r1 : Reads w ad1 n1 z1) (r2 : Reads w ad2 n2 z2) (hf1 : f1 < 18446744073709551616) (hf2 : f2 < 18446744073709551616) (hf3 : f3 < 18446744073709551616) (hn1 : n1 ≤ 2097152) (hn2 : n2 ≤ 2097152) (hn3 : n3 ≤ 2097152) (hl1 : ad1 = none → c1 = 0) (hl2 : ad2 = none → c2 = 0) :
 Calls Try.prog 5 #[OpV 6 se le nn K1 N1 f1 ad1 n1 c1 K2 N2 f2 ad2 n2 c2 K3 N3 f3 ad3 n3 c3 ab nb cb] w fun e w' => e = .returned (.bool (opB 6 se le nn (cKey K1 N1 f1 n1) (cKey K2 N2 f2 n2) (cKey K3 N3 f3 n3) nb)) ∧ Below w.heap.size w w' := by
 unfold OpV
 have hst1 := fun w a m => run_store Try.prog w a (.float .f64 f1) m rfl
 have hst2 := fun w a m => run_store Try.prog w a (.float .f64 f2) m rfl
 have hst3 := fun w a m => run_store Try.prog w a (.float .f64 f3) m rfl
 have HB := hid (Below.alloc1 w (.cells #[.int .i64 6, .int .i64 se, .int .i64 le, .int .i64 nn, .int .i64 K1, .int .i64 N1, .float .f64 f1, .slice ad1 n1 c1, .int .i64 K2, .int .i64 N2, .float .f64 f2, .slice ad2 n2 c2, .int .i64 K3, .int .i64 N3, .float .f64 f3, .slice ad3 n3 c3, .slice ab nb cb] 33))
 have HX := hid (BoxO.row (heap_alloc_new w (.cells #[.int .i64 6, .int .i64 se, .int .i64 le, .int .i64 nn, .int .i64 K1, .int .i64 N1, .float .f64 f1, .slice ad1 n1 c1, .int .i64 K2, .int .i64 N2, .float .f64 f2, .slice ad2 n2 c2, .int .i64 K3, .int .i64 N3, .float .f64 f3, .slice ad3 n3 c3, .slice ab nb cb] 33)) rfl)
 have R1 := hid (r1.below HB.out (Nat.le_refl _))
 have R2 := hid (r2.below HB.out (Nat.le_refl _))
 have L1 := hid r1.len
 have L2 := hid r2.len
 have D1 := hid r1.bd
 have D2 := hid r2.bd
 clear r1 r2
 go_enter Try.func5, Try.ntmps5
 go_wp2_with fail
 refine (in15 6 1 13 _).mono ?_
 rintro e w1 ⟨rfl, rfl⟩
 rw [show decide ((1 : Int) ≤ 6 ∧ (6 : Int) ≤ 13) = true from rfl]
 go_wp2_with fail
 refine (in15 se 0 7 _).mono ?_
 rintro e w1 ⟨rfl, rfl⟩
 by_cases hs : 0 ≤ se ∧ se ≤ 7
 case neg =>
  rw [decide_eq_false hs]
  have HE := hid (show opB 6 se le nn (cKey K1 N1 f1 n1) (cKey K2 N2 f2 n2) (cKey K3 N3 f3 n3) nb = false from decide_eq_false (fun q => hs (q.2.2.1 (by omega))))
  go_wp2_with fail
  go_ret
  exact ⟨by rw [HE.out]; try rfl, HB.out⟩
 rw [decide_eq_true hs]
 go_wp2_with fail
 generalize w.alloc (.cells #[.int .i64 6, .int .i64 se, .int .i64 le, .int .i64 nn, .int .i64 K1, .int .i64 N1, .float .f64 f1, .slice ad1 n1 c1, .int .i64 K2, .int .i64 N2, .float .f64 f2, .slice ad2 n2 c2, .int .i64 K3, .int .i64 N3, .float .f64 f3, .slice ad3 n3 c3, .slice ab nb cb] 33) = U0 at *
 obtain ⟨⟨RK1, RN1, RF1, RZ1⟩, hR1⟩ : ∃ R, cleanR K1 N1 f1 n1 z1 = R := ⟨_, rfl⟩
 have HR1 := hid hR1
 clear hR1
 refine (spec_Clean K1 N1 f1 c1 hl1 R1.out hf1 hn1 HR1.out).mono ?_
 rintro e u1 ⟨g1, v, rfl, hg1, HS1, o, b⟩
 obtain ⟨a1, d1, rfl, -, -⟩ := Reads.own o (clean_len HR1.out D1.out (by rw [L1.out]; exact hn1)).1
 replace HX := hid (HX.out.below b (Nat.le_refl _))
 replace R1 := hid (R1.out.below b (Nat.le_refl _))
 replace R2 := hid (R2.out.below b (Nat.le_refl _))
 replace HB := hid (HB.out.trans (b.mono HB.out.size))
 clear o b
 go_wp2_with fail
 refine (spec_KeyOk RK1 RN1 g1 a1 RZ1.length d1 hg1 (clean_len HR1.out D1.out (by rw [L1.out]; exact hn1)).2 _).mono ?_
 rintro e y1 ⟨rfl, b⟩
 rw [key_clean HR1.out L1.out HS1.out]
 replace HX := hid (HX.out.below b (Nat.le_refl _))
 replace R1 := hid (R1.out.below b (Nat.le_refl _))
 replace R2 := hid (R2.out.below b (Nat.le_refl _))
 replace HB := hid (HB.out.trans (b.mono HB.out.size))
 clear b
 cases hk1 : cKey K1 N1 f1 n1 with
 | false =>
  have HE := hid (show opB 6 se le nn (cKey K1 N1 f1 n1) (cKey K2 N2 f2 n2) (cKey K3 N3 f3 n3) nb = false by rw [hk1]; unfold opB; simp)
  go_wp2_with fail
  go_ret
  exact ⟨by rw [HE.out]; try rfl, HB.out⟩
 | true =>
 have c0_ : y1.cell? ⟨w.heap.size, 0, none⟩ = some (.int .i64 6) := HX.out.ce 0 (by omega)
 have c8_ : y1.cell? ⟨w.heap.size, 8, none⟩ = some (.int .i64 K2) := HX.out.ce 8 (by omega)
 have c9_ : y1.cell? ⟨w.heap.size, 9, none⟩ = some (.int .i64 N2) := HX.out.ce 9 (by omega)
 have c10_ : y1.cell? ⟨w.heap.size, 10, none⟩ = some (.float .f64 f2) := HX.out.ce 10 (by omega)
 have c11_ : y1.cell? ⟨w.heap.size, 11, none⟩ = some (.slice ad2 n2 c2) := HX.out.ce 11 (by omega)
 go_wp2_with fail
 obtain ⟨⟨RK2, RN2, RF2, RZ2⟩, hR2⟩ : ∃ R, cleanR K2 N2 f2 n2 z2 = R := ⟨_, rfl⟩
 have HR2 := hid hR2
 clear hR2
 refine (spec_Clean K2 N2 f2 c2 hl2 R2.out hf2 hn2 HR2.out).mono ?_
 rintro e u2 ⟨g2, v, rfl, hg2, HS2, o, b⟩
 obtain ⟨a2, d2, rfl, -, -⟩ := Reads.own o (clean_len HR2.out D2.out (by rw [L2.out]; exact hn2)).1
 replace HX := hid (HX.out.below b (Nat.le_refl _))
 replace R1 := hid (R1.out.below b (Nat.le_refl _))
 replace R2 := hid (R2.out.below b (Nat.le_refl _))
 replace HB := hid (HB.out.trans (b.mono HB.out.size))
 clear o b
 go_wp2_with fail
 refine (spec_KeyOk RK2 RN2 g2 a2 RZ2.length d2 hg2 (clean_len HR2.out D2.out (by rw [L2.out]; exact hn2)).2 _).mono ?_
 rintro e y2 ⟨rfl, b⟩
 rw [key_clean HR2.out L2.out HS2.out]
 replace HX := hid (HX.out.below b (Nat.le_refl _))
 replace R1 := hid (R1.out.below b (Nat.le_refl _))
 replace R2 := hid (R2.out.below b (Nat.le_refl _))
 replace HB := hid (HB.out.trans (b.mono HB.out.size))
 clear b
 clear c0_ c8_ c9_ c10_ c11_
 obtain ⟨Q, hQ⟩ : ∃ Q, cKey K2 N2 f2 n2 = Q := ⟨_, rfl⟩
 rw [hQ]
 have HE := hid (show opB 6 se le nn (cKey K1 N1 f1 n1) (cKey K2 N2 f2 n2) (cKey K3 N3 f3 n3) nb = Q by rw [hk1, hQ]; unfold opB; cases Q <;> simp [hs])
 go_wp2_with fail
 go_ret
 exact ⟨by rw [HE.out]; try rfl, HB.out⟩
set_option maxHeartbeats 3200000 in
theorem spec_OpOk_7 {se le nn : Int} {K1 N1 : Int} {f1 : Nat} {ad1 : Option Addr} {n1 c1 : Nat} {K2 N2 : Int} {f2 : Nat} {ad2 : Option Addr} {n2 c2 : Nat} {K3 N3 : Int} {f3 : Nat} {ad3 : Option Addr} {n3 c3 : Nat} {ab : Option Addr} {nb cb : Nat} {z1 z2 : List Int} {w : World} (r1 : Reads w ad1 n1 z1) (r2 : Reads w ad2 n2 z2) (hf1 : f1 < 18446744073709551616) (hf2 : f2 < 18446744073709551616) (hf3 : f3 < 18446744073709551616) (hn1 : n1 ≤ 2097152) (hn2 : n2 ≤ 2097152) (hn3 : n3 ≤ 2097152) (hl1 : ad1 = none → c1 = 0) (hl2 : ad2 = none → c2 = 0) :
 Calls Try.prog 5 #[OpV 7 se le nn K1 N1 f1 ad1 n1 c1 K2 N2 f2 ad2 n2 c2 K3 N3 f3 ad3 n3 c3 ab nb cb] w fun e w' => e = .returned (.bool (opB 7 se le nn (cKey K1 N1 f1 n1) (cKey K2 N2 f2 n2) (cKey K3 N3 f3 n3) nb)) ∧ Below w.heap.size w w' := by
 unfold OpV
 have hst1 := fun w a m => run_store Try.prog w a (.float .f64 f1) m rfl
 have hst2 := fun w a m => run_store Try.prog w a (.float .f64 f2) m rfl
 have hst3 := fun w a m => run_store Try.prog w a (.float .f64 f3) m rfl
 have HB := hid (Below.alloc1 w (.cells #[.int .i64 7, .int .i64 se, .int .i64 le, .int .i64 nn, .int .i64 K1, .int .i64 N1, .float .f64 f1, .slice ad1 n1 c1, .int .i64 K2, .int .i64 N2, .float .f64 f2, .slice ad2 n2 c2, .int .i64 K3, .int .i64 N3, .float .f64 f3, .slice ad3 n3 c3, .slice ab nb cb] 33))
 have HX := hid (BoxO.row (heap_alloc_new w (.cells #[.int .i64 7, .int .i64 se, .int .i64 le, .int .i64 nn, .int .i64 K1, .int .i64 N1, .float .f64 f1, .slice ad1 n1 c1, .int .i64 K2, .int .i64 N2, .float .f64 f2, .slice ad2 n2 c2, .int .i64 K3, .int .i64 N3, .float .f64 f3, .slice ad3 n3 c3, .slice ab nb cb] 33)) rfl)
 have R1 := hid (r1.below HB.out (Nat.le_refl _))
 have R2 := hid (r2.below HB.out (Nat.le_refl _))
 have L1 := hid r1.len
 have L2 := hid r2.len
 have D1 := hid r1.bd
 have D2 := hid r2.bd
 clear r1 r2
 go_enter Try.func5, Try.ntmps5
 go_wp2_with fail
 refine (in15 7 1 13 _).mono ?_
 rintro e w1 ⟨rfl, rfl⟩
 rw [show decide ((1 : Int) ≤ 7 ∧ (7 : Int) ≤ 13) = true from rfl]
 go_wp2_with fail
 refine (in15 se 0 7 _).mono ?_
 rintro e w1 ⟨rfl, rfl⟩
 by_cases hs : 0 ≤ se ∧ se ≤ 7
 case neg =>
  rw [decide_eq_false hs]
  have HE := hid (show opB 7 se le nn (cKey K1 N1 f1 n1) (cKey K2 N2 f2 n2) (cKey K3 N3 f3 n3) nb = false from decide_eq_false (fun q => hs (q.2.2.1 (by omega))))
  go_wp2_with fail
  go_ret
  exact ⟨by rw [HE.out]; try rfl, HB.out⟩
 rw [decide_eq_true hs]
 have HE := hid (show opB 7 se le nn (cKey K1 N1 f1 n1) (cKey K2 N2 f2 n2) (cKey K3 N3 f3 n3) nb = true by unfold opB; simp [hs])
 go_wp2_with fail
 go_ret
 exact ⟨by rw [HE.out]; try rfl, HB.out⟩
set_option maxHeartbeats 3200000 in
theorem spec_OpOk_8 {se le nn : Int} {K1 N1 : Int} {f1 : Nat} {ad1 : Option Addr} {n1 c1 : Nat} {K2 N2 : Int} {f2 : Nat} {ad2 : Option Addr} {n2 c2 : Nat} {K3 N3 : Int} {f3 : Nat} {ad3 : Option Addr} {n3 c3 : Nat} {ab : Option Addr} {nb cb : Nat} {z1 z2 : List Int} {w : World} (r1 : Reads w ad1 n1 z1) (r2 : Reads w ad2 n2 z2) (hf1 : f1 < 18446744073709551616) (hf2 : f2 < 18446744073709551616) (hf3 : f3 < 18446744073709551616) (hn1 : n1 ≤ 2097152) (hn2 : n2 ≤ 2097152) (hn3 : n3 ≤ 2097152) (hl1 : ad1 = none → c1 = 0) (hl2 : ad2 = none → c2 = 0) :
 Calls Try.prog 5 #[OpV 8 se le nn K1 N1 f1 ad1 n1 c1 K2 N2 f2 ad2 n2 c2 K3 N3 f3 ad3 n3 c3 ab nb cb] w fun e w' => e = .returned (.bool (opB 8 se le nn (cKey K1 N1 f1 n1) (cKey K2 N2 f2 n2) (cKey K3 N3 f3 n3) nb)) ∧ Below w.heap.size w w' := by
 unfold OpV
 have hst1 := fun w a m => run_store Try.prog w a (.float .f64 f1) m rfl
 have hst2 := fun w a m => run_store Try.prog w a (.float .f64 f2) m rfl
 have hst3 := fun w a m => run_store Try.prog w a (.float .f64 f3) m rfl
 have HB := hid (Below.alloc1 w (.cells #[.int .i64 8, .int .i64 se, .int .i64 le, .int .i64 nn, .int .i64 K1, .int .i64 N1, .float .f64 f1, .slice ad1 n1 c1, .int .i64 K2, .int .i64 N2, .float .f64 f2, .slice ad2 n2 c2, .int .i64 K3, .int .i64 N3, .float .f64 f3, .slice ad3 n3 c3, .slice ab nb cb] 33))
 have HX := hid (BoxO.row (heap_alloc_new w (.cells #[.int .i64 8, .int .i64 se, .int .i64 le, .int .i64 nn, .int .i64 K1, .int .i64 N1, .float .f64 f1, .slice ad1 n1 c1, .int .i64 K2, .int .i64 N2, .float .f64 f2, .slice ad2 n2 c2, .int .i64 K3, .int .i64 N3, .float .f64 f3, .slice ad3 n3 c3, .slice ab nb cb] 33)) rfl)
 have R1 := hid (r1.below HB.out (Nat.le_refl _))
 have R2 := hid (r2.below HB.out (Nat.le_refl _))
 have L1 := hid r1.len
 have L2 := hid r2.len
 have D1 := hid r1.bd
 have D2 := hid r2.bd
 clear r1 r2
 go_enter Try.func5, Try.ntmps5
 go_wp2_with fail
 refine (in15 8 1 13 _).mono ?_
 rintro e w1 ⟨rfl, rfl⟩
 rw [show decide ((1 : Int) ≤ 8 ∧ (8 : Int) ≤ 13) = true from rfl]
 go_wp2_with fail
 refine (in15 se 0 7 _).mono ?_
 rintro e w1 ⟨rfl, rfl⟩
 by_cases hs : 0 ≤ se ∧ se ≤ 7
 case neg =>
  rw [decide_eq_false hs]
  have HE := hid (show opB 8 se le nn (cKey K1 N1 f1 n1) (cKey K2 N2 f2 n2) (cKey K3 N3 f3 n3) nb = false from decide_eq_false (fun q => hs (q.2.2.1 (by omega))))
  go_wp2_with fail
  go_ret
  exact ⟨by rw [HE.out]; try rfl, HB.out⟩
 rw [decide_eq_true hs]
 have HE := hid (show opB 8 se le nn (cKey K1 N1 f1 n1) (cKey K2 N2 f2 n2) (cKey K3 N3 f3 n3) nb = true by unfold opB; simp [hs])
 go_wp2_with fail
 go_ret
 exact ⟨by rw [HE.out]; try rfl, HB.out⟩
set_option maxHeartbeats 3200000 in
theorem spec_OpOk_9 {se le nn : Int} {K1 N1 : Int} {f1 : Nat} {ad1 : Option Addr} {n1 c1 : Nat} {K2 N2 : Int} {f2 : Nat} {ad2 : Option Addr} {n2 c2 : Nat} {K3 N3 : Int} {f3 : Nat} {ad3 : Option Addr} {n3 c3 : Nat} {ab : Option Addr} {nb cb : Nat} {z1 z2 : List Int} {w : World} (r1 : Reads w ad1 n1 z1) (r2 : Reads w ad2 n2 z2) (hf1 : f1 < 18446744073709551616) (hf2 : f2 < 18446744073709551616) (hf3 : f3 < 18446744073709551616) (hn1 : n1 ≤ 2097152) (hn2 : n2 ≤ 2097152) (hn3 : n3 ≤ 2097152) (hl1 : ad1 = none → c1 = 0) (hl2 : ad2 = none → c2 = 0) :
 Calls Try.prog 5 #[OpV 9 se le nn K1 N1 f1 ad1 n1 c1 K2 N2 f2 ad2 n2 c2 K3 N3 f3 ad3 n3 c3 ab nb cb] w fun e w' => e = .returned (.bool (opB 9 se le nn (cKey K1 N1 f1 n1) (cKey K2 N2 f2 n2) (cKey K3 N3 f3 n3) nb)) ∧ Below w.heap.size w w' := by
 unfold OpV
 have hst1 := fun w a m => run_store Try.prog w a (.float .f64 f1) m rfl
 have hst2 := fun w a m => run_store Try.prog w a (.float .f64 f2) m rfl
 have hst3 := fun w a m => run_store Try.prog w a (.float .f64 f3) m rfl
 have HB := hid (Below.alloc1 w (.cells #[.int .i64 9, .int .i64 se, .int .i64 le, .int .i64 nn, .int .i64 K1, .int .i64 N1, .float .f64 f1, .slice ad1 n1 c1, .int .i64 K2, .int .i64 N2, .float .f64 f2, .slice ad2 n2 c2, .int .i64 K3, .int .i64 N3, .float .f64 f3, .slice ad3 n3 c3, .slice ab nb cb] 33))
 have HX := hid (BoxO.row (heap_alloc_new w (.cells #[.int .i64 9, .int .i64 se, .int .i64 le, .int .i64 nn, .int .i64 K1, .int .i64 N1, .float .f64 f1, .slice ad1 n1 c1, .int .i64 K2, .int .i64 N2, .float .f64 f2, .slice ad2 n2 c2, .int .i64 K3, .int .i64 N3, .float .f64 f3, .slice ad3 n3 c3, .slice ab nb cb] 33)) rfl)
 have R1 := hid (r1.below HB.out (Nat.le_refl _))
 have R2 := hid (r2.below HB.out (Nat.le_refl _))
 have L1 := hid r1.len
 have L2 := hid r2.len
 have D1 := hid r1.bd
 have D2 := hid r2.bd
 clear r1 r2
 go_enter Try.func5, Try.ntmps5
 go_wp2_with fail
 refine (in15 9 1 13 _).mono ?_
 rintro e w1 ⟨rfl, rfl⟩
 rw [show decide ((1 : Int) ≤ 9 ∧ (9 : Int) ≤ 13) = true from rfl]
 have HE := hid (show opB 9 se le nn (cKey K1 N1 f1 n1) (cKey K2 N2 f2 n2) (cKey K3 N3 f3 n3) nb = true by unfold opB; simp)
 go_wp2_with fail
 go_ret
 exact ⟨by rw [HE.out]; try rfl, HB.out⟩
set_option maxHeartbeats 3200000 in
theorem spec_OpOk_10 {se le nn : Int} {K1 N1 : Int} {f1 : Nat} {ad1 : Option Addr} {n1 c1 : Nat} {K2 N2 : Int} {f2 : Nat} {ad2 : Option Addr} {n2 c2 : Nat} {K3 N3 : Int} {f3 : Nat} {ad3 : Option Addr} {n3 c3 : Nat} {ab : Option Addr} {nb cb : Nat} {z1 z2 : List Int} {w : World} (r1 : Reads w ad1 n1 z1) (r2 : Reads w ad2 n2 z2) (hf1 : f1 < 18446744073709551616) (hf2 : f2 < 18446744073709551616) (hf3 : f3 < 18446744073709551616) (hn1 : n1 ≤ 2097152) (hn2 : n2 ≤ 2097152) (hn3 : n3 ≤ 2097152) (hl1 : ad1 = none → c1 = 0) (hl2 : ad2 = none → c2 = 0) :
 Calls Try.prog 5 #[OpV 10 se le nn K1 N1 f1 ad1 n1 c1 K2 N2 f2 ad2 n2 c2 K3 N3 f3 ad3 n3 c3 ab nb cb] w fun e w' => e = .returned (.bool (opB 10 se le nn (cKey K1 N1 f1 n1) (cKey K2 N2 f2 n2) (cKey K3 N3 f3 n3) nb)) ∧ Below w.heap.size w w' := by
 unfold OpV
 have hst1 := fun w a m => run_store Try.prog w a (.float .f64 f1) m rfl
 have hst2 := fun w a m => run_store Try.prog w a (.float .f64 f2) m rfl
 have hst3 := fun w a m => run_store Try.prog w a (.float .f64 f3) m rfl
 have HB := hid (Below.alloc1 w (.cells #[.int .i64 10, .int .i64 se, .int .i64 le, .int .i64 nn, .int .i64 K1, .int .i64 N1, .float .f64 f1, .slice ad1 n1 c1, .int .i64 K2, .int .i64 N2, .float .f64 f2, .slice ad2 n2 c2, .int .i64 K3, .int .i64 N3, .float .f64 f3, .slice ad3 n3 c3, .slice ab nb cb] 33))
 have HX := hid (BoxO.row (heap_alloc_new w (.cells #[.int .i64 10, .int .i64 se, .int .i64 le, .int .i64 nn, .int .i64 K1, .int .i64 N1, .float .f64 f1, .slice ad1 n1 c1, .int .i64 K2, .int .i64 N2, .float .f64 f2, .slice ad2 n2 c2, .int .i64 K3, .int .i64 N3, .float .f64 f3, .slice ad3 n3 c3, .slice ab nb cb] 33)) rfl)
 have R1 := hid (r1.below HB.out (Nat.le_refl _))
 have R2 := hid (r2.below HB.out (Nat.le_refl _))
 have L1 := hid r1.len
 have L2 := hid r2.len
 have D1 := hid r1.bd
 have D2 := hid r2.bd
 clear r1 r2
 go_enter Try.func5, Try.ntmps5
 go_wp2_with fail
 refine (in15 10 1 13 _).mono ?_
 rintro e w1 ⟨rfl, rfl⟩
 rw [show decide ((1 : Int) ≤ 10 ∧ (10 : Int) ≤ 13) = true from rfl]
 have HE := hid (show opB 10 se le nn (cKey K1 N1 f1 n1) (cKey K2 N2 f2 n2) (cKey K3 N3 f3 n3) nb = true by unfold opB; simp)
 go_wp2_with fail
 go_ret
 exact ⟨by rw [HE.out]; try rfl, HB.out⟩
set_option maxHeartbeats 3200000 in
theorem spec_OpOk_11 {se le nn : Int} {K1 N1 : Int} {f1 : Nat} {ad1 : Option Addr} {n1 c1 : Nat} {K2 N2 : Int} {f2 : Nat} {ad2 : Option Addr} {n2 c2 : Nat} {K3 N3 : Int} {f3 : Nat} {ad3 : Option Addr} {n3 c3 : Nat} {ab : Option Addr} {nb cb : Nat} {z1 z2 : List Int} {w : World} (r1 : Reads w ad1 n1 z1) (r2 : Reads w ad2 n2 z2) (hf1 : f1 < 18446744073709551616) (hf2 : f2 < 18446744073709551616) (hf3 : f3 < 18446744073709551616) (hn1 : n1 ≤ 2097152) (hn2 : n2 ≤ 2097152) (hn3 : n3 ≤ 2097152) (hl1 : ad1 = none → c1 = 0) (hl2 : ad2 = none → c2 = 0) :
 Calls Try.prog 5 #[OpV 11 se le nn K1 N1 f1 ad1 n1 c1 K2 N2 f2 ad2 n2 c2 K3 N3 f3 ad3 n3 c3 ab nb cb] w fun e w' => e = .returned (.bool (opB 11 se le nn (cKey K1 N1 f1 n1) (cKey K2 N2 f2 n2) (cKey K3 N3 f3 n3) nb)) ∧ Below w.heap.size w w' := by
 unfold OpV
 have hst1 := fun w a m => run_store Try.prog w a (.float .f64 f1) m rfl
 have hst2 := fun w a m => run_store Try.prog w a (.float .f64 f2) m rfl
 have hst3 := fun w a m => run_store Try.prog w a (.float .f64 f3) m rfl
 have HB := hid (Below.alloc1 w (.cells #[.int .i64 11, .int .i64 se, .int .i64 le, .int .i64 nn, .int .i64 K1, .int .i64 N1, .float .f64 f1, .slice ad1 n1 c1, .int .i64 K2, .int .i64 N2, .float .f64 f2, .slice ad2 n2 c2, .int .i64 K3, .int .i64 N3, .float .f64 f3, .slice ad3 n3 c3, .slice ab nb cb] 33))
 have HX := hid (BoxO.row (heap_alloc_new w (.cells #[.int .i64 11, .int .i64 se, .int .i64 le, .int .i64 nn, .int .i64 K1, .int .i64 N1, .float .f64 f1, .slice ad1 n1 c1, .int .i64 K2, .int .i64 N2, .float .f64 f2, .slice ad2 n2 c2, .int .i64 K3, .int .i64 N3, .float .f64 f3, .slice ad3 n3 c3, .slice ab nb cb] 33)) rfl)
 have R1 := hid (r1.below HB.out (Nat.le_refl _))
 have R2 := hid (r2.below HB.out (Nat.le_refl _))
 have L1 := hid r1.len
 have L2 := hid r2.len
 have D1 := hid r1.bd
 have D2 := hid r2.bd
 clear r1 r2
 go_enter Try.func5, Try.ntmps5
 go_wp2_with fail
 refine (in15 11 1 13 _).mono ?_
 rintro e w1 ⟨rfl, rfl⟩
 rw [show decide ((1 : Int) ≤ 11 ∧ (11 : Int) ≤ 13) = true from rfl]
 go_wp2_with fail
 refine (in15 nn 0 15 _).mono ?_
 rintro e w9 ⟨rfl, rfl⟩
 have HE := hid (show opB 11 se le nn (cKey K1 N1 f1 n1) (cKey K2 N2 f2 n2) (cKey K3 N3 f3 n3) nb = decide (0 ≤ nn ∧ nn ≤ 15) by unfold opB; simp)
 obtain ⟨Q, hQ⟩ : ∃ Q, decide (0 ≤ nn ∧ nn ≤ 15) = Q := ⟨_, rfl⟩
 rw [hQ] at HE ⊢
 go_wp2_with fail
 go_ret
 exact ⟨by rw [HE.out]; try rfl, HB.out⟩
set_option maxHeartbeats 3200000 in
theorem spec_OpOk_12 {se le nn : Int} {K1 N1 : Int} {f1 : Nat} {ad1 : Option Addr} {n1 c1 : Nat} {K2 N2 : Int} {f2 : Nat} {ad2 : Option Addr} {n2 c2 : Nat} {K3 N3 : Int} {f3 : Nat} {ad3 : Option Addr} {n3 c3 : Nat} {ab : Option Addr} {nb cb : Nat} {z1 z2 : List Int} {w : World} (r1 : Reads w ad1 n1 z1) (r2 : Reads w ad2 n2 z2) (hf1 : f1 < 18446744073709551616) (hf2 : f2 < 18446744073709551616) (hf3 : f3 < 18446744073709551616) (hn1 : n1 ≤ 2097152) (hn2 : n2 ≤ 2097152) (hn3 : n3 ≤ 2097152) (hl1 : ad1 = none → c1 = 0) (hl2 : ad2 = none → c2 = 0) :
 Calls Try.prog 5 #[OpV 12 se le nn K1 N1 f1 ad1 n1 c1 K2 N2 f2 ad2 n2 c2 K3 N3 f3 ad3 n3 c3 ab nb cb] w fun e w' => e = .returned (.bool (opB 12 se le nn (cKey K1 N1 f1 n1) (cKey K2 N2 f2 n2) (cKey K3 N3 f3 n3) nb)) ∧ Below w.heap.size w w' := by
 unfold OpV
 have hst1 := fun w a m => run_store Try.prog w a (.float .f64 f1) m rfl
 have hst2 := fun w a m => run_store Try.prog w a (.float .f64 f2) m rfl
 have hst3 := fun w a m => run_store Try.prog w a (.float .f64 f3) m rfl
 have HB := hid (Below.alloc1 w (.cells #[.int .i64 12, .int .i64 se, .int .i64 le, .int .i64 nn, .int .i64 K1, .int .i64 N1, .float .f64 f1, .slice ad1 n1 c1, .int .i64 K2, .int .i64 N2, .float .f64 f2, .slice ad2 n2 c2, .int .i64 K3, .int .i64 N3, .float .f64 f3, .slice ad3 n3 c3, .slice ab nb cb] 33))
 have HX := hid (BoxO.row (heap_alloc_new w (.cells #[.int .i64 12, .int .i64 se, .int .i64 le, .int .i64 nn, .int .i64 K1, .int .i64 N1, .float .f64 f1, .slice ad1 n1 c1, .int .i64 K2, .int .i64 N2, .float .f64 f2, .slice ad2 n2 c2, .int .i64 K3, .int .i64 N3, .float .f64 f3, .slice ad3 n3 c3, .slice ab nb cb] 33)) rfl)
 have R1 := hid (r1.below HB.out (Nat.le_refl _))
 have R2 := hid (r2.below HB.out (Nat.le_refl _))
 have L1 := hid r1.len
 have L2 := hid r2.len
 have D1 := hid r1.bd
 have D2 := hid r2.bd
 clear r1 r2
 go_enter Try.func5, Try.ntmps5
 go_wp2_with fail
 refine (in15 12 1 13 _).mono ?_
 rintro e w1 ⟨rfl, rfl⟩
 rw [show decide ((1 : Int) ≤ 12 ∧ (12 : Int) ≤ 13) = true from rfl]
 by_cases hn : 0 ≤ nn
 · have HE := hid (show opB 12 se le nn (cKey K1 N1 f1 n1) (cKey K2 N2 f2 n2) (cKey K3 N3 f3 n3) nb = true by unfold opB; simp; omega)
   go_wp2_with fail
   go_ret
   exact ⟨by rw [HE.out]; first | rfl | simp [hn], HB.out⟩
 · have HE := hid (show opB 12 se le nn (cKey K1 N1 f1 n1) (cKey K2 N2 f2 n2) (cKey K3 N3 f3 n3) nb = false by unfold opB; simp; omega)
   go_wp2_with fail
   go_ret
   exact ⟨by rw [HE.out]; first | rfl | simp [hn], HB.out⟩
set_option maxHeartbeats 3200000 in
theorem spec_OpOk_13 {se le nn : Int} {K1 N1 : Int} {f1 : Nat} {ad1 : Option Addr} {n1 c1 : Nat} {K2 N2 : Int} {f2 : Nat} {ad2 : Option Addr} {n2 c2 : Nat} {K3 N3 : Int} {f3 : Nat} {ad3 : Option Addr} {n3 c3 : Nat} {ab : Option Addr} {nb cb : Nat} {z1 z2 : List Int} {w : World} (r1 : Reads w ad1 n1 z1) (r2 : Reads w ad2 n2 z2) (hf1 : f1 < 18446744073709551616) (hf2 : f2 < 18446744073709551616) (hf3 : f3 < 18446744073709551616) (hn1 : n1 ≤ 2097152) (hn2 : n2 ≤ 2097152) (hn3 : n3 ≤ 2097152) (hl1 : ad1 = none → c1 = 0) (hl2 : ad2 = none → c2 = 0) :
 Calls Try.prog 5 #[OpV 13 se le nn K1 N1 f1 ad1 n1 c1 K2 N2 f2 ad2 n2 c2 K3 N3 f3 ad3 n3 c3 ab nb cb] w fun e w' => e = .returned (.bool (opB 13 se le nn (cKey K1 N1 f1 n1) (cKey K2 N2 f2 n2) (cKey K3 N3 f3 n3) nb)) ∧ Below w.heap.size w w' := by
 unfold OpV
 have hst1 := fun w a m => run_store Try.prog w a (.float .f64 f1) m rfl
 have hst2 := fun w a m => run_store Try.prog w a (.float .f64 f2) m rfl
 have hst3 := fun w a m => run_store Try.prog w a (.float .f64 f3) m rfl
 have HB := hid (Below.alloc1 w (.cells #[.int .i64 13, .int .i64 se, .int .i64 le, .int .i64 nn, .int .i64 K1, .int .i64 N1, .float .f64 f1, .slice ad1 n1 c1, .int .i64 K2, .int .i64 N2, .float .f64 f2, .slice ad2 n2 c2, .int .i64 K3, .int .i64 N3, .float .f64 f3, .slice ad3 n3 c3, .slice ab nb cb] 33))
 have HX := hid (BoxO.row (heap_alloc_new w (.cells #[.int .i64 13, .int .i64 se, .int .i64 le, .int .i64 nn, .int .i64 K1, .int .i64 N1, .float .f64 f1, .slice ad1 n1 c1, .int .i64 K2, .int .i64 N2, .float .f64 f2, .slice ad2 n2 c2, .int .i64 K3, .int .i64 N3, .float .f64 f3, .slice ad3 n3 c3, .slice ab nb cb] 33)) rfl)
 have R1 := hid (r1.below HB.out (Nat.le_refl _))
 have R2 := hid (r2.below HB.out (Nat.le_refl _))
 have L1 := hid r1.len
 have L2 := hid r2.len
 have D1 := hid r1.bd
 have D2 := hid r2.bd
 clear r1 r2
 go_enter Try.func5, Try.ntmps5
 go_wp2_with fail
 refine (in15 13 1 13 _).mono ?_
 rintro e w1 ⟨rfl, rfl⟩
 rw [show decide ((1 : Int) ≤ 13 ∧ (13 : Int) ≤ 13) = true from rfl]
 by_cases hn : nb ≤ 600
 · have HE := hid (show opB 13 se le nn (cKey K1 N1 f1 n1) (cKey K2 N2 f2 n2) (cKey K3 N3 f3 n3) nb = true by unfold opB; simp; omega)
   have hnq : (nb : Int) ≤ 600 := by omega
   go_wp2_with fail
   go_ret
   exact ⟨by rw [HE.out]; first | rfl | simp [hnq], HB.out⟩
 · have HE := hid (show opB 13 se le nn (cKey K1 N1 f1 n1) (cKey K2 N2 f2 n2) (cKey K3 N3 f3 n3) nb = false by unfold opB; simp; omega)
   have hnq : ¬ (nb : Int) ≤ 600 := by omega
   go_wp2_with fail
   go_ret
   exact ⟨by rw [HE.out]; first | rfl | simp [hnq], HB.out⟩
set_option maxHeartbeats 3200000 in
theorem spec_OpOk {kd : Int} {se le nn : Int} {K1 N1 : Int} {f1 : Nat} {ad1 : Option Addr} {n1 c1 : Nat} {K2 N2 : Int} {f2 : Nat} {ad2 : Option Addr} {n2 c2 : Nat} {K3 N3 : Int} {f3 : Nat} {ad3 : Option Addr} {n3 c3 : Nat} {ab : Option Addr} {nb cb : Nat} {z1 z2 : List Int} {w : World} (r1 : Reads w ad1 n1 z1) (r2 : Reads w ad2 n2 z2) (hf1 : f1 < 18446744073709551616) (hf2 : f2 < 18446744073709551616) (hf3 : f3 < 18446744073709551616) (hn1 : n1 ≤ 2097152) (hn2 : n2 ≤ 2097152) (hn3 : n3 ≤ 2097152) (hl1 : ad1 = none → c1 = 0) (hl2 : ad2 = none → c2 = 0) :
 Calls Try.prog 5 #[OpV kd se le nn K1 N1 f1 ad1 n1 c1 K2 N2 f2 ad2 n2 c2 K3 N3 f3 ad3 n3 c3 ab nb cb] w fun e w' => e = .returned (.bool (opB kd se le nn (cKey K1 N1 f1 n1) (cKey K2 N2 f2 n2) (cKey K3 N3 f3 n3) nb)) ∧ Below w.heap.size w w' := by
 by_cases hk : 1 ≤ kd ∧ kd ≤ 13
 · have hc : kd = 1 ∨ kd = 2 ∨ kd = 3 ∨ kd = 4 ∨ kd = 5 ∨ kd = 6 ∨ kd = 7 ∨ kd = 8 ∨ kd = 9 ∨ kd = 10 ∨ kd = 11 ∨ kd = 12 ∨ kd = 13 := by omega
   rcases hc with rfl | rfl | rfl | rfl | rfl | rfl | rfl | rfl | rfl | rfl | rfl | rfl | rfl
   · exact spec_OpOk_1 r1 r2 hf1 hf2 hf3 hn1 hn2 hn3 hl1 hl2
   · exact spec_OpOk_2 r1 r2 hf1 hf2 hf3 hn1 hn2 hn3 hl1 hl2
   · exact spec_OpOk_3 r1 r2 hf1 hf2 hf3 hn1 hn2 hn3 hl1 hl2
   · exact spec_OpOk_4 r1 r2 hf1 hf2 hf3 hn1 hn2 hn3 hl1 hl2
   · exact spec_OpOk_5 r1 r2 hf1 hf2 hf3 hn1 hn2 hn3 hl1 hl2
   · exact spec_OpOk_6 r1 r2 hf1 hf2 hf3 hn1 hn2 hn3 hl1 hl2
   · exact spec_OpOk_7 r1 r2 hf1 hf2 hf3 hn1 hn2 hn3 hl1 hl2
   · exact spec_OpOk_8 r1 r2 hf1 hf2 hf3 hn1 hn2 hn3 hl1 hl2
   · exact spec_OpOk_9 r1 r2 hf1 hf2 hf3 hn1 hn2 hn3 hl1 hl2
   · exact spec_OpOk_10 r1 r2 hf1 hf2 hf3 hn1 hn2 hn3 hl1 hl2
   · exact spec_OpOk_11 r1 r2 hf1 hf2 hf3 hn1 hn2 hn3 hl1 hl2
   · exact spec_OpOk_12 r1 r2 hf1 hf2 hf3 hn1 hn2 hn3 hl1 hl2
   · exact spec_OpOk_13 r1 r2 hf1 hf2 hf3 hn1 hn2 hn3 hl1 hl2
 · have HE := hid (show opB kd se le nn (cKey K1 N1 f1 n1) (cKey K2 N2 f2 n2) (cKey K3 N3 f3 n3) nb = false from decide_eq_false (fun q => hk ⟨q.1, q.2.1⟩))
   unfold OpV
   have hst1 := fun w a m => run_store Try.prog w a (.float .f64 f1) m rfl
   have hst2 := fun w a m => run_store Try.prog w a (.float .f64 f2) m rfl
   have hst3 := fun w a m => run_store Try.prog w a (.float .f64 f3) m rfl
   have HB := hid (Below.alloc1 w (.cells #[.int .i64 kd, .int .i64 se, .int .i64 le, .int .i64 nn, .int .i64 K1, .int .i64 N1, .float .f64 f1, .slice ad1 n1 c1, .int .i64 K2, .int .i64 N2, .float .f64 f2, .slice ad2 n2 c2, .int .i64 K3, .int .i64 N3, .float .f64 f3, .slice ad3 n3 c3, .slice ab nb cb] 33))
   go_enter Try.func5, Try.ntmps5
   go_wp2_with fail
   refine (in15 kd 1 13 _).mono ?_
   rintro e w1 ⟨rfl, rfl⟩
   rw [decide_eq_false hk]
   go_wp2_with fail
   go_ret
   exact ⟨by rw [HE.out]; try rfl, HB.out⟩
end Go.Proofs.Ytnbpblephmjfnaa
