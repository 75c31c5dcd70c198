/- InSpan, the specification's and the program's. -/
import Derived.Test.YtnbpblephmjfnaaGreatMga
import Derived.Test.YtnbpblephmjfnaaGreatMgb
namespace Go.Proofs.YtnbpblephmjfnaaGreat
open Go.RowKit
def inSp (K1 N1 : Int) (f1 n1 : Nat) (zs1 : List Int) (K2 N2 : Int) (f2 n2 : Nat) (zs2 : List Int) (K3 N3 : Int) (f3 n3 : Nat) (zs3 : List Int) : Bool :=
 okK K1 N1 f1 n1 && okK K2 N2 f2 n2 && okK K3 N3 f3 n3 && decide (cmpI K1 N1 f1 n1 zs1 K3 N3 f3 n3 zs3 ≤ 0) && decide (cmpI K3 N3 f3 n3 zs3 K2 N2 f2 n2 zs2 ≤ 0)
set_option maxRecDepth 100000 in
set_option maxHeartbeats 6400000 in
theorem spec_InSpan (K1 N1 K2 N2 K3 N3 : Int) (f1 f2 f3 : Nat) {ad1 ad2 ad3 : Option Addr} {n1 n2 n3 : Nat} (cap1 cap2 cap3 : Nat) {zs1 zs2 zs3 : List Int} {w : World} (hf1 : f1 < 18446744073709551616) (hf2 : f2 < 18446744073709551616) (hf3 : f3 < 18446744073709551616)
 (r1 : Reads w ad1 n1 zs1) (r2 : Reads w ad2 n2 zs2) (r3 : Reads w ad3 n3 zs3) (hn1 : n1 ≤ 2097152) (hn2 : n2 ≤ 2097152) (hn3 : n3 ≤ 2097152) :
 Calls Tryz.prog 107 #[.agg #[.int .i64 K1, .int .i64 N1, .float .f64 f1, .slice ad1 n1 cap1], .agg #[.int .i64 K2, .int .i64 N2, .float .f64 f2, .slice ad2 n2 cap2], .agg #[.int .i64 K3, .int .i64 N3, .float .f64 f3, .slice ad3 n3 cap3]] w fun e w' => e = .returned (.bool (inSp K1 N1 f1 n1 zs1 K2 N2 f2 n2 zs2 K3 N3 f3 n3 zs3)) ∧ Below w.heap.size w w' := by
 have A1 : Arg (((w.alloc (.cells #[.int .i64 K1, .int .i64 N1, .float .f64 f1, .slice ad1 n1 cap1] 72)).alloc (.cells #[.int .i64 K2, .int .i64 N2, .float .f64 f2, .slice ad2 n2 cap2] 72)).alloc (.cells #[.int .i64 K3, .int .i64 N3, .float .f64 f3, .slice ad3 n3 cap3] 72)) (w.heap.size) K1 N1 f1 ad1 n1 cap1 zs1 := (((Arg.new K1 N1 f1 cap1 r1 72 (w.heap.size) (by simp)).alloc _).alloc _)
 have A2 : Arg (((w.alloc (.cells #[.int .i64 K1, .int .i64 N1, .float .f64 f1, .slice ad1 n1 cap1] 72)).alloc (.cells #[.int .i64 K2, .int .i64 N2, .float .f64 f2, .slice ad2 n2 cap2] 72)).alloc (.cells #[.int .i64 K3, .int .i64 N3, .float .f64 f3, .slice ad3 n3 cap3] 72)) (w.heap.size + 1) K2 N2 f2 ad2 n2 cap2 zs2 := ((Arg.new K2 N2 f2 cap2 (r2.alloc _) 72 (w.heap.size + 1) (by simp)).alloc _)
 have A3 : Arg (((w.alloc (.cells #[.int .i64 K1, .int .i64 N1, .float .f64 f1, .slice ad1 n1 cap1] 72)).alloc (.cells #[.int .i64 K2, .int .i64 N2, .float .f64 f2, .slice ad2 n2 cap2] 72)).alloc (.cells #[.int .i64 K3, .int .i64 N3, .float .f64 f3, .slice ad3 n3 cap3] 72)) (w.heap.size + 1 + 1) K3 N3 f3 ad3 n3 cap3 zs3 := (Arg.new K3 N3 f3 cap3 ((r3.alloc _).alloc _) 72 (w.heap.size + 1 + 1) (by simp))
 have B : Below w.heap.size w (((w.alloc (.cells #[.int .i64 K1, .int .i64 N1, .float .f64 f1, .slice ad1 n1 cap1] 72)).alloc (.cells #[.int .i64 K2, .int .i64 N2, .float .f64 f2, .slice ad2 n2 cap2] 72)).alloc (.cells #[.int .i64 K3, .int .i64 N3, .float .f64 f3, .slice ad3 n3 cap3] 72)) := (((Below.refl w.heap.size w).alloc (Nat.le_refl _) _).alloc (by simp) _).alloc (by simp; try omega) _
 have HA1 := hid A1
 clear A1 r1
 have HA2 := hid A2
 clear A2 r2
 have HA3 := hid A3
 clear A3 r3
 have HB := hid B
 clear B
 have e1 := spec_KeyOk K1 N1 f1 ad1 n1 cap1 hf1 hn1
 have e2 := spec_KeyOk K2 N2 f2 ad2 n2 cap2 hf2 hn2
 have e3 := spec_KeyOk K3 N3 f3 ad3 n3 cap3 hf3 hn3
 by_cases o1 : okK K1 N1 f1 n1 = true
 rotate_left
 · have o1' : okK K1 N1 f1 n1 = false := by simpa using o1
   rw [show inSp K1 N1 f1 n1 zs1 K2 N2 f2 n2 zs2 K3 N3 f3 n3 zs3 = false by rw [inSp, o1']; rfl]
   rw [o1'] at e1
   clear o1 o1'
   go_enter Tryz.func107, Tryz.ntmps107
   go_wp2_with fail
   refine (e1 _).mono ?_
   rintro e v0 ⟨rfl, b⟩
   have A1 := HA1.out.below b (Nat.le_refl _)
   have A2 := HA2.out.below b (Nat.le_refl _)
   have A3 := HA3.out.below b (Nat.le_refl _)
   have B := HB.out.trans (b.mono HB.out.size)
   clear HB b HA1 HA2 HA3
   have HA1 := hid A1
   have HA2 := hid A2
   have HA3 := hid A3
   have HB := hid B
   clear B
   clear A1 A2 A3
   go_wp2_with fail
   go_ret
   exact ⟨rfl, HB.out⟩
 by_cases o2 : okK K2 N2 f2 n2 = true
 rotate_left
 · have o2' : okK K2 N2 f2 n2 = false := by simpa using o2
   rw [show inSp K1 N1 f1 n1 zs1 K2 N2 f2 n2 zs2 K3 N3 f3 n3 zs3 = false by rw [inSp, o2', Bool.and_false]; rfl]
   rw [o1] at e1
   rw [o2'] at e2
   clear o1 o2 o2'
   go_enter Tryz.func107, Tryz.ntmps107
   go_wp2_with fail
   refine (e1 _).mono ?_
   rintro e v0 ⟨rfl, b⟩
   have A1 := HA1.out.below b (Nat.le_refl _)
   have A2 := HA2.out.below b (Nat.le_refl _)
   have A3 := HA3.out.below b (Nat.le_refl _)
   have B := HB.out.trans (b.mono HB.out.size)
   clear HB b HA1 HA2 HA3
   have HA1 := hid A1
   have HA2 := hid A2
   have HA3 := hid A3
   have HB := hid B
   clear B
   obtain ⟨c20, c21, c22, c23⟩ := A2.box
   clear A1 A2 A3
   go_wp2_with fail
   clear c20 c21 c22 c23
   refine (e2 _).mono ?_
   rintro e v1 ⟨rfl, b⟩
   have A1 := HA1.out.below b (Nat.le_refl _)
   have A2 := HA2.out.below b (Nat.le_refl _)
   have A3 := HA3.out.below b (Nat.le_refl _)
   have B := HB.out.trans (b.mono HB.out.size)
   clear HB b HA1 HA2 HA3
   have HA1 := hid A1
   have HA2 := hid A2
   have HA3 := hid A3
   have HB := hid B
   clear B
   clear A1 A2 A3
   go_wp2_with fail
   go_ret
   exact ⟨rfl, HB.out⟩
 by_cases o3 : okK K3 N3 f3 n3 = true
 rotate_left
 · have o3' : okK K3 N3 f3 n3 = false := by simpa using o3
   rw [show inSp K1 N1 f1 n1 zs1 K2 N2 f2 n2 zs2 K3 N3 f3 n3 zs3 = false by rw [inSp, o3', Bool.and_false]; rfl]
   rw [o1] at e1
   rw [o2] at e2
   rw [o3'] at e3
   clear o1 o2 o3 o3'
   go_enter Tryz.func107, Tryz.ntmps107
   go_wp2_with fail
   refine (e1 _).mono ?_
   rintro e v0 ⟨rfl, b⟩
   have A1 := HA1.out.below b (Nat.le_refl _)
   have A2 := HA2.out.below b (Nat.le_refl _)
   have A3 := HA3.out.below b (Nat.le_refl _)
   have B := HB.out.trans (b.mono HB.out.size)
   clear HB b HA1 HA2 HA3
   have HA1 := hid A1
   have HA2 := hid A2
   have HA3 := hid A3
   have HB := hid B
   clear B
   obtain ⟨c20, c21, c22, c23⟩ := A2.box
   clear A1 A2 A3
   go_wp2_with fail
   clear c20 c21 c22 c23
   refine (e2 _).mono ?_
   rintro e v1 ⟨rfl, b⟩
   have A1 := HA1.out.below b (Nat.le_refl _)
   have A2 := HA2.out.below b (Nat.le_refl _)
   have A3 := HA3.out.below b (Nat.le_refl _)
   have B := HB.out.trans (b.mono HB.out.size)
   clear HB b HA1 HA2 HA3
   have HA1 := hid A1
   have HA2 := hid A2
   have HA3 := hid A3
   have HB := hid B
   clear B
   obtain ⟨c30, c31, c32, c33⟩ := A3.box
   clear A1 A2 A3
   go_wp2_with fail
   clear c30 c31 c32 c33
   refine (e3 _).mono ?_
   rintro e v2 ⟨rfl, b⟩
   have A1 := HA1.out.below b (Nat.le_refl _)
   have A2 := HA2.out.below b (Nat.le_refl _)
   have A3 := HA3.out.below b (Nat.le_refl _)
   have B := HB.out.trans (b.mono HB.out.size)
   clear HB b HA1 HA2 HA3
   have HA1 := hid A1
   have HA2 := hid A2
   have HA3 := hid A3
   have HB := hid B
   clear B
   clear A1 A2 A3
   go_wp2_with fail
   go_ret
   exact ⟨rfl, HB.out⟩
 rw [o1] at e1
 rw [o2] at e2
 rw [o3] at e3
 have hs : inSp K1 N1 f1 n1 zs1 K2 N2 f2 n2 zs2 K3 N3 f3 n3 zs3 = (decide (cmpI K1 N1 f1 n1 zs1 K3 N3 f3 n3 zs3 ≤ 0) && decide (cmpI K3 N3 f3 n3 zs3 K2 N2 f2 n2 zs2 ≤ 0)) := by rw [inSp, o1, o2, o3]; rfl
 rw [hs]
 clear hs o1 o2 o3
 obtain ⟨x, q13⟩ : ∃ x, cmpI K1 N1 f1 n1 zs1 K3 N3 f3 n3 zs3 = x := ⟨_, rfl⟩
 obtain ⟨y, q32⟩ : ∃ y, cmpI K3 N3 f3 n3 zs3 K2 N2 f2 n2 zs2 = y := ⟨_, rfl⟩
 rw [q13, q32]
 by_cases hx : x ≤ 0
 rotate_left
 · rw [decide_eq_false hx, Bool.false_and]
   have hx' : ¬ x ≤ 0 := hx
   go_enter Tryz.func107, Tryz.ntmps107
   go_wp2_with fail
   refine (e1 _).mono ?_
   rintro e v0 ⟨rfl, b⟩
   have A1 := HA1.out.below b (Nat.le_refl _)
   have A2 := HA2.out.below b (Nat.le_refl _)
   have A3 := HA3.out.below b (Nat.le_refl _)
   have B := HB.out.trans (b.mono HB.out.size)
   clear HB b HA1 HA2 HA3
   have HA1 := hid A1
   have HA2 := hid A2
   have HA3 := hid A3
   have HB := hid B
   clear B
   obtain ⟨c20, c21, c22, c23⟩ := A2.box
   clear A1 A2 A3
   go_wp2_with fail
   clear c20 c21 c22 c23
   refine (e2 _).mono ?_
   rintro e v1 ⟨rfl, b⟩
   have A1 := HA1.out.below b (Nat.le_refl _)
   have A2 := HA2.out.below b (Nat.le_refl _)
   have A3 := HA3.out.below b (Nat.le_refl _)
   have B := HB.out.trans (b.mono HB.out.size)
   clear HB b HA1 HA2 HA3
   have HA1 := hid A1
   have HA2 := hid A2
   have HA3 := hid A3
   have HB := hid B
   clear B
   obtain ⟨c30, c31, c32, c33⟩ := A3.box
   clear A1 A2 A3
   go_wp2_with fail
   clear c30 c31 c32 c33
   refine (e3 _).mono ?_
   rintro e v2 ⟨rfl, b⟩
   have A1 := HA1.out.below b (Nat.le_refl _)
   have A2 := HA2.out.below b (Nat.le_refl _)
   have A3 := HA3.out.below b (Nat.le_refl _)
   have B := HB.out.trans (b.mono HB.out.size)
   clear HB b HA1 HA2 HA3
   have HA1 := hid A1
   have HA2 := hid A2
   have HA3 := hid A3
   have HB := hid B
   clear B
   obtain ⟨c10, c11, c12, c13⟩ := A1.box
   obtain ⟨c30, c31, c32, c33⟩ := A3.box
   clear A1 A2 A3
   go_wp2_with fail
   clear c10 c11 c12 c13 c30 c31 c32 c33
   refine (spec_ItemCompare K1 N1 K3 N3 f1 f3 cap1 cap3 hf1 hf3 HA1.out.reads HA3.out.reads hn1 hn3).mono ?_
   rintro e v3 ⟨rfl, b⟩
   have A1 := HA1.out.below b (Nat.le_refl _)
   have A2 := HA2.out.below b (Nat.le_refl _)
   have A3 := HA3.out.below b (Nat.le_refl _)
   have B := HB.out.trans (b.mono HB.out.size)
   clear HB b HA1 HA2 HA3
   have HA1 := hid A1
   have HA2 := hid A2
   have HA3 := hid A3
   have HB := hid B
   clear B
   rw [q13]
   clear A1 A2 A3
   go_wp2_with fail
   go_ret
   exact ⟨rfl, HB.out⟩
 rw [decide_eq_true hx, Bool.true_and]
 by_cases hy : y ≤ 0
 · rw [decide_eq_true hy]
   go_enter Tryz.func107, Tryz.ntmps107
   go_wp2_with fail
   refine (e1 _).mono ?_
   rintro e v0 ⟨rfl, b⟩
   have A1 := HA1.out.below b (Nat.le_refl _)
   have A2 := HA2.out.below b (Nat.le_refl _)
   have A3 := HA3.out.below b (Nat.le_refl _)
   have B := HB.out.trans (b.mono HB.out.size)
   clear HB b HA1 HA2 HA3
   have HA1 := hid A1
   have HA2 := hid A2
   have HA3 := hid A3
   have HB := hid B
   clear B
   obtain ⟨c20, c21, c22, c23⟩ := A2.box
   clear A1 A2 A3
   go_wp2_with fail
   clear c20 c21 c22 c23
   refine (e2 _).mono ?_
   rintro e v1 ⟨rfl, b⟩
   have A1 := HA1.out.below b (Nat.le_refl _)
   have A2 := HA2.out.below b (Nat.le_refl _)
   have A3 := HA3.out.below b (Nat.le_refl _)
   have B := HB.out.trans (b.mono HB.out.size)
   clear HB b HA1 HA2 HA3
   have HA1 := hid A1
   have HA2 := hid A2
   have HA3 := hid A3
   have HB := hid B
   clear B
   obtain ⟨c30, c31, c32, c33⟩ := A3.box
   clear A1 A2 A3
   go_wp2_with fail
   clear c30 c31 c32 c33
   refine (e3 _).mono ?_
   rintro e v2 ⟨rfl, b⟩
   have A1 := HA1.out.below b (Nat.le_refl _)
   have A2 := HA2.out.below b (Nat.le_refl _)
   have A3 := HA3.out.below b (Nat.le_refl _)
   have B := HB.out.trans (b.mono HB.out.size)
   clear HB b HA1 HA2 HA3
   have HA1 := hid A1
   have HA2 := hid A2
   have HA3 := hid A3
   have HB := hid B
   clear B
   obtain ⟨c10, c11, c12, c13⟩ := A1.box
   obtain ⟨c30, c31, c32, c33⟩ := A3.box
   clear A1 A2 A3
   go_wp2_with fail
   clear c10 c11 c12 c13 c30 c31 c32 c33
   refine (spec_ItemCompare K1 N1 K3 N3 f1 f3 cap1 cap3 hf1 hf3 HA1.out.reads HA3.out.reads hn1 hn3).mono ?_
   rintro e v3 ⟨rfl, b⟩
   have A1 := HA1.out.below b (Nat.le_refl _)
   have A2 := HA2.out.below b (Nat.le_refl _)
   have A3 := HA3.out.below b (Nat.le_refl _)
   have B := HB.out.trans (b.mono HB.out.size)
   clear HB b HA1 HA2 HA3
   have HA1 := hid A1
   have HA2 := hid A2
   have HA3 := hid A3
   have HB := hid B
   clear B
   rw [q13]
   obtain ⟨c30, c31, c32, c33⟩ := A3.box
   obtain ⟨c20, c21, c22, c23⟩ := A2.box
   clear A1 A2 A3
   go_wp2_with fail
   clear c30 c31 c32 c33 c20 c21 c22 c23
   refine (spec_ItemCompare K3 N3 K2 N2 f3 f2 cap3 cap2 hf3 hf2 HA3.out.reads HA2.out.reads hn3 hn2).mono ?_
   rintro e v4 ⟨rfl, b⟩
   have A1 := HA1.out.below b (Nat.le_refl _)
   have A2 := HA2.out.below b (Nat.le_refl _)
   have A3 := HA3.out.below b (Nat.le_refl _)
   have B := HB.out.trans (b.mono HB.out.size)
   clear HB b HA1 HA2 HA3
   have HA1 := hid A1
   have HA2 := hid A2
   have HA3 := hid A3
   have HB := hid B
   clear B
   rw [q32]
   clear A1 A2 A3
   go_wp2_with fail
   go_ret
   exact ⟨by first | rfl | (show Ending.returned (.bool (decide (y ≤ 0))) = _; rw [decide_eq_false (show ¬ y ≤ 0 by omega)]), HB.out⟩
 · rw [decide_eq_false hy]
   go_enter Tryz.func107, Tryz.ntmps107
   go_wp2_with fail
   refine (e1 _).mono ?_
   rintro e v0 ⟨rfl, b⟩
   have A1 := HA1.out.below b (Nat.le_refl _)
   have A2 := HA2.out.below b (Nat.le_refl _)
   have A3 := HA3.out.below b (Nat.le_refl _)
   have B := HB.out.trans (b.mono HB.out.size)
   clear HB b HA1 HA2 HA3
   have HA1 := hid A1
   have HA2 := hid A2
   have HA3 := hid A3
   have HB := hid B
   clear B
   obtain ⟨c20, c21, c22, c23⟩ := A2.box
   clear A1 A2 A3
   go_wp2_with fail
   clear c20 c21 c22 c23
   refine (e2 _).mono ?_
   rintro e v1 ⟨rfl, b⟩
   have A1 := HA1.out.below b (Nat.le_refl _)
   have A2 := HA2.out.below b (Nat.le_refl _)
   have A3 := HA3.out.below b (Nat.le_refl _)
   have B := HB.out.trans (b.mono HB.out.size)
   clear HB b HA1 HA2 HA3
   have HA1 := hid A1
   have HA2 := hid A2
   have HA3 := hid A3
   have HB := hid B
   clear B
   obtain ⟨c30, c31, c32, c33⟩ := A3.box
   clear A1 A2 A3
   go_wp2_with fail
   clear c30 c31 c32 c33
   refine (e3 _).mono ?_
   rintro e v2 ⟨rfl, b⟩
   have A1 := HA1.out.below b (Nat.le_refl _)
   have A2 := HA2.out.below b (Nat.le_refl _)
   have A3 := HA3.out.below b (Nat.le_refl _)
   have B := HB.out.trans (b.mono HB.out.size)
   clear HB b HA1 HA2 HA3
   have HA1 := hid A1
   have HA2 := hid A2
   have HA3 := hid A3
   have HB := hid B
   clear B
   obtain ⟨c10, c11, c12, c13⟩ := A1.box
   obtain ⟨c30, c31, c32, c33⟩ := A3.box
   clear A1 A2 A3
   go_wp2_with fail
   clear c10 c11 c12 c13 c30 c31 c32 c33
   refine (spec_ItemCompare K1 N1 K3 N3 f1 f3 cap1 cap3 hf1 hf3 HA1.out.reads HA3.out.reads hn1 hn3).mono ?_
   rintro e v3 ⟨rfl, b⟩
   have A1 := HA1.out.below b (Nat.le_refl _)
   have A2 := HA2.out.below b (Nat.le_refl _)
   have A3 := HA3.out.below b (Nat.le_refl _)
   have B := HB.out.trans (b.mono HB.out.size)
   clear HB b HA1 HA2 HA3
   have HA1 := hid A1
   have HA2 := hid A2
   have HA3 := hid A3
   have HB := hid B
   clear B
   rw [q13]
   obtain ⟨c30, c31, c32, c33⟩ := A3.box
   obtain ⟨c20, c21, c22, c23⟩ := A2.box
   clear A1 A2 A3
   go_wp2_with fail
   clear c30 c31 c32 c33 c20 c21 c22 c23
   refine (spec_ItemCompare K3 N3 K2 N2 f3 f2 cap3 cap2 hf3 hf2 HA3.out.reads HA2.out.reads hn3 hn2).mono ?_
   rintro e v4 ⟨rfl, b⟩
   have A1 := HA1.out.below b (Nat.le_refl _)
   have A2 := HA2.out.below b (Nat.le_refl _)
   have A3 := HA3.out.below b (Nat.le_refl _)
   have B := HB.out.trans (b.mono HB.out.size)
   clear HB b HA1 HA2 HA3
   have HA1 := hid A1
   have HA2 := hid A2
   have HA3 := hid A3
   have HB := hid B
   clear B
   rw [q32]
   clear A1 A2 A3
   go_wp2_with fail
   go_ret
   exact ⟨by first | rfl | (show Ending.returned (.bool (decide (y ≤ 0))) = _; rw [decide_eq_false (show ¬ y ≤ 0 by omega)]), HB.out⟩
end Go.Proofs.YtnbpblephmjfnaaGreat
