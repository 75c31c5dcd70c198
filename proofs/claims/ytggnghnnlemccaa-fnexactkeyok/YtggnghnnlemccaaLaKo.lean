/- FnExactKeyOk's walk. -/
import Derived.Test.YtggnghnnlemccaaIm2
import Derived.Test.YtggnghnnlemccaaAr
import Derived.Deep.RegionHeld3
namespace Go.Proofs.Ytggnghnnlemccaa
open Go.RowKit

set_option maxRecDepth 100000 in
set_option maxHeartbeats 6400000 in
theorem exactKeyOk (K1 N1 : Int) (f1 : Nat) {ad1 : Option Addr} {n1 : Nat} (cap1 : Nat) {zs1 : List Int} {w : World} (r1 : Reads w ad1 n1 zs1) (hm1 : n1 ≤ maxLen) (hf1 : f1 < 18446744073709551616) :
    Calls Try.prog 7 #[.agg #[.int .i64 K1, .int .i64 N1, .float .f64 f1, .slice ad1 n1 cap1]] w fun e w' => e = .returned (.bool true) ∧ Below w.heap.size w w' := by
  unfold maxLen at hm1
  have hst1 := fun w a m => run_store Try.prog w a (.float .f64 f1) m rfl
  have bd1 := r1.bd
  have A1 : Arg (w.alloc (.cells #[.int .i64 K1, .int .i64 N1, .float .f64 f1, .slice ad1 n1 cap1] 33)) (w.heap.size) K1 N1 f1 ad1 n1 cap1 zs1 := (Arg.new K1 N1 f1 cap1 r1 33 (w.heap.size) (by simp))
  have B : Below w.heap.size w (w.alloc (.cells #[.int .i64 K1, .int .i64 N1, .float .f64 f1, .slice ad1 n1 cap1] 33)) := ((Below.refl w.heap.size w).alloc (Nat.le_refl _) _)
  have HA1 := hid A1
  clear A1 r1
  have HB := hid B
  clear B
  go_enter Try.func7, Try.ntmps7
  go_wp2_with fail
  refine (szItem K1 N1 f1 ad1 n1 cap1 (1048576) (by omega) (by omega) (by omega) _).mono ?_
  rintro e w1 ⟨rfl, b⟩
  have A1 := HA1.out.below b (Nat.le_refl _)
  have B := HB.out.trans (b.mono HB.out.size)
  clear HB b HA1
  have HA1 := hid A1
  have HB := hid B
  by_cases hbig1 : (1048576 : Int) < n1
  · rw [if_pos hbig1]
    clear B A1
    go_wp2_with fail
    go_ret
    exact ⟨rfl, HB.out⟩
  rw [if_neg hbig1]
  have hq1 : ¬ (1048576 - n1 : Int) < 0 := by omega
  clear B
  have hn1 : n1 ≤ 1048576 := by omega
  clear hbig1
  obtain ⟨c0, c1, c2, c3⟩ := A1.box
  clear A1
  go_wp2_with fail
  clear c0 c1 c2 c3 hq1
  refine (toItem K1 N1 f1 cap1 HA1.out.reads (by omega)).mono ?_
  rintro e w2 ⟨s1, rfl, o, b⟩
  have A1 := HA1.out.below b (Nat.le_refl _)
  have B := HB.out.trans (b.mono HB.out.size)
  obtain ⟨_, _, e1, p1, _⟩ := Reads.own o bd1
  obtain ⟨rfl, _, rfl⟩ := Value.slice.inj e1
  clear HA1 HB o b e1
  have HA1 := hid A1
  have HB := hid B
  have P1 := hid p1
  clear A1 B p1
  go_wp2_with fail
  refine (spec_KeyOk K1 N1 f1 _ n1 n1 hf1 (by omega) _).mono ?_
  rintro e w3 ⟨rfl, b⟩
  have A1 := HA1.out.below b (Nat.le_refl _)
  have B := HB.out.trans (b.mono HB.out.size)
  clear HA1 HB P1 b
  have HA1 := hid A1
  have HB := hid B
  clear B
  obtain ⟨c0, c1, c2, c3⟩ := A1.box
  clear A1
  go_wp2_with fail
  clear c0 c1 c2 c3
  refine (toItem K1 N1 f1 cap1 HA1.out.reads (by omega)).mono ?_
  rintro e y1 ⟨x1, rfl, o, b⟩
  have A1 := HA1.out.below b (Nat.le_refl _)
  have B := HB.out.trans (b.mono HB.out.size)
  obtain ⟨_, _, e1, p, _⟩ := Reads.own o bd1
  obtain ⟨rfl, _, rfl⟩ := Value.slice.inj e1
  clear HB o b e1 HA1 
  have HA1 := hid A1
  clear A1
  have HB := hid B
  have P := hid p
  clear B p
  go_wp2_with fail
  have X1 := Arg.new K1 N1 f1 n1 P.out 26 y1.heap.size rfl
  have A1 := HA1.out.alloc (.cells #[.int .i64 K1, .int .i64 N1, .float .f64 f1, .slice (some ⟨x1, 0, none⟩) n1 n1] 26)
  have B := HB.out.trans ((Below.alloc1 y1 (.cells #[.int .i64 K1, .int .i64 N1, .float .f64 f1, .slice (some ⟨x1, 0, none⟩) n1 n1] 26)).mono HB.out.size)
  generalize y1.alloc (.cells #[.int .i64 K1, .int .i64 N1, .float .f64 f1, .slice (some ⟨x1, 0, none⟩) n1 n1] 26) = t1 at *
  generalize y1.heap.size = G1 at *
  clear HB P HA1 
  have HA1 := hid A1
  have HX1 := hid X1
  have HB := hid B
  clear B X1
  clear A1
  refine (impl_KeyOk K1 N1 f1 _ n1 n1 hf1 (by omega) _).mono ?_
  rintro e z0 ⟨rfl, b⟩
  have A1 := HA1.out.below b (Nat.le_refl _)
  have X1 := HX1.out.below b (Nat.le_refl _)
  have B := HB.out.trans (b.mono HB.out.size)
  clear HB b HA1 HX1
  have HA1 := hid A1
  have HX1 := hid X1
  clear A1 X1
  have HB := hid B
  clear B
  generalize okK K1 N1 f1 n1 = ok at *
  obtain ⟨c0, c1, c2, c3⟩ := HA1.out.box
  obtain ⟨d0, d1, d2, d3⟩ := HX1.out.box
  go_wp2_with fail
  go_region_held3 (fun W => W.cell? ⟨w.heap.size, 0, none⟩ = some (.int .i64 K1) ∧ W.cell? ⟨w.heap.size, 1, none⟩ = some (.int .i64 N1) ∧ W.cell? ⟨w.heap.size, 2, none⟩ = some (.float .f64 f1) ∧ W.cell? ⟨w.heap.size, 3, none⟩ = some (.slice ad1 n1 cap1) ∧ W.cell? ⟨G1, 0, none⟩ = some (.int .i64 K1) ∧ W.cell? ⟨G1, 1, none⟩ = some (.int .i64 N1) ∧ W.cell? ⟨G1, 2, none⟩ = some (.float .f64 f1) ∧ W.cell? ⟨G1, 3, none⟩ = some (.slice (some ⟨x1, 0, none⟩) n1 n1)) (first | exact ⟨m0, m1, m2, m3, q0, q1, q2, q3⟩ | exact ⟨k0, k1, k2, k3, l0, l1, l2, l3⟩ | exact ⟨by simpa using c0, by simpa using c1, by simpa using c2, by simpa using c3, by simpa using d0, by simpa using d1, by simpa using d2, by simpa using d3⟩)
    (first
    | (go_at_call 23; refine (eqItem K1 N1 f1 f1 n1 n1 hf1 hf1 (Same.refl f1) JX1.out.reads JP.out (by omega)).mono ?_; rintro e z1 ⟨rfl, b⟩; have LA1 := hid (JA1.out.below b (Nat.le_refl _)); have LX1 := hid (JX1.out.below b (Nat.le_refl _)); have LB := hid (JB.out.trans (b.mono JB.out.size)); clear b; obtain ⟨m0, m1, m2, m3⟩ := LA1.out.box; obtain ⟨q0, q1, q2, q3⟩ := LX1.out.box)
    | (go_at_call 21; refine (toItem K1 N1 f1 cap1 (HA1.out.drewN _).reads (by omega)).mono ?_; rintro e u ⟨s, rfl, o, b⟩; have JA1 := hid ((HA1.out.drewN _).below b (Nat.le_refl _)); have JX1 := hid ((HX1.out.drewN _).below b (Nat.le_refl _)); have JB := hid (Below.trans (HB.out.trans (Below.drewN z0 _)) (b.mono (HB.out.trans (Below.drewN z0 _)).size)); obtain ⟨_, _, e9, p9, _⟩ := Reads.own o bd1; obtain ⟨rfl, _, rfl⟩ := Value.slice.inj e9; have JP := hid p9; clear p9 e9 o b; obtain ⟨k0, k1, k2, k3⟩ := JA1.out.box; obtain ⟨l0, l1, l2, l3⟩ := JX1.out.box))
  clear c0 c1 c2 c3 d0 d1 d2 d3 k0 k1 k2 k3 l0 l1 l2 l3 m0 m1 m2 m3 q0 q1 q2 q3 JP JB HB JA1 JX1 HA1 HX1
  have HA1 := LA1
  have HX1 := LX1
  clear LA1 LX1
  have HB := LB
  clear LB
  go_wp2_with fail
  go_ret
  exact ⟨rfl, HB.out⟩
end Go.Proofs.Ytggnghnnlemccaa
