/- FnExactInSpan's walk. -/
import Derived.Test.YtggnghnnlemccaaIsp
import Derived.Test.YtggnghnnlemccaaAr
import Derived.Deep.RegionHeld3
namespace Go.Proofs.Ytggnghnnlemccaa
open Go.RowKit

set_option maxRecDepth 100000 in
set_option maxHeartbeats 6400000 in
theorem exactInSpan (K1 N1 : Int) (f1 : Nat) {ad1 : Option Addr} {n1 : Nat} (cap1 : Nat) {zs1 : List Int} (K2 N2 : Int) (f2 : Nat) {ad2 : Option Addr} {n2 : Nat} (cap2 : Nat) {zs2 : List Int} (K3 N3 : Int) (f3 : Nat) {ad3 : Option Addr} {n3 : Nat} (cap3 : Nat) {zs3 : List Int} {w : World} (r1 : Reads w ad1 n1 zs1) (hm1 : n1 ≤ maxLen) (hf1 : f1 < 18446744073709551616) (r2 : Reads w ad2 n2 zs2) (hm2 : n2 ≤ maxLen) (hf2 : f2 < 18446744073709551616) (r3 : Reads w ad3 n3 zs3) (hm3 : n3 ≤ maxLen) (hf3 : f3 < 18446744073709551616) :
    Calls Try.prog 12 #[.agg #[.int .i64 K1, .int .i64 N1, .float .f64 f1, .slice ad1 n1 cap1], .agg #[.int .i64 K2, .int .i64 N2, .float .f64 f2, .slice ad2 n2 cap2], .agg #[.int .i64 K3, .int .i64 N3, .float .f64 f3, .slice ad3 n3 cap3]] w fun e w' => e = .returned (.bool true) ∧ Below w.heap.size w w' := by
  unfold maxLen at hm1 hm2 hm3
  have hst1 := fun w a m => run_store Try.prog w a (.float .f64 f1) m rfl
  have bd1 := r1.bd
  have hst2 := fun w a m => run_store Try.prog w a (.float .f64 f2) m rfl
  have bd2 := r2.bd
  have hst3 := fun w a m => run_store Try.prog w a (.float .f64 f3) m rfl
  have bd3 := r3.bd
  have A1 : Arg (((w.alloc (.cells #[.int .i64 K1, .int .i64 N1, .float .f64 f1, .slice ad1 n1 cap1] 33)).alloc (.cells #[.int .i64 K2, .int .i64 N2, .float .f64 f2, .slice ad2 n2 cap2] 33)).alloc (.cells #[.int .i64 K3, .int .i64 N3, .float .f64 f3, .slice ad3 n3 cap3] 33)) (w.heap.size) K1 N1 f1 ad1 n1 cap1 zs1 := (((Arg.new K1 N1 f1 cap1 r1 33 (w.heap.size) (by simp)).alloc _).alloc _)
  have A2 : Arg (((w.alloc (.cells #[.int .i64 K1, .int .i64 N1, .float .f64 f1, .slice ad1 n1 cap1] 33)).alloc (.cells #[.int .i64 K2, .int .i64 N2, .float .f64 f2, .slice ad2 n2 cap2] 33)).alloc (.cells #[.int .i64 K3, .int .i64 N3, .float .f64 f3, .slice ad3 n3 cap3] 33)) (w.heap.size + 1) K2 N2 f2 ad2 n2 cap2 zs2 := ((Arg.new K2 N2 f2 cap2 (r2.alloc _) 33 (w.heap.size + 1) (by simp)).alloc _)
  have A3 : Arg (((w.alloc (.cells #[.int .i64 K1, .int .i64 N1, .float .f64 f1, .slice ad1 n1 cap1] 33)).alloc (.cells #[.int .i64 K2, .int .i64 N2, .float .f64 f2, .slice ad2 n2 cap2] 33)).alloc (.cells #[.int .i64 K3, .int .i64 N3, .float .f64 f3, .slice ad3 n3 cap3] 33)) (w.heap.size + 1 + 1) K3 N3 f3 ad3 n3 cap3 zs3 := (Arg.new K3 N3 f3 cap3 ((r3.alloc _).alloc _) 33 (w.heap.size + 1 + 1) (by simp))
  have B : Below w.heap.size w (((w.alloc (.cells #[.int .i64 K1, .int .i64 N1, .float .f64 f1, .slice ad1 n1 cap1] 33)).alloc (.cells #[.int .i64 K2, .int .i64 N2, .float .f64 f2, .slice ad2 n2 cap2] 33)).alloc (.cells #[.int .i64 K3, .int .i64 N3, .float .f64 f3, .slice ad3 n3 cap3] 33)) := ((((Below.refl w.heap.size w).alloc (Nat.le_refl _) _).alloc (by simp; try omega) _).alloc (by simp; try omega) _)
  have HA1 := hid A1
  clear A1 r1
  have HA2 := hid A2
  clear A2 r2
  have HA3 := hid A3
  clear A3 r3
  have HB := hid B
  clear B
  go_enter Try.func12, Try.ntmps12
  go_wp2_with fail
  refine (szItem K1 N1 f1 ad1 n1 cap1 (1048576) (by omega) (by omega) (by omega) _).mono ?_
  rintro e w1 ⟨rfl, b⟩
  have A1 := HA1.out.below b (Nat.le_refl _)
  have A2 := HA2.out.below b (Nat.le_refl _)
  have A3 := HA3.out.below b (Nat.le_refl _)
  have B := HB.out.trans (b.mono HB.out.size)
  clear HB b HA1 HA2 HA3
  have HA1 := hid A1
  have HA2 := hid A2
  have HA3 := hid A3
  have HB := hid B
  by_cases hbig1 : (1048576 : Int) < n1
  · rw [if_pos hbig1]
    clear B A1 A2 A3
    go_wp2_with fail
    go_ret
    exact ⟨rfl, HB.out⟩
  rw [if_neg hbig1]
  have hq1 : ¬ (1048576 - n1 : Int) < 0 := by omega
  clear B
  obtain ⟨c0, c1, c2, c3⟩ := A2.box
  clear A1 A2 A3
  go_wp2_with fail
  clear c0 c1 c2 c3
  refine (szItem K2 N2 f2 ad2 n2 cap2 (1048576 - n1) (by omega) (by omega) (by omega) _).mono ?_
  rintro e w2 ⟨rfl, b⟩
  have A1 := HA1.out.below b (Nat.le_refl _)
  have A2 := HA2.out.below b (Nat.le_refl _)
  have A3 := HA3.out.below b (Nat.le_refl _)
  have B := HB.out.trans (b.mono HB.out.size)
  clear HB b HA1 HA2 HA3
  have HA1 := hid A1
  have HA2 := hid A2
  have HA3 := hid A3
  have HB := hid B
  by_cases hbig2 : (1048576 - n1 : Int) < n2
  · rw [if_pos hbig2]
    clear B A1 A2 A3
    go_wp2_with fail
    go_ret
    exact ⟨rfl, HB.out⟩
  rw [if_neg hbig2]
  have hq2 : ¬ ((1048576 - n1) - n2 : Int) < 0 := by omega
  clear B
  obtain ⟨c0, c1, c2, c3⟩ := A3.box
  clear A1 A2 A3
  go_wp2_with fail
  clear c0 c1 c2 c3
  refine (szItem K3 N3 f3 ad3 n3 cap3 ((1048576 - n1) - n2) (by omega) (by omega) (by omega) _).mono ?_
  rintro e w3 ⟨rfl, b⟩
  have A1 := HA1.out.below b (Nat.le_refl _)
  have A2 := HA2.out.below b (Nat.le_refl _)
  have A3 := HA3.out.below b (Nat.le_refl _)
  have B := HB.out.trans (b.mono HB.out.size)
  clear HB b HA1 HA2 HA3
  have HA1 := hid A1
  have HA2 := hid A2
  have HA3 := hid A3
  have HB := hid B
  by_cases hbig3 : ((1048576 - n1) - n2 : Int) < n3
  · rw [if_pos hbig3]
    clear B A1 A2 A3
    go_wp2_with fail
    go_ret
    exact ⟨rfl, HB.out⟩
  rw [if_neg hbig3]
  have hq3 : ¬ (((1048576 - n1) - n2) - n3 : Int) < 0 := by omega
  clear B
  have hn1 : n1 ≤ 1048576 := by omega
  have hn2 : n2 ≤ 1048576 := by omega
  have hn3 : n3 ≤ 1048576 := by omega
  clear hbig1 hbig2 hbig3 hq1 hq2
  obtain ⟨c10, c11, c12, c13⟩ := A1.box
  obtain ⟨c20, c21, c22, c23⟩ := A2.box
  obtain ⟨c30, c31, c32, c33⟩ := A3.box
  clear A1 A2 A3
  go_wp2_with fail
  go_region_held3 (fun W => W.cell? ⟨w.heap.size, 0, none⟩ = some (.int .i64 K1) ∧ W.cell? ⟨w.heap.size, 1, none⟩ = some (.int .i64 N1) ∧ W.cell? ⟨w.heap.size, 2, none⟩ = some (.float .f64 f1) ∧ W.cell? ⟨w.heap.size, 3, none⟩ = some (.slice ad1 n1 cap1) ∧ W.cell? ⟨w.heap.size + 1, 0, none⟩ = some (.int .i64 K2) ∧ W.cell? ⟨w.heap.size + 1, 1, none⟩ = some (.int .i64 N2) ∧ W.cell? ⟨w.heap.size + 1, 2, none⟩ = some (.float .f64 f2) ∧ W.cell? ⟨w.heap.size + 1, 3, none⟩ = some (.slice ad2 n2 cap2) ∧ W.cell? ⟨w.heap.size + 1 + 1, 0, none⟩ = some (.int .i64 K3) ∧ W.cell? ⟨w.heap.size + 1 + 1, 1, none⟩ = some (.int .i64 N3) ∧ W.cell? ⟨w.heap.size + 1 + 1, 2, none⟩ = some (.float .f64 f3) ∧ W.cell? ⟨w.heap.size + 1 + 1, 3, none⟩ = some (.slice ad3 n3 cap3)) (first | exact ⟨l10, l11, l12, l13, l20, l21, l22, l23, l30, l31, l32, l33⟩ | exact ⟨k310, k311, k312, k313, k320, k321, k322, k323, k330, k331, k332, k333⟩ | exact ⟨k210, k211, k212, k213, k220, k221, k222, k223, k230, k231, k232, k233⟩ | exact ⟨k110, k111, k112, k113, k120, k121, k122, k123, k130, k131, k132, k133⟩ | exact ⟨by simpa using c10, by simpa using c11, by simpa using c12, by simpa using c13, by simpa using c20, by simpa using c21, by simpa using c22, by simpa using c23, by simpa using c30, by simpa using c31, by simpa using c32, by simpa using c33⟩)
    (first
    | (go_at_call 42; refine (spec_InSpan K1 N1 K2 N2 K3 N3 f1 f2 f3 n1 n2 n3 hf1 hf2 hf3 P3_1.out P3_2.out P3_3.out (by omega) (by omega) (by omega)).mono ?_; rintro e v ⟨rfl, b⟩; have E1 := hid (J3_1.out.below b (Nat.le_refl _)); have E2 := hid (J3_2.out.below b (Nat.le_refl _)); have E3 := hid (J3_3.out.below b (Nat.le_refl _)); have EB := hid (D3.out.trans (b.mono D3.out.size)); clear b; obtain ⟨l10, l11, l12, l13⟩ := E1.out.box; obtain ⟨l20, l21, l22, l23⟩ := E2.out.box; obtain ⟨l30, l31, l32, l33⟩ := E3.out.box)
    | (go_at_call 21; refine (toItem K3 N3 f3 cap3 J2_3.out.reads (by omega)).mono ?_; rintro e u3 ⟨s3, rfl, o3, b⟩; have J3_1 := hid (J2_1.out.below b (Nat.le_refl _)); have J3_2 := hid (J2_2.out.below b (Nat.le_refl _)); have J3_3 := hid (J2_3.out.below b (Nat.le_refl _)); have D3 := hid (Below.trans D2.out (b.mono D2.out.size)); have P3_1 := hid (P2_1.out.below b (Nat.le_refl _)); have P3_2 := hid (P2_2.out.below b (Nat.le_refl _)); obtain ⟨_, _, e9, p9, _⟩ := Reads.own o3 bd3; obtain ⟨rfl, _, rfl⟩ := Value.slice.inj e9; have P3_3 := hid p9; clear p9 e9 b o3; obtain ⟨k310, k311, k312, k313⟩ := J3_1.out.box; obtain ⟨k320, k321, k322, k323⟩ := J3_2.out.box; obtain ⟨k330, k331, k332, k333⟩ := J3_3.out.box)
    | (go_at_call 21; refine (toItem K2 N2 f2 cap2 J1_2.out.reads (by omega)).mono ?_; rintro e u2 ⟨s2, rfl, o2, b⟩; have J2_1 := hid (J1_1.out.below b (Nat.le_refl _)); have J2_2 := hid (J1_2.out.below b (Nat.le_refl _)); have J2_3 := hid (J1_3.out.below b (Nat.le_refl _)); have D2 := hid (Below.trans D1.out (b.mono D1.out.size)); have P2_1 := hid (P1_1.out.below b (Nat.le_refl _)); obtain ⟨_, _, e9, p9, _⟩ := Reads.own o2 bd2; obtain ⟨rfl, _, rfl⟩ := Value.slice.inj e9; have P2_2 := hid p9; clear p9 e9 b o2; obtain ⟨k210, k211, k212, k213⟩ := J2_1.out.box; obtain ⟨k220, k221, k222, k223⟩ := J2_2.out.box; obtain ⟨k230, k231, k232, k233⟩ := J2_3.out.box)
    | (go_at_call 21; refine (toItem K1 N1 f1 cap1 (HA1.out.drewN _).reads (by omega)).mono ?_; rintro e u1 ⟨s1, rfl, o1, b⟩; have J1_1 := hid ((HA1.out.drewN _).below b (Nat.le_refl _)); have J1_2 := hid ((HA2.out.drewN _).below b (Nat.le_refl _)); have J1_3 := hid ((HA3.out.drewN _).below b (Nat.le_refl _)); have D1 := hid (Below.trans (HB.out.trans (Below.drewN w3 _)) (b.mono (HB.out.trans (Below.drewN w3 _)).size)); obtain ⟨_, _, e9, p9, _⟩ := Reads.own o1 bd1; obtain ⟨rfl, _, rfl⟩ := Value.slice.inj e9; have P1_1 := hid p9; clear p9 e9 b o1; obtain ⟨k110, k111, k112, k113⟩ := J1_1.out.box; obtain ⟨k120, k121, k122, k123⟩ := J1_2.out.box; obtain ⟨k130, k131, k132, k133⟩ := J1_3.out.box))
  clear c10 c11 c12 c13 c20 c21 c22 c23 c30 c31 c32 c33 k110 k111 k112 k113 k120 k121 k122 k123 k130 k131 k132 k133 k210 k211 k212 k213 k220 k221 k222 k223 k230 k231 k232 k233 k310 k311 k312 k313 k320 k321 k322 k323 k330 k331 k332 k333 l10 l11 l12 l13 l20 l21 l22 l23 l30 l31 l32 l33
  clear HB HA1 HA2 HA3
  have HA1 := E1
  have A1 := HA1.out
  have HA2 := E2
  have A2 := HA2.out
  have HA3 := E3
  have A3 := HA3.out
  have HB := EB
  clear EB E1 E2 E3
  obtain ⟨c0, c1, c2, c3⟩ := A1.box
  clear A1 A2 A3
  go_wp2_with fail
  clear c0 c1 c2 c3
  refine (toItem K1 N1 f1 cap1 HA1.out.reads (by omega)).mono ?_
  rintro e y1 ⟨x1, rfl, o, b⟩
  have A1 := HA1.out.below b (Nat.le_refl _)
  have A2 := HA2.out.below b (Nat.le_refl _)
  have A3 := HA3.out.below b (Nat.le_refl _)
  have B := HB.out.trans (b.mono HB.out.size)
  obtain ⟨_, _, e1, p, _⟩ := Reads.own o bd1
  obtain ⟨rfl, _, rfl⟩ := Value.slice.inj e1
  clear HB o b e1 HA1 HA2 HA3 
  have HA1 := hid A1
  clear A1
  have HA2 := hid A2
  clear A2
  have HA3 := hid A3
  clear A3
  have HB := hid B
  have P := hid p
  clear B p
  obtain ⟨c0, c1, c2, c3⟩ := (HA2.out.alloc (.cells #[.int .i64 K1, .int .i64 N1, .float .f64 f1, .slice (some ⟨x1, 0, none⟩) n1 n1] 26)).box
  go_wp2_with fail
  clear c0 c1 c2 c3
  have X1 := Arg.new K1 N1 f1 n1 P.out 26 y1.heap.size rfl
  have A1 := HA1.out.alloc (.cells #[.int .i64 K1, .int .i64 N1, .float .f64 f1, .slice (some ⟨x1, 0, none⟩) n1 n1] 26)
  have A2 := HA2.out.alloc (.cells #[.int .i64 K1, .int .i64 N1, .float .f64 f1, .slice (some ⟨x1, 0, none⟩) n1 n1] 26)
  have A3 := HA3.out.alloc (.cells #[.int .i64 K1, .int .i64 N1, .float .f64 f1, .slice (some ⟨x1, 0, none⟩) n1 n1] 26)
  have B := HB.out.trans ((Below.alloc1 y1 (.cells #[.int .i64 K1, .int .i64 N1, .float .f64 f1, .slice (some ⟨x1, 0, none⟩) n1 n1] 26)).mono HB.out.size)
  generalize y1.alloc (.cells #[.int .i64 K1, .int .i64 N1, .float .f64 f1, .slice (some ⟨x1, 0, none⟩) n1 n1] 26) = t1 at *
  generalize y1.heap.size = G1 at *
  clear HB P HA1 HA2 HA3 
  have HA1 := hid A1
  have HA2 := hid A2
  have HA3 := hid A3
  have HX1 := hid X1
  have HB := hid B
  clear B X1
  clear A1 A2 A3
  refine (toItem K2 N2 f2 cap2 HA2.out.reads (by omega)).mono ?_
  rintro e y2 ⟨x2, rfl, o, b⟩
  have A1 := HA1.out.below b (Nat.le_refl _)
  have A2 := HA2.out.below b (Nat.le_refl _)
  have A3 := HA3.out.below b (Nat.le_refl _)
  have X1 := HX1.out.below b (Nat.le_refl _)
  have B := HB.out.trans (b.mono HB.out.size)
  obtain ⟨_, _, e1, p, _⟩ := Reads.own o bd2
  obtain ⟨rfl, _, rfl⟩ := Value.slice.inj e1
  clear HB o b e1 HA1 HA2 HA3 HX1
  have HA1 := hid A1
  clear A1
  have HA2 := hid A2
  clear A2
  have HA3 := hid A3
  clear A3
  have HX1 := hid X1
  clear X1
  have HB := hid B
  have P := hid p
  clear B p
  obtain ⟨c0, c1, c2, c3⟩ := (HA3.out.alloc (.cells #[.int .i64 K2, .int .i64 N2, .float .f64 f2, .slice (some ⟨x2, 0, none⟩) n2 n2] 26)).box
  go_wp2_with fail
  clear c0 c1 c2 c3
  have X2 := Arg.new K2 N2 f2 n2 P.out 26 y2.heap.size rfl
  have A1 := HA1.out.alloc (.cells #[.int .i64 K2, .int .i64 N2, .float .f64 f2, .slice (some ⟨x2, 0, none⟩) n2 n2] 26)
  have A2 := HA2.out.alloc (.cells #[.int .i64 K2, .int .i64 N2, .float .f64 f2, .slice (some ⟨x2, 0, none⟩) n2 n2] 26)
  have A3 := HA3.out.alloc (.cells #[.int .i64 K2, .int .i64 N2, .float .f64 f2, .slice (some ⟨x2, 0, none⟩) n2 n2] 26)
  have X1 := HX1.out.alloc (.cells #[.int .i64 K2, .int .i64 N2, .float .f64 f2, .slice (some ⟨x2, 0, none⟩) n2 n2] 26)
  have B := HB.out.trans ((Below.alloc1 y2 (.cells #[.int .i64 K2, .int .i64 N2, .float .f64 f2, .slice (some ⟨x2, 0, none⟩) n2 n2] 26)).mono HB.out.size)
  generalize y2.alloc (.cells #[.int .i64 K2, .int .i64 N2, .float .f64 f2, .slice (some ⟨x2, 0, none⟩) n2 n2] 26) = t2 at *
  generalize y2.heap.size = G2 at *
  clear HB P HA1 HA2 HA3 HX1
  have HA1 := hid A1
  have HA2 := hid A2
  have HA3 := hid A3
  have HX1 := hid X1
  have HX2 := hid X2
  have HB := hid B
  clear B X1 X2
  clear A1 A2 A3
  refine (toItem K3 N3 f3 cap3 HA3.out.reads (by omega)).mono ?_
  rintro e y3 ⟨x3, rfl, o, b⟩
  have A1 := HA1.out.below b (Nat.le_refl _)
  have A2 := HA2.out.below b (Nat.le_refl _)
  have A3 := HA3.out.below b (Nat.le_refl _)
  have X1 := HX1.out.below b (Nat.le_refl _)
  have X2 := HX2.out.below b (Nat.le_refl _)
  have B := HB.out.trans (b.mono HB.out.size)
  obtain ⟨_, _, e1, p, _⟩ := Reads.own o bd3
  obtain ⟨rfl, _, rfl⟩ := Value.slice.inj e1
  clear HB o b e1 HA1 HA2 HA3 HX1 HX2
  have HA1 := hid A1
  clear A1
  have HA2 := hid A2
  clear A2
  have HA3 := hid A3
  clear A3
  have HX1 := hid X1
  clear X1
  have HX2 := hid X2
  clear X2
  have HB := hid B
  have P := hid p
  clear B p
  obtain ⟨d10, d11, d12, d13⟩ := (HX1.out.alloc (.cells #[.int .i64 K3, .int .i64 N3, .float .f64 f3, .slice (some ⟨x3, 0, none⟩) n3 n3] 26)).box
  obtain ⟨d20, d21, d22, d23⟩ := (HX2.out.alloc (.cells #[.int .i64 K3, .int .i64 N3, .float .f64 f3, .slice (some ⟨x3, 0, none⟩) n3 n3] 26)).box
  go_wp2_with fail
  clear d10 d11 d12 d13 d20 d21 d22 d23
  have X3 := Arg.new K3 N3 f3 n3 P.out 26 y3.heap.size rfl
  have A1 := HA1.out.alloc (.cells #[.int .i64 K3, .int .i64 N3, .float .f64 f3, .slice (some ⟨x3, 0, none⟩) n3 n3] 26)
  have A2 := HA2.out.alloc (.cells #[.int .i64 K3, .int .i64 N3, .float .f64 f3, .slice (some ⟨x3, 0, none⟩) n3 n3] 26)
  have A3 := HA3.out.alloc (.cells #[.int .i64 K3, .int .i64 N3, .float .f64 f3, .slice (some ⟨x3, 0, none⟩) n3 n3] 26)
  have X1 := HX1.out.alloc (.cells #[.int .i64 K3, .int .i64 N3, .float .f64 f3, .slice (some ⟨x3, 0, none⟩) n3 n3] 26)
  have X2 := HX2.out.alloc (.cells #[.int .i64 K3, .int .i64 N3, .float .f64 f3, .slice (some ⟨x3, 0, none⟩) n3 n3] 26)
  have B := HB.out.trans ((Below.alloc1 y3 (.cells #[.int .i64 K3, .int .i64 N3, .float .f64 f3, .slice (some ⟨x3, 0, none⟩) n3 n3] 26)).mono HB.out.size)
  generalize y3.alloc (.cells #[.int .i64 K3, .int .i64 N3, .float .f64 f3, .slice (some ⟨x3, 0, none⟩) n3 n3] 26) = t3 at *
  generalize y3.heap.size = G3 at *
  clear HB P HA1 HA2 HA3 HX1 HX2
  have HA1 := hid A1
  have HA2 := hid A2
  have HA3 := hid A3
  have HX1 := hid X1
  have HX2 := hid X2
  have HX3 := hid X3
  have HB := hid B
  clear B X1 X2 X3
  clear A1 A2 A3
  refine (impl_InSpan K1 N1 K2 N2 K3 N3 f1 f2 f3 n1 n2 n3 hf1 hf2 hf3 HX1.out.reads HX2.out.reads HX3.out.reads (by omega) (by omega) (by omega)).mono ?_
  rintro e z0 ⟨rfl, b⟩
  have A1 := HA1.out.below b (Nat.le_refl _)
  have X1 := HX1.out.below b (Nat.le_refl _)
  have A2 := HA2.out.below b (Nat.le_refl _)
  have X2 := HX2.out.below b (Nat.le_refl _)
  have A3 := HA3.out.below b (Nat.le_refl _)
  have X3 := HX3.out.below b (Nat.le_refl _)
  have B := HB.out.trans (b.mono HB.out.size)
  clear HB b HA1 HX1 HA2 HX2 HA3 HX3
  have HA1 := hid A1
  have HX1 := hid X1
  clear A1 X1
  have HA2 := hid A2
  have HX2 := hid X2
  clear A2 X2
  have HA3 := hid A3
  have HX3 := hid X3
  clear A3 X3
  have HB := hid B
  clear B
  generalize inSp K1 N1 f1 n1 zs1 K2 N2 f2 n2 zs2 K3 N3 f3 n3 zs3 = ok at *
  obtain ⟨c0, c1, c2, c3⟩ := HA1.out.box
  obtain ⟨d0, d1, d2, d3⟩ := HX1.out.box
  go_wp2_with fail
  go_region_held3 (fun W => W.cell? ⟨w.heap.size, 0, none⟩ = some (.int .i64 K1) ∧ W.cell? ⟨w.heap.size, 1, none⟩ = some (.int .i64 N1) ∧ W.cell? ⟨w.heap.size, 2, none⟩ = some (.float .f64 f1) ∧ W.cell? ⟨w.heap.size, 3, none⟩ = some (.slice ad1 n1 cap1) ∧ W.cell? ⟨G1, 0, none⟩ = some (.int .i64 K1) ∧ W.cell? ⟨G1, 1, none⟩ = some (.int .i64 N1) ∧ W.cell? ⟨G1, 2, none⟩ = some (.float .f64 f1) ∧ W.cell? ⟨G1, 3, none⟩ = some (.slice (some ⟨x1, 0, none⟩) n1 n1)) (first | exact ⟨m0, m1, m2, m3, q0, q1, q2, q3⟩ | exact ⟨k0, k1, k2, k3, l0, l1, l2, l3⟩ | exact ⟨by simpa using c0, by simpa using c1, by simpa using c2, by simpa using c3, by simpa using d0, by simpa using d1, by simpa using d2, by simpa using d3⟩)
    (first
    | (go_at_call 23; refine (eqItem K1 N1 f1 f1 n1 n1 hf1 hf1 (Same.refl f1) JX1.out.reads JP.out (by omega)).mono ?_; rintro e z1 ⟨rfl, b⟩; have LA1 := hid (JA1.out.below b (Nat.le_refl _)); have LX1 := hid (JX1.out.below b (Nat.le_refl _)); have LA2 := hid (JA2.out.below b (Nat.le_refl _)); have LX2 := hid (JX2.out.below b (Nat.le_refl _)); have LA3 := hid (JA3.out.below b (Nat.le_refl _)); have LX3 := hid (JX3.out.below b (Nat.le_refl _)); have LB := hid (JB.out.trans (b.mono JB.out.size)); clear b; obtain ⟨m0, m1, m2, m3⟩ := LA1.out.box; obtain ⟨q0, q1, q2, q3⟩ := LX1.out.box)
    | (go_at_call 21; refine (toItem K1 N1 f1 cap1 (HA1.out.drewN _).reads (by omega)).mono ?_; rintro e u ⟨s, rfl, o, b⟩; have JA1 := hid ((HA1.out.drewN _).below b (Nat.le_refl _)); have JX1 := hid ((HX1.out.drewN _).below b (Nat.le_refl _)); have JA2 := hid ((HA2.out.drewN _).below b (Nat.le_refl _)); have JX2 := hid ((HX2.out.drewN _).below b (Nat.le_refl _)); have JA3 := hid ((HA3.out.drewN _).below b (Nat.le_refl _)); have JX3 := hid ((HX3.out.drewN _).below b (Nat.le_refl _)); have JB := hid (Below.trans (HB.out.trans (Below.drewN z0 _)) (b.mono (HB.out.trans (Below.drewN z0 _)).size)); obtain ⟨_, _, e9, p9, _⟩ := Reads.own o bd1; obtain ⟨rfl, _, rfl⟩ := Value.slice.inj e9; have JP := hid p9; clear p9 e9 o b; obtain ⟨k0, k1, k2, k3⟩ := JA1.out.box; obtain ⟨l0, l1, l2, l3⟩ := JX1.out.box))
  clear c0 c1 c2 c3 d0 d1 d2 d3 k0 k1 k2 k3 l0 l1 l2 l3 m0 m1 m2 m3 q0 q1 q2 q3 JP JB HB JA1 JX1 HA1 HX1 JA2 JX2 HA2 HX2 JA3 JX3 HA3 HX3
  have HA1 := LA1
  have HX1 := LX1
  clear LA1 LX1
  have HA2 := LA2
  have HX2 := LX2
  clear LA2 LX2
  have HA3 := LA3
  have HX3 := LX3
  clear LA3 LX3
  have HB := LB
  clear LB
  obtain ⟨c0, c1, c2, c3⟩ := HA2.out.box
  obtain ⟨d0, d1, d2, d3⟩ := HX2.out.box
  go_wp2_with fail
  go_region_held3 (fun W => W.cell? ⟨w.heap.size + 1, 0, none⟩ = some (.int .i64 K2) ∧ W.cell? ⟨w.heap.size + 1, 1, none⟩ = some (.int .i64 N2) ∧ W.cell? ⟨w.heap.size + 1, 2, none⟩ = some (.float .f64 f2) ∧ W.cell? ⟨w.heap.size + 1, 3, none⟩ = some (.slice ad2 n2 cap2) ∧ W.cell? ⟨G2, 0, none⟩ = some (.int .i64 K2) ∧ W.cell? ⟨G2, 1, none⟩ = some (.int .i64 N2) ∧ W.cell? ⟨G2, 2, none⟩ = some (.float .f64 f2) ∧ W.cell? ⟨G2, 3, none⟩ = some (.slice (some ⟨x2, 0, none⟩) n2 n2)) (first | exact ⟨m0, m1, m2, m3, q0, q1, q2, q3⟩ | exact ⟨k0, k1, k2, k3, l0, l1, l2, l3⟩ | exact ⟨by simpa using c0, by simpa using c1, by simpa using c2, by simpa using c3, by simpa using d0, by simpa using d1, by simpa using d2, by simpa using d3⟩)
    (first
    | (go_at_call 23; refine (eqItem K2 N2 f2 f2 n2 n2 hf2 hf2 (Same.refl f2) JX2.out.reads JP.out (by omega)).mono ?_; rintro e z2 ⟨rfl, b⟩; have LA1 := hid (JA1.out.below b (Nat.le_refl _)); have LX1 := hid (JX1.out.below b (Nat.le_refl _)); have LA2 := hid (JA2.out.below b (Nat.le_refl _)); have LX2 := hid (JX2.out.below b (Nat.le_refl _)); have LA3 := hid (JA3.out.below b (Nat.le_refl _)); have LX3 := hid (JX3.out.below b (Nat.le_refl _)); have LB := hid (JB.out.trans (b.mono JB.out.size)); clear b; obtain ⟨m0, m1, m2, m3⟩ := LA2.out.box; obtain ⟨q0, q1, q2, q3⟩ := LX2.out.box)
    | (go_at_call 21; refine (toItem K2 N2 f2 cap2 (HA2.out.drewN _).reads (by omega)).mono ?_; rintro e u ⟨s, rfl, o, b⟩; have JA1 := hid ((HA1.out.drewN _).below b (Nat.le_refl _)); have JX1 := hid ((HX1.out.drewN _).below b (Nat.le_refl _)); have JA2 := hid ((HA2.out.drewN _).below b (Nat.le_refl _)); have JX2 := hid ((HX2.out.drewN _).below b (Nat.le_refl _)); have JA3 := hid ((HA3.out.drewN _).below b (Nat.le_refl _)); have JX3 := hid ((HX3.out.drewN _).below b (Nat.le_refl _)); have JB := hid (Below.trans (HB.out.trans (Below.drewN z1 _)) (b.mono (HB.out.trans (Below.drewN z1 _)).size)); obtain ⟨_, _, e9, p9, _⟩ := Reads.own o bd2; obtain ⟨rfl, _, rfl⟩ := Value.slice.inj e9; have JP := hid p9; clear p9 e9 o b; obtain ⟨k0, k1, k2, k3⟩ := JA2.out.box; obtain ⟨l0, l1, l2, l3⟩ := JX2.out.box))
  clear c0 c1 c2 c3 d0 d1 d2 d3 k0 k1 k2 k3 l0 l1 l2 l3 m0 m1 m2 m3 q0 q1 q2 q3 JP JB HB JA1 JX1 HA1 HX1 JA2 JX2 HA2 HX2 JA3 JX3 HA3 HX3
  have HA1 := LA1
  have HX1 := LX1
  clear LA1 LX1
  have HA2 := LA2
  have HX2 := LX2
  clear LA2 LX2
  have HA3 := LA3
  have HX3 := LX3
  clear LA3 LX3
  have HB := LB
  clear LB
  obtain ⟨c0, c1, c2, c3⟩ := HA3.out.box
  obtain ⟨d0, d1, d2, d3⟩ := HX3.out.box
  go_wp2_with fail
  go_region_held3 (fun W => W.cell? ⟨w.heap.size + 1 + 1, 0, none⟩ = some (.int .i64 K3) ∧ W.cell? ⟨w.heap.size + 1 + 1, 1, none⟩ = some (.int .i64 N3) ∧ W.cell? ⟨w.heap.size + 1 + 1, 2, none⟩ = some (.float .f64 f3) ∧ W.cell? ⟨w.heap.size + 1 + 1, 3, none⟩ = some (.slice ad3 n3 cap3) ∧ W.cell? ⟨G3, 0, none⟩ = some (.int .i64 K3) ∧ W.cell? ⟨G3, 1, none⟩ = some (.int .i64 N3) ∧ W.cell? ⟨G3, 2, none⟩ = some (.float .f64 f3) ∧ W.cell? ⟨G3, 3, none⟩ = some (.slice (some ⟨x3, 0, none⟩) n3 n3)) (first | exact ⟨m0, m1, m2, m3, q0, q1, q2, q3⟩ | exact ⟨k0, k1, k2, k3, l0, l1, l2, l3⟩ | exact ⟨by simpa using c0, by simpa using c1, by simpa using c2, by simpa using c3, by simpa using d0, by simpa using d1, by simpa using d2, by simpa using d3⟩)
    (first
    | (go_at_call 23; refine (eqItem K3 N3 f3 f3 n3 n3 hf3 hf3 (Same.refl f3) JX3.out.reads JP.out (by omega)).mono ?_; rintro e z3 ⟨rfl, b⟩; have LA1 := hid (JA1.out.below b (Nat.le_refl _)); have LX1 := hid (JX1.out.below b (Nat.le_refl _)); have LA2 := hid (JA2.out.below b (Nat.le_refl _)); have LX2 := hid (JX2.out.below b (Nat.le_refl _)); have LA3 := hid (JA3.out.below b (Nat.le_refl _)); have LX3 := hid (JX3.out.below b (Nat.le_refl _)); have LB := hid (JB.out.trans (b.mono JB.out.size)); clear b; obtain ⟨m0, m1, m2, m3⟩ := LA3.out.box; obtain ⟨q0, q1, q2, q3⟩ := LX3.out.box)
    | (go_at_call 21; refine (toItem K3 N3 f3 cap3 (HA3.out.drewN _).reads (by omega)).mono ?_; rintro e u ⟨s, rfl, o, b⟩; have JA1 := hid ((HA1.out.drewN _).below b (Nat.le_refl _)); have JX1 := hid ((HX1.out.drewN _).below b (Nat.le_refl _)); have JA2 := hid ((HA2.out.drewN _).below b (Nat.le_refl _)); have JX2 := hid ((HX2.out.drewN _).below b (Nat.le_refl _)); have JA3 := hid ((HA3.out.drewN _).below b (Nat.le_refl _)); have JX3 := hid ((HX3.out.drewN _).below b (Nat.le_refl _)); have JB := hid (Below.trans (HB.out.trans (Below.drewN z2 _)) (b.mono (HB.out.trans (Below.drewN z2 _)).size)); obtain ⟨_, _, e9, p9, _⟩ := Reads.own o bd3; obtain ⟨rfl, _, rfl⟩ := Value.slice.inj e9; have JP := hid p9; clear p9 e9 o b; obtain ⟨k0, k1, k2, k3⟩ := JA3.out.box; obtain ⟨l0, l1, l2, l3⟩ := JX3.out.box))
  clear c0 c1 c2 c3 d0 d1 d2 d3 k0 k1 k2 k3 l0 l1 l2 l3 m0 m1 m2 m3 q0 q1 q2 q3 JP JB HB JA1 JX1 HA1 HX1 JA2 JX2 HA2 HX2 JA3 JX3 HA3 HX3
  have HA1 := LA1
  have HX1 := LX1
  clear LA1 LX1
  have HA2 := LA2
  have HX2 := LX2
  clear LA2 LX2
  have HA3 := LA3
  have HX3 := LX3
  clear LA3 LX3
  have HB := LB
  clear LB
  go_wp2_with fail
  go_ret
  exact ⟨rfl, HB.out⟩
end Go.Proofs.Ytggnghnnlemccaa
