/- The laws' eqControl; FnExactControlRead's walk, the program's contract being given. Conditions: none but what the argument's type says. -/
import Derived.Test.YtplbejipkaionaaCc17
namespace Go.Proofs.Ytplbejipkaionaa
open Go.RowKit
set_option maxRecDepth 100000

set_option maxHeartbeats 1600000 in
theorem eqControl (sq ar ls nx pg : Int) (w : World) :
    Calls Try.prog 18 #[.agg #[.int .i64 sq, .int .i64 ar, .int .i64 ls, .int .i64 nx, .int .i64 pg], .agg #[.int .i64 sq, .int .i64 ar, .int .i64 ls, .int .i64 nx, .int .i64 pg]] w fun e w' => e = .returned (.bool true) ∧ Below w.heap.size w w' := by
  have HB := hid (two_below17 w (.cells #[.int .i64 sq, .int .i64 ar, .int .i64 ls, .int .i64 nx, .int .i64 pg] 25) (.cells #[.int .i64 sq, .int .i64 ar, .int .i64 ls, .int .i64 nx, .int .i64 pg] 25))
  have e0 : (sq != sq) = false := by simp
  have e1 : (ar != ar) = false := by simp
  have e2 : (ls != ls) = false := by simp
  have e3 : (nx != nx) = false := by simp
  have e4 : (pg != pg) = false := by simp
  go_enter Try.func18, Try.ntmps18
  go_wp2_with fail
  go_ret
  exact ⟨rfl, HB.out⟩
set_option maxHeartbeats 6400000 in
theorem exactControlRead (hI : ∀ {b off n : Nat} (cap : Nat) {zs : List Int} {w : World}, Reads w (some ⟨b, off, none⟩) n zs → n ≤ 2097152 → n ≤ cap →
      Calls Try.prog 10 #[.slice (some ⟨b, off, none⟩) n cap] w fun e w' => e = .returned (.tuple #[.agg (cellsC (rdC zs)), .bool (rdOkC zs)]) ∧ Below w.heap.size w w')
    {a : Option Addr} {n : Nat} (c : Nat) {zs : List Int} {w : World} (h : Reads w a n zs) (hn0 : n ≤ maxLen) :
    Calls Try.prog 5 #[.slice a n c] w fun e w' => e = .returned (.bool true) ∧ Below w.heap.size w w' := by
  unfold maxLen at hn0
  by_cases hbig : 1048576 < n
  · have q : (1048576 : Int) < (n : Int) := by omega
    go_enter Try.func5, Try.ntmps5
    go_wp2_with fail
    go_ret
    exact ⟨rfl, Below.refl _ _⟩
  have hn : n ≤ 1048576 := by omega
  have q1 : ¬ (1048576 : Int) < (n : Int) := by omega
  have BD := hid h.bd
  have HL := hid h
  have HB := hid (Below.refl w.heap.size w)
  have FI := hid (fun (b off cap : Nat) (W : World) (hr : Reads W (some ⟨b, off, none⟩) n zs) (hc : n ≤ cap) => hI cap hr (show n ≤ 2097152 by omega) hc)
  have FS := hid (fun (b off cap : Nat) (W : World) (hr : Reads W (some ⟨b, off, none⟩) n zs) => spec_ControlRead cap hr (show n ≤ 2097152 by omega))
  obtain ⟨⟨sq, ar, ls, nx, pg⟩, hR⟩ : ∃ R, rdC zs = R := ⟨_, rfl⟩
  obtain ⟨ok, hok⟩ : ∃ ok, rdOkC zs = ok := ⟨_, rfl⟩
  rw [hR, hok] at FI FS
  simp only [cellsC] at FI FS
  have q2 : (ok != ok) = false := by simp
  clear h hbig hR hok hI
  go_enter Try.func5, Try.ntmps5
  go_wp2_with fail
  clear q1
  refine (toByteS_any c HL.out (by omega)).mono ?_
  rintro e w1 ⟨rfl, o, b⟩
  replace HL := hid (HL.out.below b (Nat.le_refl _))
  replace HB := hid (HB.out.trans (b.mono HB.out.size))
  have P1 := hid (own_reads17 o BD.out)
  clear o b
  go_wp2_with fail
  refine (FS.out _ _ n _ P1.out).mono ?_
  rintro e w2 ⟨rfl, b⟩
  replace HL := hid (HL.out.below b (Nat.le_refl _))
  replace HB := hid (HB.out.trans (b.mono HB.out.size))
  clear b P1
  have BX := hid (RowC.mk (heap_alloc_new w2 (.cells #[.int .i64 sq, .int .i64 ar, .int .i64 ls, .int .i64 nx, .int .i64 pg] 25)))
  have b := Below.alloc1 w2 (.cells #[.int .i64 sq, .int .i64 ar, .int .i64 ls, .int .i64 nx, .int .i64 pg] 25)
  replace HL := hid (HL.out.below b (Nat.le_refl _))
  replace HB := hid (HB.out.trans (b.mono HB.out.size))
  clear b
  go_wp2_with fail
  generalize w2.alloc (.cells #[.int .i64 sq, .int .i64 ar, .int .i64 ls, .int .i64 nx, .int .i64 pg] 25) = U2 at *
  obtain ⟨g1, hg1⟩ : ∃ g, w2.heap.size = g := ⟨_, rfl⟩
  rw [hg1] at BX
  try simp only [hg1]
  clear hg1
  refine (toByteS_any c HL.out (by omega)).mono ?_
  rintro e w3 ⟨rfl, o, b⟩
  replace HL := hid (HL.out.below b (Nat.le_refl _))
  replace BX := hid (BX.out.below b (Nat.le_refl _))
  replace HB := hid (HB.out.trans (b.mono HB.out.size))
  have X := hid (own_reads17 o BD.out)
  clear o b
  go_wp2_with fail
  refine (FI.out _ _ n _ X.out (Nat.le_refl _)).mono ?_
  rintro e w4 ⟨rfl, b⟩
  replace HL := hid (HL.out.below b (Nat.le_refl _))
  replace BX := hid (BX.out.below b (Nat.le_refl _))
  replace X := hid (X.out.below b (Nat.le_refl _))
  replace HB := hid (HB.out.trans (b.mono HB.out.size))
  clear b
  have BY := hid (RowC.mk (heap_alloc_new w4 (.cells #[.int .i64 sq, .int .i64 ar, .int .i64 ls, .int .i64 nx, .int .i64 pg] 25)))
  have b := Below.alloc1 w4 (.cells #[.int .i64 sq, .int .i64 ar, .int .i64 ls, .int .i64 nx, .int .i64 pg] 25)
  replace HL := hid (HL.out.below b (Nat.le_refl _))
  replace BX := hid (BX.out.below b (Nat.le_refl _))
  replace X := hid (X.out.below b (Nat.le_refl _))
  replace HB := hid (HB.out.trans (b.mono HB.out.size))
  clear b
  go_wp2_with (first
    | (refine wpList_load_row rfl 25 (.tmp 6) rfl w4.heap.size rfl 25 _ (0, 0) _ BY.out.h Try.underlying25 rfl size_ct ?_)
    | (refine wpList_load_row rfl 25 (.tmp 3) rfl g1 rfl 25 _ (0, 0) _ BX.out.h Try.underlying25 rfl size_ct ?_))
  generalize w4.alloc (.cells #[.int .i64 sq, .int .i64 ar, .int .i64 ls, .int .i64 nx, .int .i64 pg] 25) = U4 at *
  refine (eqControl sq ar ls nx pg _).mono ?_
  rintro e w5 ⟨rfl, b⟩
  replace HL := hid (HL.out.below b (Nat.le_refl _))
  replace X := hid (X.out.below b (Nat.le_refl _))
  replace HB := hid (HB.out.trans (b.mono HB.out.size))
  clear b BX BY
  go_wp2_with fail
  refine (toByteS_any c HL.out (by omega)).mono ?_
  rintro e w6 ⟨rfl, o, b⟩
  replace X := hid (X.out.below b (Nat.le_refl _))
  replace HB := hid (HB.out.trans (b.mono HB.out.size))
  have Y := hid (own_reads17 o BD.out)
  clear o b
  go_wp2_with fail
  refine (eqByteS_any n n X.out Y.out (by omega)).mono ?_
  rintro e w7 ⟨rfl, st⟩
  replace HB := hid (HB.out.trans ((st.below w6.heap.size).mono HB.out.size))
  clear st X Y
  go_wp2_with fail
  go_ret
  exact ⟨rfl, HB.out⟩
end Go.Proofs.Ytplbejipkaionaa
