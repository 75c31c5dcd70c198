/- FnExactWaitCloses's walk, the program's contract being given. Conditions: none but what the arguments' types say. -/
import Derived.Test.YtknloabdfkidiaaWd12
namespace Go.Proofs.Ytknloabdfkidiaa
open Go.RowKit
set_option maxRecDepth 100000

set_option maxHeartbeats 6400000 in
theorem exactWaitCloses (hI : ∀ {a : Option Addr} {n : Nat} (c : Nat) {l : List Wt} {w : World}, ReadsW2 w a n l → n ≤ 1048576 → ∀ (x y : Int), i64b x → i64b y → Calls Try.prog 12 #[.slice a n c, .int .i64 x, .int .i64 y] w fun e w' => e = .returned (.bool (closeW l x y)) ∧ Below w.heap.size w w')
    {a : Option Addr} {n : Nat} (c : Nat) {l : List Wt} {w : World} (h : ReadsW2 w a n l) (hn0 : n ≤ maxLen) (x y : Int) (hx : i64b x) (hy : i64b y) :
    Calls Try.prog 7 #[.slice a n c, .int .i64 x, .int .i64 y] w fun e w' => e = .returned (.bool true) ∧ Below w.heap.size w w' := by
  unfold maxLen at hn0
  have HX := hid hx
  have HY := hid hy
  clear hx hy
  by_cases hbig : (1048576 : Int) < (n : Int)
  · go_enter Try.func7, Try.ntmps7
    go_wp2_with fail
    refine (szWaitS a n c 1048576 (by omega) (by omega) (by omega) w).mono ?_
    rintro e w1 ⟨rfl, e1⟩
    subst e1
    rw [if_pos hbig]
    go_wp2_with fail
    go_ret
    exact ⟨rfl, Below.refl _ _⟩
  have hn : n ≤ 1048576 := by omega
  have HL := hid h
  have HBD := hid h.bd
  have HB := hid (Below.refl w.heap.size w)
  clear h
  go_enter Try.func7, Try.ntmps7
  go_wp2_with fail
  refine (szWaitS a n c 1048576 (by omega) (by omega) (by omega) w).mono ?_
  rintro e w1 ⟨rfl, e1⟩
  subst e1
  rw [if_neg (show ¬ (1048576 : Int) < (n : Int) by omega)]
  have q0 : ¬ (1048576 : Int) - (n : Int) < 0 := by omega
  go_wp2_with fail
  clear q0
  refine (toWaitS c (HL.out.below HB.out (Nat.le_refl _)) (by omega)).mono ?_
  rintro e w2 ⟨rfl, o, b⟩
  have OO := hid o
  replace HB := hid (HB.out.trans (b.mono HB.out.size))
  clear o b
  go_wp2_with fail
  refine (spec_WaitCloses n (ReadsW2.own OO.out HBD.out) (by omega) x y).mono ?_
  rintro e w3 ⟨rfl, b⟩
  replace HB := hid (HB.out.trans (b.mono HB.out.size))
  clear b OO
  obtain ⟨S, hS⟩ : ∃ S, (closeW l x y) = S := ⟨_, rfl⟩
  rw [hS]
  have HS := hid hS
  have q2 : (S != S) = false := by simp
  clear hS
  go_wp2_with fail
  refine (toWaitS c (HL.out.below HB.out (Nat.le_refl _)) (by omega)).mono ?_
  rintro e w4 ⟨rfl, o, b⟩
  have OX := hid o
  replace HB := hid (HB.out.trans (b.mono HB.out.size))
  clear o b
  go_wp2_with fail
  refine (hI n (ReadsW2.own OX.out HBD.out) (by omega) x y HX.out HY.out).mono ?_
  rintro e w5 ⟨rfl, b⟩
  replace OX := hid (owns_below b (Nat.le_refl _) OX.out)
  replace HB := hid (HB.out.trans (b.mono HB.out.size))
  clear b
  rw [HS.out]
  go_wp2_with fail
  refine (toWaitS c (HL.out.below HB.out (Nat.le_refl _)) (by omega)).mono ?_
  rintro e w6 ⟨rfl, o, b⟩
  have OY := hid o
  replace OX := hid (owns_below b (Nat.le_refl _) OX.out)
  replace HB := hid (HB.out.trans (b.mono HB.out.size))
  clear o b
  go_wp2_with fail
  refine (eqWaitS n n (ReadsW2.own OX.out HBD.out) (ReadsW2.own OY.out HBD.out) (by omega)).mono ?_
  rintro e w7 ⟨rfl, b⟩
  replace HB := hid (HB.out.trans (b.mono HB.out.size))
  clear b
  go_wp2_with fail
  go_ret
  exact ⟨rfl, HB.out⟩
end Go.Proofs.Ytknloabdfkidiaa
