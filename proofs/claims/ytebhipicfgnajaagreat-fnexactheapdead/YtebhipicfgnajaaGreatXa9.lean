/- The contracts of the program's SnapOk, oldest, Dead and of the specification's Dead. Conditions: lists of at most 2^62 numbers. -/
import Derived.Test.YtebhipicfgnajaaGreatNa9
import Derived.Test.YtebhipicfgnajaaGreatMga
namespace Go.Proofs.YtebhipicfgnajaaGreat
open Go.RowKit
set_option maxRecDepth 100000

theorem impl_Dead {ad : Option Addr} {n : Nat} (cap : Nat) {l : List Int} {w : World} (h : ReadsI w ad n l) (hn : n ≤ 4611686018427387904) (x y z : Int) :
    Calls Tryz.prog 71 #[.slice ad n cap, .int .i64 x, .int .i64 y, .int .i64 z] w fun e w' => e = .returned (.bool (deadB l x y z)) ∧ w' = w := by
  have HX := hid (impl_StatusOf cap h hn x)
  have HY := hid (impl_StatusOf cap h hn y)
  unfold deadB
  clear h
  generalize stOf l x = p at *
  generalize stOf l y = q at *
  by_cases h1 : p = 2
  · subst h1
    go_enter Tryz.func71, Tryz.ntmps71
    go_wp2_with fail
    refine (HX.out).mono ?_
    rintro e w1 ⟨rfl, e1⟩
    subst w1
    go_wp2_with fail
    go_ret
    exact ⟨by simp, rfl⟩
  · have g1 : (p == 2) = false := by simpa using h1
    rw [decide_eq_false h1]
    by_cases h2 : q = 1
    · subst h2
      by_cases h3 : y < z
      · rw [decide_eq_true h3]
        go_enter Tryz.func71, Tryz.ntmps71
        go_wp2_with fail
        refine (HX.out).mono ?_
        rintro e w1 ⟨rfl, e1⟩
        subst w1
        go_wp2_with fail
        refine (HY.out).mono ?_
        rintro e w1 ⟨rfl, e1⟩
        subst w1
        go_wp2_with fail
        go_ret
        exact ⟨rfl, rfl⟩
      · rw [decide_eq_false h3]
        go_enter Tryz.func71, Tryz.ntmps71
        go_wp2_with fail
        refine (HX.out).mono ?_
        rintro e w1 ⟨rfl, e1⟩
        subst w1
        go_wp2_with fail
        refine (HY.out).mono ?_
        rintro e w1 ⟨rfl, e1⟩
        subst w1
        go_wp2_with fail
        go_ret
        exact ⟨by simp [h3], rfl⟩
    · have g2 : (q == 1) = false := by simpa using h2
      rw [decide_eq_false h2]
      go_enter Tryz.func71, Tryz.ntmps71
      go_wp2_with fail
      refine (HX.out).mono ?_
      rintro e w1 ⟨rfl, e1⟩
      subst w1
      go_wp2_with fail
      refine (HY.out).mono ?_
      rintro e w1 ⟨rfl, e1⟩
      subst w1
      go_wp2_with fail
      go_ret
      exact ⟨rfl, rfl⟩
theorem spec_Dead {ad : Option Addr} {n : Nat} (cap : Nat) {l : List Int} {w : World} (h : ReadsI w ad n l) (x y z : Int) :
    Calls Tryz.prog 19 #[.slice ad n cap, .int .i64 x, .int .i64 y, .int .i64 z] w fun e w' => e = .returned (.bool (deadB l x y z)) ∧ w' = w := by
  have HX := hid (spec_StatusOf cap h x)
  have HY := hid (spec_StatusOf cap h y)
  unfold deadB
  clear h
  generalize stOf l x = p at *
  generalize stOf l y = q at *
  by_cases h1 : p = 2
  · subst h1
    go_enter Tryz.func19, Tryz.ntmps19
    go_wp2_with fail
    refine (HX.out).mono ?_
    rintro e w1 ⟨rfl, e1⟩
    subst w1
    go_wp2_with fail
    go_ret
    exact ⟨by simp, rfl⟩
  · have g1 : (p == 2) = false := by simpa using h1
    rw [decide_eq_false h1]
    by_cases h2 : q = 1
    · subst h2
      by_cases h3 : y < z
      · rw [decide_eq_true h3]
        go_enter Tryz.func19, Tryz.ntmps19
        go_wp2_with fail
        refine (HX.out).mono ?_
        rintro e w1 ⟨rfl, e1⟩
        subst w1
        go_wp2_with fail
        refine (HY.out).mono ?_
        rintro e w1 ⟨rfl, e1⟩
        subst w1
        go_wp2_with fail
        go_ret
        exact ⟨rfl, rfl⟩
      · rw [decide_eq_false h3]
        go_enter Tryz.func19, Tryz.ntmps19
        go_wp2_with fail
        refine (HX.out).mono ?_
        rintro e w1 ⟨rfl, e1⟩
        subst w1
        go_wp2_with fail
        refine (HY.out).mono ?_
        rintro e w1 ⟨rfl, e1⟩
        subst w1
        go_wp2_with fail
        go_ret
        exact ⟨by simp [h3], rfl⟩
    · have g2 : (q == 1) = false := by simpa using h2
      rw [decide_eq_false h2]
      go_enter Tryz.func19, Tryz.ntmps19
      go_wp2_with fail
      refine (HX.out).mono ?_
      rintro e w1 ⟨rfl, e1⟩
      subst w1
      go_wp2_with fail
      refine (HY.out).mono ?_
      rintro e w1 ⟨rfl, e1⟩
      subst w1
      go_wp2_with fail
      go_ret
      exact ⟨rfl, rfl⟩
theorem lastAt_bd {S : Int} {R : List Int} {k : Nat} (hk : k ≤ R.length) (hS : 1 ≤ S) (h : ∀ j, j < k → lastAt R j < R.getD j 0 ∧ R.getD j 0 < S) : 0 ≤ lastAt R k ∧ lastAt R k < S := by
  induction k with
  | zero => simp [lastAt]; omega
  | succ k ih =>
    have h1 := ih (by omega) (fun j hj => h j (by omega))
    have h2 := h k (by omega)
    rw [show lastAt R (k + 1) = R.getD k 0 by simp [lastAt]]
    omega
theorem lastAt_succ (R : List Int) (k : Nat) : lastAt R (k + 1) = R.getD k 0 := by simp [lastAt]

/-- The oldest of a snapshot. -/
def oldS (S : Int) (R : List Int) : Int := if R.length = 0 then S else R.getD 0 0
end Go.Proofs.YtebhipicfgnajaaGreat
