/- The contracts of the program's SnapOk, oldest, Dead and of the specification's Dead. Conditions: lists of at most 2^62 numbers. -/
import Derived.Test.YtemhmlikfiknlaaNa9
import Derived.Test.YtemhmlikfiknlaaAl
namespace Go.Proofs.Ytemhmlikfiknlaa
open Go.RowKit
set_option maxRecDepth 100000

theorem impl_Dead {ad : Option Addr} {n : Nat} (cap : Nat) {l : List Int} {w : World} (h : ReadsI w ad n l) (hn : n ≤ 4611686018427387904) (x y z : Int) :
    Calls Try.prog 14 #[.slice ad n cap, .int .i64 x, .int .i64 y, .int .i64 z] w fun e w' => e = .returned (.bool (deadB l x y z)) ∧ w' = w := by
  have HX := hid (impl_StatusOf cap h hn x)
  have HY := hid (impl_StatusOf cap h hn y)
  unfold deadB
  clear h
  generalize stOf l x = p at *
  generalize stOf l y = q at *
  by_cases h1 : p = 2
  · subst h1
    go_enter Try.func14, Try.ntmps14
    go_wp2_with fail
    refine (HX.out).mono ?_
    rintro e w1 ⟨rfl, e1⟩
    subst w1
    go_wp2_with fail
    go_ret
    exact ⟨by simp, rfl⟩
  · have g1 : (p == 2) = false := by simpa using h1
    rw [decide_eq_false h1]
    by_cases h2 : q = 1
    · subst h2
      by_cases h3 : y < z
      · rw [decide_eq_true h3]
        go_enter Try.func14, Try.ntmps14
        go_wp2_with fail
        refine (HX.out).mono ?_
        rintro e w1 ⟨rfl, e1⟩
        subst w1
        go_wp2_with fail
        refine (HY.out).mono ?_
        rintro e w1 ⟨rfl, e1⟩
        subst w1
        go_wp2_with fail
        go_ret
        exact ⟨rfl, rfl⟩
      · rw [decide_eq_false h3]
        go_enter Try.func14, Try.ntmps14
        go_wp2_with fail
        refine (HX.out).mono ?_
        rintro e w1 ⟨rfl, e1⟩
        subst w1
        go_wp2_with fail
        refine (HY.out).mono ?_
        rintro e w1 ⟨rfl, e1⟩
        subst w1
        go_wp2_with fail
        go_ret
        exact ⟨by simp [h3], rfl⟩
    · have g2 : (q == 1) = false := by simpa using h2
      rw [decide_eq_false h2]
      go_enter Try.func14, Try.ntmps14
      go_wp2_with fail
      refine (HX.out).mono ?_
      rintro e w1 ⟨rfl, e1⟩
      subst w1
      go_wp2_with fail
      refine (HY.out).mono ?_
      rintro e w1 ⟨rfl, e1⟩
      subst w1
      go_wp2_with fail
      go_ret
      exact ⟨rfl, rfl⟩
theorem spec_Dead {ad : Option Addr} {n : Nat} (cap : Nat) {l : List Int} {w : World} (h : ReadsI w ad n l) (x y z : Int) :
    Calls Try.prog 16 #[.slice ad n cap, .int .i64 x, .int .i64 y, .int .i64 z] w fun e w' => e = .returned (.bool (deadB l x y z)) ∧ w' = w := by
  have HX := hid (spec_StatusOf cap h x)
  have HY := hid (spec_StatusOf cap h y)
  unfold deadB
  clear h
  generalize stOf l x = p at *
  generalize stOf l y = q at *
  by_cases h1 : p = 2
  · subst h1
    go_enter Try.func16, Try.ntmps16
    go_wp2_with fail
    refine (HX.out).mono ?_
    rintro e w1 ⟨rfl, e1⟩
    subst w1
    go_wp2_with fail
    go_ret
    exact ⟨by simp, rfl⟩
  · have g1 : (p == 2) = false := by simpa using h1
    rw [decide_eq_false h1]
    by_cases h2 : q = 1
    · subst h2
      by_cases h3 : y < z
      · rw [decide_eq_true h3]
        go_enter Try.func16, Try.ntmps16
        go_wp2_with fail
        refine (HX.out).mono ?_
        rintro e w1 ⟨rfl, e1⟩
        subst w1
        go_wp2_with fail
        refine (HY.out).mono ?_
        rintro e w1 ⟨rfl, e1⟩
        subst w1
        go_wp2_with fail
        go_ret
        exact ⟨rfl, rfl⟩
      · rw [decide_eq_false h3]
        go_enter Try.func16, Try.ntmps16
        go_wp2_with fail
        refine (HX.out).mono ?_
        rintro e w1 ⟨rfl, e1⟩
        subst w1
        go_wp2_with fail
        refine (HY.out).mono ?_
        rintro e w1 ⟨rfl, e1⟩
        subst w1
        go_wp2_with fail
        go_ret
        exact ⟨by simp [h3], rfl⟩
    · have g2 : (q == 1) = false := by simpa using h2
      rw [decide_eq_false h2]
      go_enter Try.func16, Try.ntmps16
      go_wp2_with fail
      refine (HX.out).mono ?_
      rintro e w1 ⟨rfl, e1⟩
      subst w1
      go_wp2_with fail
      refine (HY.out).mono ?_
      rintro e w1 ⟨rfl, e1⟩
      subst w1
      go_wp2_with fail
      go_ret
      exact ⟨rfl, rfl⟩
theorem lastAt_bd {S : Int} {R : List Int} {k : Nat} (hk : k ≤ R.length) (hS : 1 ≤ S) (h : ∀ j, j < k → lastAt R j < R.getD j 0 ∧ R.getD j 0 < S) : 0 ≤ lastAt R k ∧ lastAt R k < S := by
  induction k with
  | zero => simp [lastAt]; omega
  | succ k ih =>
    have h1 := ih (by omega) (fun j hj => h j (by omega))
    have h2 := h k (by omega)
    rw [show lastAt R (k + 1) = R.getD k 0 by simp [lastAt]]
    omega
theorem lastAt_succ (R : List Int) (k : Nat) : lastAt R (k + 1) = R.getD k 0 := by simp [lastAt]

set_option maxHeartbeats 1600000 in
theorem impl_SnapOk (S : Int) {ad : Option Addr} {n : Nat} (cap : Nat) {R : List Int} {w : World} (h : ReadsI w ad n R) (hn : n ≤ 4611686018427387904) :
    Calls Try.prog 21 #[.agg #[.int .i64 S, .slice ad n cap]] w fun e w' => e = .returned (.bool (snapOk S R)) ∧ Below w.heap.size w w' := by
  have hl := h.len
  have HB := hid (Below.alloc1 w (.cells #[.int .i64 S, .slice ad n cap] 32))
  have HR := hid (h.below HB.out (Nat.le_refl _))
  clear h
  by_cases hS : 1 ≤ S ∧ S ≤ 400
  · have hS1 := hS.1
    have hS2 := hS.2
    have HP := hid hS
    clear hS
    go_enter Try.func21, Try.ntmps21
    go_wp2_with fail
    refine (impl_in8 _ _ _ _).mono ?_
    rintro e w1 ⟨rfl, e1⟩
    subst w1
    rw [decide_eq_true HP.out]
    have hc0 : (w.alloc (.cells #[.int .i64 S, .slice ad n cap] 32)).cell? ⟨w.heap.size, 0, none⟩ = some (.int .i64 S) := by rw [cell_of_row _ _ _ _ _ _ (heap_alloc_new w _)]; rfl
    have hc1 : (w.alloc (.cells #[.int .i64 S, .slice ad n cap] 32)).cell? ⟨w.heap.size, 1, none⟩ = some (.slice ad n cap) := by rw [cell_of_row _ _ _ _ _ _ (heap_alloc_new w _)]; rfl
    generalize w.alloc (.cells #[.int .i64 S, .slice ad n cap] 32) = W at *
    go_wp2_with fail
    go_loopw [3, 5, 13] (fun l _ i wr => ∃ k : Nat, k ≤ n ∧ i = .int .i64 k ∧ l = .int .i64 (lastAt R k) ∧ Hid (∀ j, j < k → lastAt R j < R.getD j 0 ∧ R.getD j 0 < S) ∧ wr = W) (fun _ _ i _ => n - (intOf i).toNat)
    case atStart => exact ⟨0, Nat.zero_le _, rfl, rfl, hid (fun j hj => by omega), rfl⟩
    case round =>
      obtain ⟨k, hk, rfl, rfl, HA, rfl⟩ := hrel
      by_cases hlt : k < n
      · have hlt' : (k : Int) < (n : Int) := by omega
        have hbd := lastAt_bd (R := R) (k := k) (by omega) hS1 HA.out
        obtain ⟨b, off, rfl, hc⟩ := HR.out.at hlt
        have HS := hid (lastAt_succ R k)
        have HQ := hid (fun (q : ¬ (lastAt R k < R.getD k 0 ∧ R.getD k 0 < S)) => snapOk_bad (S := S) (R := R) (i := k) (by omega) q)
        have HN := hid (fun (q : lastAt R k < R.getD k 0 ∧ R.getD k 0 < S) (j : Nat) (hj : j < k + 1) => show lastAt R j < R.getD j 0 ∧ R.getD j 0 < S from by
          by_cases e : j = k
          · subst e; exact q
          · exact HA.out j (by omega))
        obtain ⟨z, hz⟩ : ∃ z, lastAt R k = z := ⟨_, rfl⟩
        obtain ⟨x, hx⟩ : ∃ x, R.getD k 0 = x := ⟨_, rfl⟩
        rw [hz] at hbd HQ HN ⊢
        rw [hx] at hc HS HQ HN
        have hz0 := hbd.1
        have hz1 := hbd.2
        clear hbd hz hx HA
        go_wp2_with fail
        refine (impl_in8 _ _ _ _).mono ?_
        rintro e w1 ⟨rfl, e1⟩
        subst w1
        by_cases hb : z < x ∧ x < S
        · rw [decide_eq_true (by omega)]
          go_wp2_with fail
          go_roundw
          case rel => exact ⟨k + 1, by omega, by go_num, by rw [HS.out], hid (HN.out hb), by trivial⟩
          case measure => simp [intOf]; omega
        · rw [decide_eq_false (by omega)]
          go_wp2_with fail
          go_ret
          rw [HQ.out hb]
          exact ⟨rfl, HB.out⟩
      · have hlt' : ¬ (k : Int) < (n : Int) := by omega
        have hkn : k = n := by omega
        go_wp2_with fail
        go_ret
        rw [snapOk_yes HP.out (fun i hi => HA.out i (by omega))]
        exact ⟨rfl, HB.out⟩
  · rw [snapOk_self hS]
    go_enter Try.func21, Try.ntmps21
    go_wp2_with fail
    refine (impl_in8 _ _ _ _).mono ?_
    rintro e w1 ⟨rfl, e1⟩
    subst w1
    rw [decide_eq_false hS]
    go_wp2_with fail
    go_ret
    exact ⟨rfl, HB.out⟩

/-- The oldest of a snapshot. -/
def oldS (S : Int) (R : List Int) : Int := if R.length = 0 then S else R.getD 0 0
theorem impl_oldest (S : Int) {ad : Option Addr} {n : Nat} (cap : Nat) {R : List Int} {w : World} (h : ReadsI w ad n R) :
    Calls Try.prog 36 #[.agg #[.int .i64 S, .slice ad n cap]] w fun e w' => e = .returned (.int .i64 (oldS S R)) ∧ Below w.heap.size w w' := by
  have hl := h.len
  have HB := hid (Below.alloc1 w (.cells #[.int .i64 S, .slice ad n cap] 32))
  have hr := h.below HB.out (Nat.le_refl _)
  by_cases h0 : n = 0
  · rw [show oldS S R = S by unfold oldS; rw [if_pos (by omega)]]
    subst h0
    go_enter Try.func36, Try.ntmps36
    go_wp2_with fail
    go_ret
    exact ⟨rfl, HB.out⟩
  · rw [show oldS S R = R.getD 0 0 by unfold oldS; rw [if_neg (by omega)]]
    obtain ⟨b, off, rfl, hc⟩ := hr.at (k := 0) (by omega)
    have g1 : ((n : Int) == 0) = false := by simpa using h0
    have g2 : (0 : Int) < (n : Int) := by omega
    have g3 : 0 < n := by omega
    rw [Nat.add_zero] at hc
    generalize R.getD 0 0 = x at *
    clear hr h hl
    go_enter Try.func36, Try.ntmps36
    go_wp2_with fail
    go_ret
    exact ⟨rfl, HB.out⟩
end Go.Proofs.Ytemhmlikfiknlaa
