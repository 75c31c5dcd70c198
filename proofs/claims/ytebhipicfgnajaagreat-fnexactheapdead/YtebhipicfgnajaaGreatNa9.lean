/- Snapshots in plain mathematics. No conditions. -/
import Derived.Test.YtebhipicfgnajaaGreatSa8
namespace Go.Proofs.YtebhipicfgnajaaGreat
open Go.RowKit
set_option maxRecDepth 100000

/-- Ascending behind 'last', all below S. -/
def ascB (S : Int) : Int → List Int → Bool
  | _, [] => true
  | last, x :: xs => decide (last < x ∧ x < S) && ascB S x xs
def snapOk (S : Int) (R : List Int) : Bool := decide (1 ≤ S ∧ S ≤ 400) && ascB S 0 R
theorem ascB_len (S : Int) : ∀ (last : Int) (R : List Int), ascB S last R = true → last < S → last + R.length < S
  | last, [], _, h => by simpa using h
  | last, x :: xs, h, _ => by
    simp only [ascB, Bool.and_eq_true, decide_eq_true_eq] at h
    have := ascB_len S x xs h.2 h.1.2
    simp only [List.length_cons]; omega
theorem snapOk_len {S : Int} {R : List Int} (h : snapOk S R = true) : R.length ≤ 399 := by
  unfold snapOk at h
  simp only [Bool.and_eq_true, decide_eq_true_eq] at h
  have := ascB_len S 0 R h.2 (by omega)
  omega
/-- The number that stands ahead of place k. -/
def lastAt (R : List Int) (k : Nat) : Int := if k = 0 then 0 else R.getD (k - 1) 0
theorem ascB_iff (S : Int) : ∀ (last : Int) (R : List Int), ascB S last R = true ↔ ∀ i, i < R.length → (if i = 0 then last else R.getD (i - 1) 0) < R.getD i 0 ∧ R.getD i 0 < S
  | last, [] => by simp [ascB]
  | last, x :: xs => by
    simp only [ascB, Bool.and_eq_true, decide_eq_true_eq]
    rw [ascB_iff S x xs]
    constructor
    · rintro ⟨h0, h⟩ i hi
      cases i with
      | zero => simpa using h0
      | succ j =>
        have := h j (by simpa using hi)
        cases j with
        | zero => simpa using this
        | succ m => simpa using this
    · intro h
      refine ⟨by simpa using h 0 (by simp), fun i hi => ?_⟩
      have := h (i + 1) (by simpa using hi)
      cases i with
      | zero => simpa using this
      | succ m => simpa using this
theorem asc_iff (S : Int) (R : List Int) : ascB S 0 R = true ↔ ∀ i, i < R.length → lastAt R i < R.getD i 0 ∧ R.getD i 0 < S := ascB_iff S 0 R
theorem asc_bad {S : Int} {R : List Int} {i : Nat} (hi : i < R.length) (h : ¬ (lastAt R i < R.getD i 0 ∧ R.getD i 0 < S)) : ascB S 0 R = false := by
  cases e : ascB S 0 R with
  | false => rfl
  | true => exact absurd ((asc_iff S R).1 e i hi) h
theorem snapOk_bad {S : Int} {R : List Int} {i : Nat} (hi : i < R.length) (h : ¬ (lastAt R i < R.getD i 0 ∧ R.getD i 0 < S)) : snapOk S R = false := by unfold snapOk; rw [asc_bad hi h, Bool.and_false]
theorem snapOk_self {S : Int} {R : List Int} (h : ¬ (1 ≤ S ∧ S ≤ 400)) : snapOk S R = false := by unfold snapOk; rw [decide_eq_false h, Bool.false_and]
theorem snapOk_yes {S : Int} {R : List Int} (h : 1 ≤ S ∧ S ≤ 400) (h2 : ∀ i, i < R.length → lastAt R i < R.getD i 0 ∧ R.getD i 0 < S) : snapOk S R = true := by
  unfold snapOk; rw [decide_eq_true h, (asc_iff S R).2 h2]; rfl
theorem snapOk_long {S : Int} {R : List Int} (h : 400 < R.length) : snapOk S R = false := by
  cases e : snapOk S R with
  | false => rfl
  | true => have := snapOk_len e; omega
theorem snapOk_of {S : Int} {R : List Int} (h : snapOk S R = true) : (1 ≤ S ∧ S ≤ 400) ∧ ∀ i, i < R.length → lastAt R i < R.getD i 0 ∧ R.getD i 0 < S := by
  unfold snapOk at h
  simp only [Bool.and_eq_true, decide_eq_true_eq] at h
  exact ⟨h.1, (asc_iff S R).1 h.2⟩
/-- All of an ascending list lie in 1 .. S - 1, none below its first. -/
theorem asc_ge {S : Int} {R : List Int} (h : ∀ i, i < R.length → lastAt R i < R.getD i 0 ∧ R.getD i 0 < S) : ∀ i, i < R.length → 1 ≤ R.getD i 0 ∧ R.getD 0 0 ≤ R.getD i 0 := by
  intro i
  induction i with
  | zero => intro hi; have := (h 0 hi).1; simp only [lastAt, if_pos] at this; omega
  | succ j ih =>
    intro hi
    have h1 := ih (by omega)
    have h2 := (h (j + 1) hi).1
    simp only [lastAt, Nat.succ_ne_zero, if_false, Nat.add_sub_cancel] at h2
    omega

def seesB (S : Int) (R l : List Int) (x : Int) : Bool := snapOk S R && (decide (x = S) || (decide (1 ≤ x ∧ x < S) && !R.contains x && decide (stOf l x = 1)))
def visB (S : Int) (R l : List Int) (x y : Int) : Bool := seesB S R l x && !seesB S R l y
def deadB (l : List Int) (x y h : Int) : Bool := decide (stOf l x = 2) || (decide (stOf l y = 1) && decide (y < h))
/-- The least of a number and what a snapshot holds. -/
def leastS (m : Int) (p : Int × List Int) : Int := let a := if p.1 < m then p.1 else m; if 0 < p.2.length ∧ p.2.getD 0 0 < a then p.2.getD 0 0 else a
def horP (ps : List (Int × List Int)) (next : Int) : Int :=
  if (1 ≤ next ∧ next ≤ 401) ∧ ps.length ≤ 400 ∧ ps.all (fun p => snapOk p.1 p.2) = true then ps.foldl leastS next else 0
theorem leastS_le (m : Int) (p : Int × List Int) : leastS m p ≤ m ∧ leastS m p ≤ p.1 ∧ (0 < p.2.length → leastS m p ≤ p.2.getD 0 0) := by
  unfold leastS
  simp only
  by_cases h1 : p.1 < m
  · rw [if_pos h1]
    by_cases h2 : 0 < p.2.length ∧ p.2.getD 0 0 < p.1
    · rw [if_pos h2]; exact ⟨by omega, by omega, fun _ => Int.le_refl _⟩
    · rw [if_neg h2]; exact ⟨by omega, Int.le_refl _, fun h => by omega⟩
  · rw [if_neg h1]
    by_cases h2 : 0 < p.2.length ∧ p.2.getD 0 0 < m
    · rw [if_pos h2]; exact ⟨by omega, by omega, fun _ => Int.le_refl _⟩
    · rw [if_neg h2]; exact ⟨Int.le_refl _, by omega, fun h => by omega⟩
theorem foldl_le : ∀ (ps : List (Int × List Int)) (m : Int), ps.foldl leastS m ≤ m ∧ ∀ p ∈ ps, ps.foldl leastS m ≤ p.1 ∧ (0 < p.2.length → ps.foldl leastS m ≤ p.2.getD 0 0)
  | [], m => ⟨Int.le_refl _, fun p hp => by cases hp⟩
  | q :: ps, m => by
    have ih := foldl_le ps (leastS m q)
    have hq := leastS_le m q
    rw [List.foldl_cons]
    refine ⟨Int.le_trans ih.1 hq.1, fun p hp => ?_⟩
    rcases List.mem_cons.1 hp with rfl | hp
    · exact ⟨Int.le_trans ih.1 hq.2.1, fun h => Int.le_trans ih.1 (hq.2.2 h)⟩
    · exact ih.2 p hp
theorem horP_le {ps : List (Int × List Int)} {next : Int} (h : horP ps next ≠ 0) {p : Int × List Int} (hp : p ∈ ps) : snapOk p.1 p.2 = true ∧ horP ps next ≤ p.1 ∧ ∀ i, i < p.2.length → horP ps next ≤ p.2.getD i 0 := by
  unfold horP at h ⊢
  by_cases hc : (1 ≤ next ∧ next ≤ 401) ∧ ps.length ≤ 400 ∧ ps.all (fun p => snapOk p.1 p.2) = true
  · rw [if_pos hc]
    have hall := List.all_eq_true.1 hc.2.2 p hp
    have hf := (foldl_le ps next).2 p hp
    refine ⟨hall, hf.1, fun i hi => ?_⟩
    have := (asc_ge (snapOk_of hall).2 i hi).2
    have := hf.2 (by omega)
    omega
  · rw [if_neg hc] at h; exact absurd rfl h
theorem stOf_pos {l : List Int} {y : Int} (h : stOf l y = 1) : 1 ≤ y := by
  unfold stOf at h
  by_cases hc : 1 ≤ y ∧ y ≤ 400 ∧ y < (l.length : Int) ∧ 0 ≤ l.getD y.toNat 0 ∧ l.getD y.toNat 0 ≤ 2
  · exact hc.1
  · rw [if_neg hc] at h; omega
theorem contains_at {R : List Int} {y : Int} (h : R.contains y = true) : ∃ i, i < R.length ∧ R.getD i 0 = y := by
  rw [List.contains_iff_mem] at h
  obtain ⟨i, hi, e⟩ := List.getElem_of_mem h
  exact ⟨i, hi, by rw [List.getD_eq_getElem?_getD, List.getElem?_eq_getElem hi, ← e]; rfl⟩
/-- What is dead by the horizon is visible to none but to one whose own it is. -/
theorem unseen {ps : List (Int × List Int)} {next : Int} {l : List Int} {x y : Int} (h : horP ps next ≠ 0) {p : Int × List Int} (hp : p ∈ ps) (hd : deadB l x y (horP ps next) = true) (hx : p.1 ≠ x) : visB p.1 p.2 l x y = false := by
  obtain ⟨h1, h2, h3⟩ := horP_le h hp
  unfold deadB at hd
  simp only [Bool.or_eq_true, Bool.and_eq_true, decide_eq_true_eq] at hd
  unfold visB
  rcases hd with hd | ⟨hd, hy⟩
  · have : seesB p.1 p.2 l x = false := by
      unfold seesB
      rw [decide_eq_false (show ¬ x = p.1 from fun e => hx e.symm), decide_eq_false (show ¬ stOf l x = 1 by omega)]
      simp
    rw [this]; rfl
  · have : seesB p.1 p.2 l y = true := by
      have hy1 := stOf_pos hd
      have hc : p.2.contains y = false := by
        cases e : p.2.contains y with
        | false => rfl
        | true =>
          obtain ⟨i, hi, e2⟩ := contains_at e
          have := h3 i hi
          omega
      unfold seesB
      rw [h1, hc, decide_eq_true (show 1 ≤ y ∧ y < p.1 by omega), decide_eq_true hd]
      simp
    rw [this]; simp
theorem sees_self {S : Int} {R l : List Int} (h : snapOk S R = true) : seesB S R l S = true := by unfold seesB; rw [h]; simp
end Go.Proofs.YtebhipicfgnajaaGreat
