/- Heaps, plain: what is one, its rows, where bytes would come. No program, no conditions. -/
import Derived.Test.YtebhipicfgnajaaGreatMga
import Derived.Test.YtebhipicfgnajaaGreatMgc
namespace Go.Proofs.YtebhipicfgnajaaGreat
open Go.RowKit
set_option maxRecDepth 100000

theorem box1 (w : World) (v : Value) (t : TypeId) : (w.alloc (.cells #[v] t)).cell? ⟨w.heap.size, 0, none⟩ = some v := by
  rw [cell_of_row _ _ _ _ _ _ (heap_alloc_new w _)]; rfl

def slotOk (z : List Int) : Bool := decide (z.length = 0) || (readT z).ok
def okPg (p : Pg) : Bool := okP p.1 p.2 && p.2.all slotOk
def okH (ps : List Pg) : Bool := decide (ps.length ≤ 16) && ps.all okPg
theorem all_at {α : Type} (f : α → Bool) (xs : List α) (d : α) : xs.all f = true ↔ ∀ i, i < xs.length → f (xs.getD i d) = true := by
  rw [List.all_eq_true]
  constructor
  · intro h i hi
    rw [List.getD_eq_getElem?_getD, List.getElem?_eq_getElem hi]
    exact h _ (List.getElem_mem hi)
  · intro h x hx
    obtain ⟨i, hi, e⟩ := List.getElem_of_mem hx
    have := h i hi
    rw [List.getD_eq_getElem?_getD, List.getElem?_eq_getElem hi, Option.getD_some, e] at this
    exact this
theorem okH_long {ps : List Pg} (h : 16 < ps.length) : okH ps = false := by unfold okH; rw [decide_eq_false (by omega)]; rfl
theorem okH_bad {ps : List Pg} {i : Nat} (hi : i < ps.length) (h : okPg (ps.getD i pg0) = false) : okH ps = false := by
  cases e : okH ps with
  | false => rfl
  | true =>
    unfold okH at e
    rw [Bool.and_eq_true] at e
    have := (all_at okPg ps pg0).1 e.2 i hi
    rw [h] at this; cases this
theorem okH_yes {ps : List Pg} (h : ps.length ≤ 16) (ha : ∀ i, i < ps.length → okPg (ps.getD i pg0) = true) : okH ps = true := by
  unfold okH; rw [decide_eq_true h, (all_at okPg ps pg0).2 ha]; rfl
theorem okH_of {ps : List Pg} (h : okH ps = true) : ps.length ≤ 16 ∧ ∀ i, i < ps.length → okPg (ps.getD i pg0) = true := by
  unfold okH at h
  rw [Bool.and_eq_true] at h
  exact ⟨of_decide_eq_true h.1, (all_at okPg ps pg0).1 h.2⟩
theorem okPg_p {A : Int} {ss : List (List Int)} (h : okP A ss = false) : okPg (A, ss) = false := by unfold okPg; simp only; rw [h]; rfl
theorem okPg_bad {A : Int} {ss : List (List Int)} {i : Nat} (hi : i < ss.length) (h : slotOk (ss.getD i []) = false) : okPg (A, ss) = false := by
  cases e : okPg (A, ss) with
  | false => rfl
  | true =>
    unfold okPg at e
    rw [Bool.and_eq_true] at e
    have := (all_at slotOk ss []).1 e.2 i hi
    rw [h] at this; cases this
theorem okPg_yes {A : Int} {ss : List (List Int)} (h : okP A ss = true) (ha : ∀ i, i < ss.length → slotOk (ss.getD i []) = true) : okPg (A, ss) = true := by
  unfold okPg; simp only; rw [h, (all_at slotOk ss []).2 ha]; rfl
theorem okPg_of {p : Pg} (h : okPg p = true) : okP p.1 p.2 = true ∧ ∀ i, i < p.2.length → slotOk (p.2.getD i []) = true := by
  unfold okPg at h
  rw [Bool.and_eq_true] at h
  exact ⟨h.1, (all_at slotOk p.2 []).1 h.2⟩
/-- Where n bytes would come, from page i on. -/
def placeFrom (n : Int) : Nat → List Pg → Option (Nat × Int)
  | _, [] => none
  | i, p :: ps => if 0 ≤ placeP p.1 p.2 n then some (i, placeP p.1 p.2 n) else placeFrom n (i + 1) ps
def placeH (ps : List Pg) (n : Int) : Int × Int :=
  if okH ps = true ∧ 1 ≤ n ∧ n ≤ 92 then
    match placeFrom n 0 ps with
    | some (i, k) => ((i : Int), k)
    | none => if ps.length < 16 then ((ps.length : Int), 0) else (-1, -1)
  else (-1, -1)
theorem placeFrom_some (n : Int) : ∀ (ps : List Pg) (i k : Nat), k < ps.length → (∀ j, j < k → ¬ 0 ≤ placeP (ps.getD j pg0).1 (ps.getD j pg0).2 n) → 0 ≤ placeP (ps.getD k pg0).1 (ps.getD k pg0).2 n → placeFrom n i ps = some (i + k, placeP (ps.getD k pg0).1 (ps.getD k pg0).2 n)
  | [], i, k, h, _, _ => by cases h
  | p :: ps, i, 0, _, _, h => by
    simp only [List.getD_cons_zero] at h
    unfold placeFrom; rw [if_pos h]; simp
  | p :: ps, i, k + 1, hk, hj, h => by
    have h0 := hj 0 (by omega)
    simp only [List.getD_cons_zero] at h0
    unfold placeFrom
    rw [if_neg h0, placeFrom_some n ps (i + 1) k (by simpa using hk) (fun j hj2 => by have := hj (j + 1) (by omega); simpa using this) (by simpa using h)]
    simp; omega
theorem placeFrom_none (n : Int) : ∀ (ps : List Pg) (i : Nat), (∀ j, j < ps.length → ¬ 0 ≤ placeP (ps.getD j pg0).1 (ps.getD j pg0).2 n) → placeFrom n i ps = none
  | [], _, _ => rfl
  | p :: ps, i, h => by
    have h0 := h 0 (by simp)
    simp only [List.getD_cons_zero] at h0
    unfold placeFrom
    rw [if_neg h0, placeFrom_none n ps (i + 1) (fun j hj => by have := h (j + 1) (by simpa using hj); simpa using this)]
theorem placeH_some {ps : List Pg} {n : Int} (h : okH ps = true) (hn : 1 ≤ n ∧ n ≤ 92) {i : Nat} {k : Int} (hp : placeFrom n 0 ps = some (i, k)) : placeH ps n = ((i : Int), k) := by
  unfold placeH; rw [if_pos ⟨h, hn⟩, hp]
theorem placeH_new {ps : List Pg} {n : Int} (h : okH ps = true) (hn : 1 ≤ n ∧ n ≤ 92) (hp : placeFrom n 0 ps = none) (hl : ps.length < 16) : placeH ps n = ((ps.length : Int), 0) := by
  unfold placeH; rw [if_pos ⟨h, hn⟩, hp]; simp only; rw [if_pos hl]
theorem placeH_full {ps : List Pg} {n : Int} (h : okH ps = true) (hn : 1 ≤ n ∧ n ≤ 92) (hp : placeFrom n 0 ps = none) (hl : ¬ ps.length < 16) : placeH ps n = (-1, -1) := by
  unfold placeH; rw [if_pos ⟨h, hn⟩, hp]; simp only; rw [if_neg hl]
theorem placeH_no {ps : List Pg} {n : Int} (h : ¬ (okH ps = true ∧ 1 ≤ n ∧ n ≤ 92)) : placeH ps n = (-1, -1) := by unfold placeH; rw [if_neg h]
end Go.Proofs.YtebhipicfgnajaaGreat
