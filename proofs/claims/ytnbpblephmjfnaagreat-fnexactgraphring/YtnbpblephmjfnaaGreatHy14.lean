/- Serial orders, plain: what the specification looks at is what the order of turns says. No program; the deeds are right. -/
import Derived.Test.YtnbpblephmjfnaaGreatHx14
namespace Go.Proofs.YtnbpblephmjfnaaGreat
open Go.RowKit
set_option maxRecDepth 100000
theorem hasM_wr {t : Tk} {x : Im} (h : ∀ y ∈ t.ws, okM y = true) (hx : okM x = true) : hasM t.ws x = wrB t x := by
 unfold hasM wrB anyS dupM
 rw [List.any_map, Bool.eq_iff_iff, List.any_eq_true, List.any_eq_true]
 have key : ∀ y ∈ t.ws, (decide (cmpM y x = 0) = true ↔ inM (y, y) x = true) := by
  intro y hy
  have oy := h y hy
  rw [inM_iff oy oy hx, decide_eq_true_iff, decide_eq_true_iff]
  have := cmpM_anti oy hx
  show cmpM y x = 0 ↔ cmpM y x ≤ 0 ∧ cmpM x y ≤ 0
  constructor
  · intro e; exact ⟨by omega, by omega⟩
  · rintro ⟨e1, e2⟩; omega
 exact ⟨fun ⟨y, hy, q⟩ => ⟨y, hy, (key y hy).1 q⟩, fun ⟨y, hy, q⟩ => ⟨y, hy, (key y hy).2 q⟩⟩
def loF (ts : List Tk) (O : List Int) (x : Im) (last : Int) (j : Nat) : Int := if hasM (ts.getD (O.getD j 0).toNat tk0).ws x = true then O.getD j 0 else last
def loL (ts : List Tk) (O : List Int) (x : Im) (i : Nat) : Int := (List.range i).foldl (loF ts O x) (-1)
theorem loL_succ (ts : List Tk) (O : List Int) (x : Im) (i : Nat) : loL ts O x (i + 1) = loF ts O x (loL ts O x i) i := by
 unfold loL
 rw [List.range_succ, List.foldl_append]; rfl
theorem loL_spec (ts : List Tk) (O : List Int) (x : Im) : ∀ i, (loL ts O x i = -1 ∧ ∀ j, j < i → hasM (ts.getD (O.getD j 0).toNat tk0).ws x = false) ∨ ∃ j, j < i ∧ loL ts O x i = O.getD j 0 ∧ hasM (ts.getD (O.getD j 0).toNat tk0).ws x = true ∧ ∀ j', j < j' → j' < i → hasM (ts.getD (O.getD j' 0).toNat tk0).ws x = false
 | 0 => .inl ⟨rfl, fun j hj => by omega⟩
 | i + 1 => by
  rw [loL_succ]
  unfold loF
  cases hh : hasM (ts.getD (O.getD i 0).toNat tk0).ws x with
  | true =>
   rw [if_pos rfl]
   exact .inr ⟨i, by omega, rfl, hh, fun j' h1 h2 => by omega⟩
  | false =>
   rw [if_neg (by simp)]
   rcases loL_spec ts O x i with ⟨e, h⟩ | ⟨j, hj, e, h1, h2⟩
   · refine .inl ⟨e, fun j hj => ?_⟩
     by_cases q : j = i
     · subst q; exact hh
     · exact h j (by omega)
   · refine .inr ⟨j, by omega, e, h1, fun j' h3 h4 => ?_⟩
     by_cases q : j' = i
     · subst q; exact hh
     · exact h2 j' h3 (by omega)
theorem nodup_le : ∀ (n : Nat) (l : List Nat), l.Nodup → (∀ x ∈ l, x < n) → l.length ≤ n
 | 0, l, _, h => by
  cases l with
  | nil => simp
  | cons x r => exact absurd (h x (by simp)) (by omega)
 | n + 1, l, hd, h => by
  by_cases hn : n ∈ l
  · have := nodup_le n (l.erase n) (hd.erase n) (fun x hx => by
     have h1 := (hd.mem_erase_iff).1 hx
     have h2 := h x h1.2
     have h3 := h1.1
     omega)
    rw [List.length_erase_of_mem hn] at this
    have : 0 < l.length := List.length_pos_of_mem hn
    omega
  · have := nodup_le n l hd (fun x hx => by
     have h2 := h x hx
     have : x ≠ n := fun e => hn (e ▸ hx)
     omega)
    omega
section
variable {O : List Int} {n : Nat} (ho : isOrd O n)
include ho
end
end Go.Proofs.YtnbpblephmjfnaaGreat
