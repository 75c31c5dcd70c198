/- The order, plain, and the contract of the program's GraphOrder. Conditions: texts of at most 2^21 bytes. -/
import Derived.Test.YtnbpblephmjfnaaGreatMgg
import Derived.Test.YtnbpblephmjfnaaGreatVd14
import Derived.Test.YtnbpblephmjfnaaGreatHc14
namespace Go.Proofs.YtnbpblephmjfnaaGreat
open Go.RowKit
set_option maxRecDepth 100000
def edR (ts : List Tk) : Eds := fun i => if i < ts.length then nI ((List.range ts.length).filter (edB ts i)) else []
theorem edR_mem (ts : List Tk) (q : Nat) (z : Int) : z ∈ edR ts q ↔ ∃ j : Nat, z = (j : Int) ∧ q < ts.length ∧ j < ts.length ∧ edB ts q j = true := by
 unfold edR
 by_cases h : q < ts.length
 · rw [if_pos h]
   unfold nI
   simp only [List.mem_map, List.mem_filter, List.mem_range]
   constructor
   · rintro ⟨j, ⟨h1, h2⟩, rfl⟩; exact ⟨j, rfl, h, h1, h2⟩
   · rintro ⟨j, rfl, _, h1, h2⟩; exact ⟨j, ⟨h1, h2⟩, rfl⟩
 · rw [if_neg h]
   constructor
   · intro q; cases q
   · rintro ⟨j, _, h1, _⟩; exact absurd h1 h
def sameE (R R' : Eds) : Prop := ∀ q z, z ∈ R q ↔ z ∈ R' q
theorem firstB_same {R R' : Eds} (h : sameE R R') (n : Nat) (x : Int) : firstB R n x = firstB R' n x := by
 unfold firstB
 rw [decide_eq_decide]
 constructor
 · intro q j hj z; exact q j hj ((h j x).2 z)
 · intro q j hj z; exact q j hj ((h j x).1 z)
theorem upd_same14 {R R' : Eds} (h : sameE R R') (x : Nat) : sameE (upd R x []) (upd R' x []) := by
 intro q z
 by_cases e : q = x
 · subst e; rw [upd_same, upd_same]
 · rw [upd_other _ _ e, upd_other _ _ e]; exact h q z
theorem tkF_same (n : Nat) : ∀ (f : Nat) {R R' : Eds}, sameE R R' → ∀ (T L : List Nat), (tkF n f R T L).1 = (tkF n f R' T L).1 ∧ (tkF n f R T L).2.1 = (tkF n f R' T L).2.1 ∧ sameE (tkF n f R T L).2.2 (tkF n f R' T L).2.2
 | 0, R, R', h, T, L => ⟨rfl, rfl, h⟩
 | f + 1, R, R', h, T, L => by
  have e : (fun x : Nat => firstB R n ((x : Nat) : Int)) = (fun x : Nat => firstB R' n ((x : Nat) : Int)) := by
   funext x; exact firstB_same h n _
  unfold tkF
  rw [e]
  cases L.findIdx? (fun x : Nat => firstB R' n ((x : Nat) : Int)) with
  | none => exact ⟨rfl, rfl, h⟩
  | some k => exact tkF_same n f (upd_same14 h _) _ _
noncomputable def takenL (ts : List Tk) : List Nat := (tkF ts.length ts.length (edR ts) [] (List.range ts.length)).1
noncomputable def leftL (ts : List Tk) : List Nat := (tkF ts.length ts.length (edR ts) [] (List.range ts.length)).2.1
open Classical in
noncomputable def ordOk (ts : List Tk) : Bool := decide (deedsB ts = true ∧ leftL ts = [])
noncomputable def ordL (ts : List Tk) : List Nat := if ordOk ts = true then takenL ts else []
end Go.Proofs.YtnbpblephmjfnaaGreat
