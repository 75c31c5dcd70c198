/- The contract of the specification's l14take. Conditions: at most 100 deeds, 2^21 edges among them. -/
import Derived.Test.YtnbpblephmjfnaaGreatWg14
import Derived.Test.YtnbpblephmjfnaaGreatMgd
import Derived.Test.YtnbpblephmjfnaaGreatHv14
namespace Go.Proofs.YtnbpblephmjfnaaGreat
open Go.RowKit
set_option maxRecDepth 100000
def bls (lf : List Bool) : List Value := lf.map Value.bool
def canB (E : List Pr) (lf : List Bool) (d : Nat) : Bool := lf.getD d false && !(ahV E lf d).2
def tkS (n : Nat) (E : List Pr) : Nat → List Nat → List Bool → List Nat × List Bool
 | 0, T, lf => (T, lf)
 | f + 1, T, lf => match (List.range n).find? (canB E lf) with
  | none => (T, lf)
  | some d => tkS n E f (T ++ [d]) (lf.set d false)
theorem tkS_none {n : Nat} {E : List Pr} {T : List Nat} {lf : List Bool} (h : ∀ d, d < n → canB E lf d = false) : ∀ f, tkS n E f T lf = (T, lf)
 | 0 => rfl
 | f + 1 => by
  have e : (List.range n).find? (canB E lf) = none := by
   rw [List.find?_eq_none]
   intro d hd
   simp [h d (List.mem_range.1 hd)]
  unfold tkS
  rw [e]
theorem tkS_some {n : Nat} {E : List Pr} {T : List Nat} {lf : List Bool} {d : Nat} (hd : d < n) (h1 : canB E lf d = true) (h : ∀ e, e < d → canB E lf e = false) (f : Nat) : tkS n E (f + 1) T lf = tkS n E f (T ++ [d]) (lf.set d false) := by
 have e : (List.range n).find? (canB E lf) = some d := by
  rw [List.find?_eq_some_iff_getElem]
  exact ⟨h1, d, by simpa using hd, by simp, fun j hj => by simp [h j hj]⟩
 rw [tkS, e]
theorem bls_set (lf : List Bool) (d : Nat) (v : Bool) : bls (lf.set d v) = (bls lf).set d (.bool v) := by simp [bls, List.map_set]
theorem bls_at {lf : List Bool} {d : Nat} (h : d < lf.length) : (bls lf)[d]? = some (.bool (lf.getD d false)) := by simp [bls, List.getD, h]
theorem Tryz.infoB14 : (Tryz.prog.info? 4).map (fun i => (i.zero, i.size, i.bytes)) = some (some (.bool false), 1, 1) := by kernel_rfl
theorem infoB : ∃ i, Tryz.prog.info? 4 = some i ∧ i.zero = some (.bool false) ∧ i.size = 1 ∧ i.bytes = 1 := by
 have := Tryz.infoB14
 cases hh : Tryz.prog.info? 4 with
 | none => rw [hh] at this; cases this
 | some i => rw [hh] at this; simp at this; exact ⟨i, rfl, this.1, this.2.1, this.2.2⟩
theorem made_bool (n : Nat) : (madeCells #[.bool false] n).toList = bls (List.replicate n false) := by
 simp only [madeCells, Array.toList_map, Array.toList_range]
 unfold bls
 rw [List.map_replicate]
 apply List.ext_getElem?
 intro j
 by_cases hj : j < n
 · simp [hj, Nat.mod_one]
 · simp [hj]
end Go.Proofs.YtnbpblephmjfnaaGreat
