/- Trees, plain: which tree is right, as the specification and as the program asks it. No program, no conditions. -/
import Derived.Test.YtphmlndkjgldkaaKn11
namespace Go.Proofs.Ytphmlndkjgldkaa
open Go.RowKit
set_option maxRecDepth 100000
def st0 (n : Nat) : St := ⟨List.replicate n false, 0, false, []⟩
def lookS (ns : List Nd) (root : Int) : St := goS ns (ns.length + 1) (st0 ns.length) root 1 none none
def treeOk (ns : List Nd) (root : Int) : Bool := decide (1 ≤ ns.length ∧ ns.length ≤ 300) && ((lookS ns root).seen.all id && !(lookS ns root).wrong)
def treeIs (ns : List Nd) (root : Int) : Bool := decide (1 ≤ ns.length ∧ ns.length ≤ 300) && (match lnk ns (ns.length + 1) (List.replicate ns.length false) root with
 | none => false
 | some sd => sd.all id && (lvs ns (ns.length + 1) root (hgt ns (ns.length + 1) root) && ino ns (ns.length + 1) root none none))
theorem unseen_rep (n : Nat) : unseen (List.replicate n false) = n := by simp [unseen]
theorem look_well (ns : List Nd) (root : Int) : Well ns (ns.length + 1) (st0 ns.length) root 1 none none (hgt ns (ns.length + 1) root) (lookS ns root) := by
 have h := goS_well ns (ns.length + 1) (st0 ns.length) root 1 none none (by omega) (by simp only [st0]; rw [unseen_rep]; omega) rfl (by simp [st0])
 have e : dOf ns (ns.length + 1) (st0 ns.length) root 1 = hgt ns (ns.length + 1) root := by
  unfold dOf
  rw [if_pos (by rfl)]
  omega
 rw [e] at h
 exact h
theorem tree_same (ns : List Nd) (root : Int) : treeOk ns root = treeIs ns root := by
 have W := look_well ns root
 have e1 : hgt ns (ns.length + 1) root - 1 + 1 = hgt ns (ns.length + 1) root := by omega
 unfold treeOk treeIs
 congr 1
 have es : (st0 ns.length).seen = List.replicate ns.length false := rfl
 cases hw : (lookS ns root).wrong with
 | true =>
  rw [Bool.not_true, Bool.and_false]
  cases hl : lnk ns (ns.length + 1) (List.replicate ns.length false) root with
  | none => rfl
  | some sd =>
   simp only
   cases hi : ino ns (ns.length + 1) root none none with
   | false => simp
   | true =>
    cases hv : lvs ns (ns.length + 1) root (hgt ns (ns.length + 1) root) with
    | false => simp
    | true =>
     exfalso
     have := W.iff.2 ⟨⟨sd, by rw [es]; exact hl⟩, hi, by rw [e1]; exact hv⟩
     rw [hw] at this
     cases this
 | false =>
  rw [Bool.not_false, Bool.and_true]
  obtain ⟨_, h2, h3⟩ := W.iff.1 hw
  rw [e1] at h3
  have hs := W.seen hw
  rw [es] at hs
  rw [hs, h2, h3]
  simp
theorem tree_told {ns : List Nd} {root : Int} (h : treeOk ns root = true) : (lookS ns root).deep = hgt ns (ns.length + 1) root ∧ (lookS ns root).all = lfs ns (ns.length + 1) root := by
 have W := look_well ns root
 unfold treeOk at h
 rw [Bool.and_eq_true, Bool.and_eq_true] at h
 have hw : (lookS ns root).wrong = false := by simpa using h.2.2
 exact ⟨W.deep hw, by rw [W.all hw]; rfl⟩
end Go.Proofs.Ytphmlndkjgldkaa
