/- The program's linkedOf, TreeOk and TreeHeight. Conditions: texts of at most 2^21 bytes. -/
import Derived.Test.YtphmlndkjgldkaaKt11
namespace Go.Proofs.Ytphmlndkjgldkaa
open Go.RowKit
set_option maxRecDepth 100000
theorem hgt_le (ns : List Nd) : ∀ (f : Nat) (x : Int), hgt ns f x ≤ f + 1
 | 0, _ => by simp [hgt]
 | f + 1, x => by
  unfold hgt
  simp only
  split
  · omega
  · have := hgt_le ns f ((ns.getD x.toNat nd0).ks.getD 0 0); omega
set_option maxHeartbeats 1600000 in
theorem impl_Index {w : World} {r N : Nat} {sd : List Bool} (h : NRow w r N sd) (hN : N ≤ 300) :
 Calls Try.prog 107 #[.slice (some ⟨r, 0, none⟩) N N, .pointer none] w fun e w' => ∃ y : Int, e = .returned (.int .i64 y) ∧ Hid (decide (0 ≤ y) = !sd.all id) ∧ Hid (-1 ≤ y ∧ y ≤ 300) ∧ w' = w := by
 have HR := hid h
 clear h
 go_enter Try.func107, Try.ntmps107
 go_wp2_with fail
 go_loopw [8] (fun i wr => ∃ k : Nat, k ≤ N ∧ i = .int .i64 k ∧ Hid (∀ j, j < k → sd.getD j true = true) ∧ wr = w) (fun i _ => N - (intOf i).toNat)
 case atStart => exact ⟨0, Nat.zero_le _, rfl, hid (fun j hj => by omega), rfl⟩
 case round =>
  obtain ⟨k, hk, rfl, HA, rfl⟩ := hrel
  by_cases hlt : k < N
  · have hlt' : (k : Int) < (N : Int) := by omega
    have hk0 : (0 : Int) ≤ (k : Int) := by omega
    obtain ⟨o, hc, ho⟩ := HR.out.at hlt
    cases o with
    | none =>
     have HO := hid ho
     clear ho
     go_wp2_with fail
     go_ret
     refine ⟨(k : Int), rfl, hid ?_, hid ⟨by omega, by omega⟩, rfl⟩
     rw [decide_eq_true hk0]
     have e0 : sd.all id = false := by
      have hl := HR.out.len
      have hks : k < sd.length := by omega
      refine List.all_eq_false.2 ⟨sd.getD k true, ?_, by rw [HO.out]; simp⟩
      rw [List.getD_eq_getElem?_getD, List.getElem?_eq_getElem hks]
      exact List.getElem_mem hks
     rw [e0]
     rfl
    | some a0 =>
     have HO := hid ho
     have hbo : ∀ W : World, (binOp BinOp.eql 78 (.pointer none) (.pointer (some a0))).run Try.prog W = .ok (.bool false) W := fun W => by kernel_rfl
     clear ho
     go_wp2_with fail
     go_roundw
     case rel => exact ⟨k + 1, by omega, by go_num, hid (fun j hj => by by_cases e : j = k; (rw [e, HO.out]; rfl); exact HA.out j (by omega)), by trivial⟩
     case measure => simp [intOf]; omega
  · obtain rfl : k = N := by omega
    go_wp2_with fail
    go_ret
    refine ⟨-1, rfl, hid ?_, hid ⟨by omega, by omega⟩, rfl⟩
    have e0 : sd.all id = true := by
     rw [List.all_eq_true]
     intro z hz
     obtain ⟨j, hj, rfl⟩ := List.mem_iff_getElem.1 hz
     have := HA.out j (by rw [← HR.out.len]; exact hj)
     rw [List.getD_eq_getElem?_getD, List.getElem?_eq_getElem hj] at this
     exact this
    rw [e0]
    rfl
set_option maxHeartbeats 1600000 in
theorem impl_Contains {w : World} {r N : Nat} {sd : List Bool} (h : NRow w r N sd) (hN : N ≤ 300) :
 Calls Try.prog 86 #[.slice (some ⟨r, 0, none⟩) N N, .pointer none] w fun e w' => e = .returned (.bool (!sd.all id)) ∧ w' = w := by
 have HR := hid h
 clear h
 go_enter Try.func86, Try.ntmps86
 go_wp2_with fail
 refine (impl_Index HR.out hN).mono ?_
 rintro e w1 ⟨y, rfl, HY, HY2, e1⟩
 subst w1
 go_wp2_with fail
 go_ret
 exact ⟨by rw [← HY.out]; rfl, rfl⟩
def rowN (N : Nat) : Obj := .cells (List.replicate N (.pointer none)).toArray 78
theorem made1 (z : Value) (n : Nat) : madeCells #[z] n = (List.replicate n z).toArray := by
 apply Array.ext'
 rw [toList_madeCells_one]
theorem mkN (N : Nat) (hN : N ≤ 300) (W : World) : (Instr.makeSlice 84 (.int .i64 (N : Int)) (.int .i64 (N : Int))).run Try.prog W = .ok (.slice (some ⟨W.heap.size, 0, none⟩) N N) (W.alloc (rowN N)) := by
 obtain ⟨i0, hi, hz0, hz1, hz2⟩ := info_parts Try.infoPn
 have := run_make (P := Try.prog) W 84 78 i0 (.pointer none) Try.underlying84 hi hz0 .i64 .i64 (N : Int) (N : Int) (by omega) (by omega) (by rw [hz2]; omega) (by omega)
 rw [this, hz1, Nat.mul_one, Int.toNat_natCast]
 show Result.ok _ (W.alloc (.cells (madeCells #[.pointer none] N) _)) = _
 rw [made1]
 rfl
end Go.Proofs.Ytphmlndkjgldkaa
