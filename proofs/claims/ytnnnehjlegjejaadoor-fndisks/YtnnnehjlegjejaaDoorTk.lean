/- The contract of the program's takeCall, which changes a disk in place. Conditions: the two variables hold two different sentinels; the fuse is an int. -/
import Derived.Test.YtnnnehjlegjejaaDoorSi
import Derived.Test.YtnnnehjlegjejaaDoorDt3
import Derived.Deep.RegionHeld3
namespace Go.Proofs.YtnnnehjlegjejaaDoor
open Go.RowKit

theorem callD_parts (d : Dk) : (callD d).1.S = d.S ∧ (callD d).1.W = d.W := by
  unfold callD; repeat' split
  all_goals exact ⟨rfl, rfl⟩

/-- What a call leaves: its answer, the disk's box; nothing else is written. -/
structure Took (w w' : World) (B p : Nat) (vS vW : Value) (a1 : Addr) (r : Dk × Bool) (e : Ending) : Prop where
  ans : (r.2 = true ∧ e = .returned .nilIface) ∨ (r.2 = false ∧ e = .returned (.iface 114 (.pointer (some a1))))
  box : w'.heap[p]? = some (.cells #[vS, vW, .int .i64 r.1.F, .bool r.1.D] 27)
  oth : ∀ q, q ≠ p → w'.heap[q]? = w.heap[q]?
  size : w'.heap.size = w.heap.size
  bel : Below B w w'

set_option maxRecDepth 100000 in
theorem take_call {w : World} {B p : Nat} {a0 a1 : Addr} {c0 c1 : Array Value} {t0 t1 : TypeId} (hs : Sents w B a0 a1 c0 c1 t0 t1) (hB : B ≤ p) {vS vW : Value} {ss : List (List Int)} {ws : List (Int × List Int)} {F : Int} {D : Bool} (hF : F ≤ 9223372036854775807)
    (hb : w.heap[p]? = some (.cells #[vS, vW, .int .i64 F, .bool D] 27)) :
    Calls Tryd.prog 59 #[.pointer (some ⟨p, 0, none⟩)] w fun e w' => Took w w' B p vS vW a1 (callD ⟨ss, ws, F, D⟩) e := by
  have v1 := hs.v1
  have c2 : w.cell? ⟨p, 2, none⟩ = some (.int .i64 F) := by rw [cell_of_row _ _ _ _ _ _ hb]; rfl
  have c3 : w.cell? ⟨p, 3, none⟩ = some (.bool D) := by rw [cell_of_row _ _ _ _ _ _ hb]; rfl
  have f2 : w.frozen? ⟨p, 2, none⟩ = false := frozen_of_row _ _ _ _ _ hb
  have f3 : w.frozen? ⟨p, 3, none⟩ = false := frozen_of_row _ _ _ _ _ hb
  have HS := hid hs
  have HB := hid hb
  clear hs hb
  by_cases h0 : F = 0
  · subst h0
    have hR : callD ⟨ss, ws, 0, D⟩ = (⟨ss, ws, 0, true⟩, false) := by
      unfold callD
      cases D <;> rfl
    rw [hR]
    have X3 := heap_setCell_same w p 3 _ 27 (.bool true) HB.out
    have d3 : (w.setCell ⟨p, 3, none⟩ (.bool true)).cell? ⟨p, 3, none⟩ = some (.bool true) := by rw [cell_of_row _ _ _ _ _ _ X3]; rfl
    have d1 : (w.setCell ⟨p, 3, none⟩ (.bool true)).cell? ⟨1, 0, none⟩ = some (.iface 114 (.pointer (some a1))) := by
      rw [World.cell?_setCell_far _ _ _ _ (by have := HS.out.b0; simp; omega)]
      exact v1
    have HX := hid X3
    clear X3
    go_enter Tryd.func59, Tryd.ntmps59
    go_wp2
    go_ret
    exact ⟨.inr ⟨rfl, rfl⟩, HX.out, fun q hq => heap_set_ne _ _ _ _ _ hq, by simp, (Below.refl _ w).setCell (p := ⟨p, 3, none⟩) hB _⟩
  · have q0 : (F == 0) = false := by simp [h0]
    cases D with
    | true =>
      have hR : callD ⟨ss, ws, F, true⟩ = (⟨ss, ws, F, true⟩, false) := rfl
      rw [hR]
      go_enter Tryd.func59, Tryd.ntmps59
      go_wp2
      go_ret
      exact ⟨.inr ⟨rfl, rfl⟩, HB.out, fun q hq => rfl, rfl, Below.refl _ w⟩
    | false =>
      by_cases h1 : 0 < F
      · have hR : callD ⟨ss, ws, F, false⟩ = (⟨ss, ws, F - 1, false⟩, true) := by
          unfold callD
          rw [if_neg (by simp), if_neg h0, if_pos h1]
        rw [hR]
        have X2 := hid (heap_setCell_same w p 2 _ 27 (.int .i64 (F - 1)) HB.out)
        go_enter Tryd.func59, Tryd.ntmps59
        go_wp2
        go_ret
        exact ⟨.inl ⟨rfl, rfl⟩, X2.out, fun q hq => heap_set_ne _ _ _ _ _ hq, by simp, (Below.refl _ w).setCell (p := ⟨p, 2, none⟩) hB _⟩
      · have hR : callD ⟨ss, ws, F, false⟩ = (⟨ss, ws, F, false⟩, true) := by
          unfold callD
          rw [if_neg (by simp), if_neg h0, if_neg h1]
        rw [hR]
        go_enter Tryd.func59, Tryd.ntmps59
        go_wp2
        go_ret
        exact ⟨.inl ⟨rfl, rfl⟩, HB.out, fun q hq => rfl, rfl, Below.refl _ w⟩
end Go.Proofs.YtnnnehjlegjejaaDoor
