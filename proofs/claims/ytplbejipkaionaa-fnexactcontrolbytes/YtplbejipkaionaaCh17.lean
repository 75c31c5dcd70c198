/- A control that came in, opened: five numbers. No conditions. -/
import Derived.Test.YtplbejipkaionaaCe17
import Derived.Test.YtplbejipkaionaaHelp
import Derived.Deep.SlicePairs
import Derived.Deep.Matrix
import Derived.Lib.SmallJoins
namespace Go.Proofs.Ytplbejipkaionaa
open Go.RowKit Go.ChangeShapes Go.WideShapes Go.Deep
set_option maxRecDepth 100000

theorem list5 {α : Type} {cs : List α} (h : cs.length = 5) : ∃ c0 c1 c2 c3 c4, cs = [c0, c1, c2, c3, c4] := by
  match cs, h with
  | [c0, c1, c2, c3, c4], _ => exact ⟨c0, c1, c2, c3, c4, rfl⟩

section
variable {H : Type} {enc : TypeId × Value → H} {w : World} {base : Nat} {held : Bool}
theorem control_in {r : Reach} {b0 : Nat} {v : Value} {d : DataW H} {p : List MemPlace} (hv : Value.okWide Try.prog w r b0 31 v) (h : DataW.Trod enc Try.prog w base (fun _ => true) held 31 v d p) :
    ∃ sq ar ls nx pg, v = .agg #[.int .i64 sq, .int .i64 ar, .int .i64 ls, .int .i64 nx, .int .i64 pg] ∧ (-9223372036854775808 ≤ sq ∧ sq ≤ 9223372036854775807) ∧ (-9223372036854775808 ≤ ar ∧ ar ≤ 9223372036854775807) ∧ (-9223372036854775808 ≤ ls ∧ ls ≤ 9223372036854775807) ∧ (-9223372036854775808 ≤ nx ∧ nx ≤ 9223372036854775807) ∧ (-9223372036854775808 ≤ pg ∧ pg ≤ 9223372036854775807) := by
  obtain ⟨cs, rfl, _⟩ := okWide_struct Try.underlying31 hv
  obtain ⟨fuel, hf⟩ := h
  obtain ⟨xs, k, hk, hxy, hlen, hxl, hf⟩ := DataW.trod_struct Try.underlying31 hf
  have e5 : Try.prog.cellsOf 31 = 5 := by kernel_rfl
  have e3 : Try.prog.cellsOf 3 = 1 := by kernel_rfl
  obtain ⟨c0, c1, c2, c3, c4, hc⟩ := list5 (hlen.trans e5)
  obtain ⟨y0, y1, y2, y3, y4, rfl⟩ := list5 (α := DataW H × List MemPlace) (by simpa using hxl)
  have g0 := hf 0 _ rfl
  have g1 := hf 1 _ rfl
  have g2 := hf 2 _ rfl
  have g3 := hf 3 _ rfl
  have g4 := hf 4 _ rfl
  rw [hc] at g0 g1 g2 g3 g4
  simp [e3] at g0 g1 g2 g3 g4
  obtain ⟨K0, q0, _, w0⟩ := DataW.trod_int Try.underlying3 g0
  obtain ⟨K1, q1, _, w1⟩ := DataW.trod_int Try.underlying3 g1
  obtain ⟨K2, q2, _, w2⟩ := DataW.trod_int Try.underlying3 g2
  obtain ⟨K3, q3, _, w3⟩ := DataW.trod_int Try.underlying3 g3
  obtain ⟨K4, q4, _, w4⟩ := DataW.trod_int Try.underlying3 g4
  simp at q0 q1 q2 q3 q4
  refine ⟨K0, K1, K2, K3, K4, ?_, bounds_i64 w0, bounds_i64 w1, bounds_i64 w2, bounds_i64 w3, bounds_i64 w4⟩
  have e' : cs.toList = _ := hc
  rw [show cs = cs.toList.toArray by simp, e', q0, q1, q2, q3, q4]
end
end Go.Proofs.Ytplbejipkaionaa
