/- An item that came in, opened: what it reads as. No conditions. -/
import Derived.Test.YtoppccfgcccijaaDoorTq
namespace Go.Proofs.YtoppccfgcccijaaDoor
open Go.RowKit Go.ChangeShapes Go.WideShapes Go.Deep
set_option maxRecDepth 100000

section
variable {H : Type} {enc : TypeId × Value → H} {w : World} {base : Nat} {held : Bool}
theorem item_in {r : Reach} {b0 : Nat} {v : Value} {d : DataW H} {p : List MemPlace} (hv : Value.okWide Tryd.prog w r b0 25 v) (h : DataW.Trod enc Tryd.prog w base (fun _ => true) held 25 v d p) :
    ∃ K N f a n c zs, v = .agg #[.int .i64 K, .int .i64 N, .float .f64 f, .slice a n c] ∧ n ≤ maxLen ∧ Reads w a n zs ∧ (a = none → c = 0) ∧ (-9223372036854775808 ≤ N ∧ N ≤ 9223372036854775807) ∧ f < 18446744073709551616 := by
  obtain ⟨cs, rfl, _⟩ := okWide_struct Tryd.underlying25 hv
  obtain ⟨fuel, hf⟩ := h
  obtain ⟨K, N, f, a, n, c, zs, e, rest⟩ := item_cells hf
  refine ⟨K, N, f, a, n, c, zs, ?_, rest⟩
  have e' : cs.toList = _ := e
  rw [show cs = cs.toList.toArray by simp, e']
end
end Go.Proofs.YtoppccfgcccijaaDoor
