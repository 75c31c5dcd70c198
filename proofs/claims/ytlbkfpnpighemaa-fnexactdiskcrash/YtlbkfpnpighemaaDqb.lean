/- A slice of bools that came in, opened. -/
import Derived.Test.YtlbkfpnpighemaaBo
import Derived.Test.YtlbkfpnpighemaaDq
import Derived.Deep.Grids
namespace Go.Proofs.Ytlbkfpnpighemaa
open Go.RowKit Go.ChangeShapes Go.WideShapes Go.Deep

set_option maxRecDepth 100000 in
theorem bools_in {H : Type} {enc : TypeId × Value → H} {w : World} {base : Nat} {held : Bool} {r : Reach} {b0 : Nat} {v : Value} {d : DataW H} {p : List MemPlace} (hv : Value.okWide Try.prog w r b0 55 v) (h : DataW.Trod enc Try.prog w base (fun _ => true) held 55 v d p) :
    ∃ a n c bs, v = .slice a n c ∧ bs.length = n ∧ n ≤ maxLen ∧ ReadsB w a n bs := by
  obtain ⟨a0, len0, cap0, rfl⟩ := okWide_slice Try.underlying55 hv
  obtain ⟨fuel, hf⟩ := h
  rcases open_bools Try.underlying55 Try.underlying4 (by kernel_rfl) hf with ⟨hcs, _⟩ | ⟨a, len, cap, B, hcs, _, hl, hm, _, hx⟩
  · simp [Value.cells] at hcs
    obtain ⟨rfl, rfl, rfl⟩ := hcs
    exact ⟨none, 0, 0, [], rfl, rfl, Nat.zero_le _, ⟨rfl, .inl rfl⟩⟩
  · simp [Value.cells] at hcs
    obtain ⟨rfl, rfl, rfl⟩ := hcs
    refine ⟨some a, len0, cap0, (List.range len0).map B, rfl, by simp, Nat.le_trans hl hm, ⟨by simp, ?_⟩⟩
    by_cases h0 : len0 = 0
    · exact .inl h0
    · right
      obtain ⟨b, off, rfl⟩ := addr_plain (hx 0 (by omega))
      refine ⟨b, off, rfl, fun i hi => ?_⟩
      have := hx i (by omega)
      rw [add_at] at this
      rw [this]
      simp [List.getD, hi]
end Go.Proofs.Ytlbkfpnpighemaa
