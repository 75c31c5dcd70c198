/- Waits that came in, opened: what they read as. No conditions. -/
import Derived.Test.YtknloabdfkidiaaWa12
import Derived.Deep.SlicePairs
import Derived.Deep.Matrix
import Derived.Lib.SmallJoins
namespace Go.Proofs.Ytknloabdfkidiaa
open Go.RowKit
set_option maxRecDepth 100000

open Go.ChangeShapes Go.WideShapes Go.Deep
theorem addr_plain12 {w : World} {a : Addr} {v : Value} (h : w.cell? (a.add 0) = some v) : ∃ b off, a = ⟨b, off, none⟩ := by
  obtain ⟨b, off, spot⟩ := a
  have hspot : spot = none := by simpa [Addr.add] using World.cell?_spot h
  subst hspot
  exact ⟨b, off, rfl⟩
theorem add_at12 (b off k : Nat) : (⟨b, off, none⟩ : Addr).add k = ⟨b, off + k, none⟩ := Go.WideShapes.add_plain b off k
section
variable {H : Type} {enc : TypeId × Value → H} {w : World} {base : Nat} {held : Bool}
theorem waits_in {fuel : Nat} {v : Value} {x : DataW H × List MemPlace} (h : DataW.trod enc Try.prog w base (fun _ => true) held fuel 36 [v] = some x) :
    ∃ a n c l, v = .slice a n c ∧ n ≤ maxLen ∧ ReadsW2 w a n l := by
  rcases open_slice_pairs Try.underlying36 Try.underlying55 (by kernel_rfl) (by kernel_rfl) (by kernel_rfl) (by kernel_rfl) (by kernel_rfl) h with ⟨hcs, _⟩ | ⟨a, len, cap, m, n, V0, V1, D0, D1, P0, P1, hcs, _, hlc, hcm, hmm, _, hx⟩
  · exact ⟨none, 0, 0, [], by simpa using hcs, Nat.zero_le _, ⟨rfl, .inl rfl, fun i => by simp [wt0]⟩⟩
  · simp only [if_true] at hmm
    have each : ∀ i, i < m → ∃ p : Int × Int, w.cell? (a.add (i * 2)) = some (.int .i64 p.1) ∧ w.cell? (a.add (i * 2 + 1)) = some (.int .i64 p.2) ∧ (-9223372036854775808 ≤ p.1 ∧ p.1 ≤ 9223372036854775807) ∧ (-9223372036854775808 ≤ p.2 ∧ p.2 ≤ 9223372036854775807) := by
      intro i hi
      obtain ⟨h1, h2, h3, h4⟩ := hx i hi
      obtain ⟨q, e0, _, f0⟩ := DataW.trod_int Try.underlying3 h3
      obtain ⟨r, e1, _, f1⟩ := DataW.trod_int Try.underlying3 h4
      have e0' : V0 i = .int .i64 q := by simpa using e0
      have e1' : V1 i = .int .i64 r := by simpa using e1
      exact ⟨(q, r), by rw [h1, e0'], by rw [h2, e1'], bounds_i64 f0, bounds_i64 f1⟩
    obtain ⟨q, hq⟩ := choose_lt each
    refine ⟨some a, len, cap, (List.range len).map q, by simpa using hcs, Nat.le_trans hlc hcm, ⟨by simp, ?_, fun i => ?_⟩⟩
    · by_cases h0 : len = 0
      · left; exact h0
      · right
        obtain ⟨b, off, rfl⟩ := addr_plain12 (v := .int .i64 (q 0).1) (by have := (hq 0 (by omega)).1; simpa using this)
        refine ⟨b, off, rfl, fun i hi => ?_⟩
        have h1 := hq i (by omega)
        rw [add_at12, add_at12] at h1
        rw [show ((List.range len).map q).getD i wt0 = q i by simp [List.getD, hi]]
        exact ⟨h1.1, by rw [Nat.add_assoc]; exact h1.2.1⟩
    · by_cases hi : i < len
      · rw [show ((List.range len).map q).getD i wt0 = q i by simp [List.getD, hi]]
        exact (hq i (by omega)).2.2
      · rw [List.getD_eq_getElem?_getD, List.getElem?_eq_none (by simp; omega)]; simp [wt0]
end
end Go.Proofs.Ytknloabdfkidiaa
