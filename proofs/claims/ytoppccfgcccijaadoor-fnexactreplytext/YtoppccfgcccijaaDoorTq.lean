/- A tuple that came in, opened: what it reads as. No conditions. -/
import Derived.Test.YtoppccfgcccijaaDoorMga
import Derived.Deep.SlicePairs
import Derived.Deep.Matrix
import Derived.Lib.SmallJoins
namespace Go.Proofs.YtoppccfgcccijaaDoor
open Go.RowKit Go.ChangeShapes Go.WideShapes Go.Deep
set_option maxRecDepth 100000

theorem list4 {α : Type} {cs : List α} (h : cs.length = 4) : ∃ c0 c1 c2 c3, cs = [c0, c1, c2, c3] := by
  match cs, h with
  | [c0, c1, c2, c3], _ => exact ⟨c0, c1, c2, c3, rfl⟩
theorem list10 {α : Type} {cs : List α} (h : cs.length = 10) : ∃ c0 c1 c2 c3 c4 c5 c6 c7 c8 c9, cs = [c0, c1, c2, c3, c4, c5, c6, c7, c8, c9] := by
  match cs, h with
  | [c0, c1, c2, c3, c4, c5, c6, c7, c8, c9], _ => exact ⟨c0, c1, c2, c3, c4, c5, c6, c7, c8, c9, rfl⟩

section
variable {H : Type} {enc : TypeId × Value → H} {w : World} {base : Nat} {held : Bool}

theorem trod_float2 {fuel : Nat} {cs : List Value} {x : DataW H × List MemPlace} (ht : Tryd.prog.underlying 22 = some (.float .f64)) (h : DataW.trod enc Tryd.prog w base (fun _ => true) held fuel 22 cs = some x) :
    ∃ m, cs = [.float .f64 m] ∧ m < 18446744073709551616 := by
  cases fuel with
  | zero => simp [DataW.trod] at h
  | succ n =>
    unfold DataW.trod at h
    rw [ht] at h
    split at h <;> simp_all
    rename_i heq
    cases heq
    simpa [Lit.wf] using h.1.2

theorem bytes_in {fuel : Nat} {v : Value} {x : DataW H × List MemPlace} (h : DataW.trod enc Tryd.prog w base (fun _ => true) held fuel 23 [v] = some x) :
    ∃ a n c zs, v = .slice a n c ∧ n ≤ maxLen ∧ Reads w a n zs ∧ (a = none → c = 0) := by
  rcases open_ints Tryd.underlying23 Tryd.underlying5 (by kernel_rfl) h with ⟨hcs, _⟩ | ⟨x, l, c, zs, hcs, _, hl, hm, hz, _, hcell, hwz⟩
  · exact ⟨none, 0, 0, [], by simpa using hcs, Nat.zero_le _, ⟨rfl, .inl rfl, by simp⟩, fun _ => rfl⟩
  · have hin : (some x = none ∧ l = 0 ∧ c = 0 ∧ zs = []) ∨ ∃ y, some x = some y ∧ l ≤ c ∧ c ≤ maxLen ∧ zs.length = c ∧ (∀ i, i < zs.length → w.cell? (y.add i) = some (.int .u8 (zs.getD i 0))) ∧ ∀ n ∈ zs, (Lit.int .u8 n).wf = true := .inr ⟨_, rfl, hl, hm, by simpa using hz, hcell, hwz⟩
    exact ⟨some x, l, c, zs.take l, by simpa using hcs, len_in hin, reads_in hin, fun h => by cases h⟩

theorem item_cells {fuel : Nat} {cs : List Value} {x : DataW H × List MemPlace} (h : DataW.trod enc Tryd.prog w base (fun _ => true) held fuel 25 cs = some x) :
    ∃ K N f a n c zs, cs = [.int .i64 K, .int .i64 N, .float .f64 f, .slice a n c] ∧ n ≤ maxLen ∧ Reads w a n zs ∧ (a = none → c = 0) ∧ (-9223372036854775808 ≤ N ∧ N ≤ 9223372036854775807) ∧ f < 18446744073709551616 := by
  obtain ⟨xs, k, hk, hxy, hlen, hxl, hf⟩ := DataW.trod_struct Tryd.underlying25 h
  have e4 : Tryd.prog.cellsOf 25 = 4 := by kernel_rfl
  have e3 : Tryd.prog.cellsOf 3 = 1 := by kernel_rfl
  have e22 : Tryd.prog.cellsOf 23 = 1 := by kernel_rfl
  have e24 : Tryd.prog.cellsOf 22 = 1 := by kernel_rfl
  obtain ⟨c0, c1, c2, c3, rfl⟩ := list4 (hlen.trans e4)
  obtain ⟨y0, y1, y2, y3, rfl⟩ := list4 (α := DataW H × List MemPlace) (by simpa using hxl)
  have g0 := hf 0 _ rfl
  have g1 := hf 1 _ rfl
  have g2 := hf 2 _ rfl
  have g3 := hf 3 _ rfl
  simp [e3, e22, e24] at g0 g1 g2 g3
  obtain ⟨K, eK, _⟩ := DataW.trod_int Tryd.underlying3 g0
  obtain ⟨N, eN, _, hN⟩ := DataW.trod_int Tryd.underlying3 g1
  obtain ⟨f, eF, hF⟩ := trod_float2 Tryd.underlying22 g2
  obtain ⟨a, n, c, zs, e5, hm, hr, hc⟩ := bytes_in g3
  refine ⟨K, N, f, a, n, c, zs, ?_, hm, hr, hc, bounds_i64 hN, hF⟩
  simp at eK eN eF
  rw [eK, eN, eF, e5]

end
end Go.Proofs.YtoppccfgcccijaaDoor
