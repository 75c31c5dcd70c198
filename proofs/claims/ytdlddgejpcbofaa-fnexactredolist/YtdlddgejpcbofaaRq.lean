/- A record, or a list of records, that came in, opened: what it reads as. No conditions. -/
import Derived.Test.YtdlddgejpcbofaaRp
import Derived.Test.YtdlddgejpcbofaaHelp
import Derived.Deep.SlicePairs
import Derived.Deep.Matrix
import Derived.Lib.SmallJoins
namespace Go.Proofs.Ytdlddgejpcbofaa
open Go.RowKit Go.ChangeShapes Go.WideShapes Go.Deep
set_option maxRecDepth 100000

theorem list6 {α : Type} {cs : List α} (h : cs.length = 6) : ∃ c0 c1 c2 c3 c4 c5, cs = [c0, c1, c2, c3, c4, c5] := by
  match cs, h with
  | [c0, c1, c2, c3, c4, c5], _ => exact ⟨c0, c1, c2, c3, c4, c5, rfl⟩

section
variable {H : Type} {enc : TypeId × Value → H} {w : World} {base : Nat} {held : Bool}

theorem bytes_in {fuel : Nat} {v : Value} {x : DataW H × List MemPlace} (h : DataW.trod enc Try.prog w base (fun _ => true) held fuel 36 [v] = some x) :
    ∃ a n c zs, v = .slice a n c ∧ n ≤ maxLen ∧ Reads w a n zs ∧ (a = none → c = 0) := by
  rcases open_ints Try.underlying36 Try.underlying5 (by kernel_rfl) h with ⟨hcs, _⟩ | ⟨x, l, c, zs, hcs, _, hl, hm, hz, _, hcell, hwz⟩
  · exact ⟨none, 0, 0, [], by simpa using hcs, Nat.zero_le _, ⟨rfl, .inl rfl, by simp⟩, fun _ => rfl⟩
  · have hin : (some x = none ∧ l = 0 ∧ c = 0 ∧ zs = []) ∨ ∃ y, some x = some y ∧ l ≤ c ∧ c ≤ maxLen ∧ zs.length = c ∧ (∀ i, i < zs.length → w.cell? (y.add i) = some (.int .u8 (zs.getD i 0))) ∧ ∀ n ∈ zs, (Lit.int .u8 n).wf = true := .inr ⟨_, rfl, hl, hm, by simpa using hz, hcell, hwz⟩
    exact ⟨some x, l, c, zs.take l, by simpa using hcs, len_in hin, reads_in hin, fun h => by cases h⟩

theorem rec_cells {fuel : Nat} {cs : List Value} {x : DataW H × List MemPlace} (h : DataW.trod enc Try.prog w base (fun _ => true) held fuel 38 cs = some x) :
    ∃ K L X P S a n c zs, cs = [.int .i64 K, .int .i64 L, .int .i64 X, .int .i64 P, .int .i64 S, .slice a n c] ∧ n ≤ maxLen ∧ Reads w a n zs ∧ (a = none → c = 0) := by
  obtain ⟨xs, k, hk, hxy, hlen, hxl, hf⟩ := DataW.trod_struct Try.underlying38 h
  have e6 : Try.prog.cellsOf 38 = 6 := by kernel_rfl
  have e3 : Try.prog.cellsOf 3 = 1 := by kernel_rfl
  have e22 : Try.prog.cellsOf 36 = 1 := by kernel_rfl
  obtain ⟨c0, c1, c2, c3, c4, c5, rfl⟩ := list6 (hlen.trans e6)
  obtain ⟨y0, y1, y2, y3, y4, y5, rfl⟩ := list6 (α := DataW H × List MemPlace) (by simpa using hxl)
  have g0 := hf 0 _ rfl
  have g1 := hf 1 _ rfl
  have g2 := hf 2 _ rfl
  have g3 := hf 3 _ rfl
  have g4 := hf 4 _ rfl
  have g5 := hf 5 _ rfl
  simp [e3, e22] at g0 g1 g2 g3 g4 g5
  obtain ⟨K, eK, _⟩ := DataW.trod_int Try.underlying3 g0
  obtain ⟨L, eL, _⟩ := DataW.trod_int Try.underlying3 g1
  obtain ⟨X, eX, _⟩ := DataW.trod_int Try.underlying3 g2
  obtain ⟨P, eP, _⟩ := DataW.trod_int Try.underlying3 g3
  obtain ⟨S, eS, _⟩ := DataW.trod_int Try.underlying3 g4
  obtain ⟨a, n, c, zs, e5, hm, hr, hc⟩ := bytes_in g5
  refine ⟨K, L, X, P, S, a, n, c, zs, ?_, hm, hr, hc⟩
  simp at eK eL eX eP eS
  rw [eK, eL, eX, eP, eS, e5]

theorem record_in {r : Reach} {b0 : Nat} {v : Value} {d : DataW H} {p : List MemPlace} (hv : Value.okWide Try.prog w r b0 38 v) (h : DataW.Trod enc Try.prog w base (fun _ => true) held 38 v d p) :
    ∃ K L X P S a n c zs, v = .agg #[.int .i64 K, .int .i64 L, .int .i64 X, .int .i64 P, .int .i64 S, .slice a n c] ∧ n ≤ maxLen ∧ Reads w a n zs := by
  obtain ⟨cs, rfl, _⟩ := okWide_struct Try.underlying38 hv
  obtain ⟨fuel, hf⟩ := h
  obtain ⟨K, L, X, P, S, a, n, c, zs, e, hm, hr, _⟩ := rec_cells hf
  refine ⟨K, L, X, P, S, a, n, c, zs, ?_, hm, hr⟩
  have e' : cs.toList = _ := e
  rw [show cs = cs.toList.toArray by simp, e']
end
end Go.Proofs.Ytdlddgejpcbofaa
