/- A tuple that came in, opened: what it reads as. No conditions. -/
import Derived.Test.YtkfhfjghfadofaaGreatMga
import Derived.Deep.SlicePairs
import Derived.Deep.Matrix
import Derived.Lib.SmallJoins
namespace Go.Proofs.YtkfhfjghfadofaaGreat
open Go.RowKit Go.ChangeShapes Go.WideShapes Go.Deep
set_option maxRecDepth 100000
theorem list4 {α : Type} {cs : List α} (h : cs.length = 4) : ∃ c0 c1 c2 c3, cs = [c0, c1, c2, c3] := by
 match cs, h with
 | [c0, c1, c2, c3], _ => exact ⟨c0, c1, c2, c3, rfl⟩
theorem list10 {α : Type} {cs : List α} (h : cs.length = 10) : ∃ c0 c1 c2 c3 c4 c5 c6 c7 c8 c9, cs = [c0, c1, c2, c3, c4, c5, c6, c7, c8, c9] := by
 match cs, h with
 | [c0, c1, c2, c3, c4, c5, c6, c7, c8, c9], _ => exact ⟨c0, c1, c2, c3, c4, c5, c6, c7, c8, c9, rfl⟩
section
variable {H : Type} {enc : TypeId × Value → H} {w : World} {base : Nat} {held : Bool}
theorem trod_float2 {fuel : Nat} {cs : List Value} {x : DataW H × List MemPlace} (ht : Tryz.prog.underlying 27 = some (.float .f64)) (h : DataW.trod enc Tryz.prog w base (fun _ => true) held fuel 27 cs = some x) :
 ∃ m, cs = [.float .f64 m] ∧ m < 18446744073709551616 := by
 cases fuel with
 | zero => simp [DataW.trod] at h
 | succ n =>
  unfold DataW.trod at h
  rw [ht] at h
  split at h <;> simp_all
  rename_i heq
  cases heq
  simpa [Lit.wf] using h.1.2
theorem bytes_in {fuel : Nat} {v : Value} {x : DataW H × List MemPlace} (h : DataW.trod enc Tryz.prog w base (fun _ => true) held fuel 22 [v] = some x) :
 ∃ a n c zs, v = .slice a n c ∧ n ≤ maxLen ∧ Reads w a n zs ∧ (a = none → c = 0) := by
 rcases open_ints Tryz.underlying22 Tryz.underlying5 (by kernel_rfl) h with ⟨hcs, _⟩ | ⟨x, l, c, zs, hcs, _, hl, hm, hz, _, hcell, hwz⟩
 · exact ⟨none, 0, 0, [], by simpa using hcs, Nat.zero_le _, ⟨rfl, .inl rfl, by simp⟩, fun _ => rfl⟩
 · have hin : (some x = none ∧ l = 0 ∧ c = 0 ∧ zs = []) ∨ ∃ y, some x = some y ∧ l ≤ c ∧ c ≤ maxLen ∧ zs.length = c ∧ (∀ i, i < zs.length → w.cell? (y.add i) = some (.int .u8 (zs.getD i 0))) ∧ ∀ n ∈ zs, (Lit.int .u8 n).wf = true := .inr ⟨_, rfl, hl, hm, by simpa using hz, hcell, hwz⟩
   exact ⟨some x, l, c, zs.take l, by simpa using hcs, len_in hin, reads_in hin, fun h => by cases h⟩
theorem item_cells {fuel : Nat} {cs : List Value} {x : DataW H × List MemPlace} (h : DataW.trod enc Tryz.prog w base (fun _ => true) held fuel 65 cs = some x) :
 ∃ K N f a n c zs, cs = [.int .i64 K, .int .i64 N, .float .f64 f, .slice a n c] ∧ n ≤ maxLen ∧ Reads w a n zs ∧ (a = none → c = 0) ∧ (-9223372036854775808 ≤ N ∧ N ≤ 9223372036854775807) ∧ f < 18446744073709551616 := by
 obtain ⟨xs, k, hk, hxy, hlen, hxl, hf⟩ := DataW.trod_struct Tryz.underlying65 h
 have e4 : Tryz.prog.cellsOf 65 = 4 := by kernel_rfl
 have e3 : Tryz.prog.cellsOf 3 = 1 := by kernel_rfl
 have e22 : Tryz.prog.cellsOf 22 = 1 := by kernel_rfl
 have e24 : Tryz.prog.cellsOf 27 = 1 := by kernel_rfl
 obtain ⟨c0, c1, c2, c3, rfl⟩ := list4 (hlen.trans e4)
 obtain ⟨y0, y1, y2, y3, rfl⟩ := list4 (α := DataW H × List MemPlace) (by simpa using hxl)
 have g0 := hf 0 _ rfl
 have g1 := hf 1 _ rfl
 have g2 := hf 2 _ rfl
 have g3 := hf 3 _ rfl
 simp [e3, e22, e24] at g0 g1 g2 g3
 obtain ⟨K, eK, _⟩ := DataW.trod_int Tryz.underlying3 g0
 obtain ⟨N, eN, _, hN⟩ := DataW.trod_int Tryz.underlying3 g1
 obtain ⟨f, eF, hF⟩ := trod_float2 Tryz.underlying27 g2
 obtain ⟨a, n, c, zs, e5, hm, hr, hc⟩ := bytes_in g3
 refine ⟨K, N, f, a, n, c, zs, ?_, hm, hr, hc, bounds_i64 hN, hF⟩
 simp at eK eN eF
 rw [eK, eN, eF, e5]
theorem tup_cells {fuel : Nat} {cs : List Value} {x : DataW H × List MemPlace} (h : DataW.trod enc Tryz.prog w base (fun _ => true) held fuel 67 cs = some x) :
 ∃ A B K N f a n c zs L M h a' m c' ys, cs = [.int .i64 A, .int .i64 B, .int .i64 K, .int .i64 N, .float .f64 f, .slice a n c, .int .i64 L, .int .i64 M, .float .f64 h, .slice a' m c'] ∧ n ≤ maxLen ∧ Reads w a n zs ∧ (a = none → c = 0) ∧ (-9223372036854775808 ≤ N ∧ N ≤ 9223372036854775807) ∧ f < 18446744073709551616 ∧ m ≤ maxLen ∧ Reads w a' m ys ∧ (a' = none → c' = 0) ∧ (-9223372036854775808 ≤ M ∧ M ≤ 9223372036854775807) ∧ h < 18446744073709551616 := by
 obtain ⟨xs, k, hk, hxy, hlen, hxl, hf⟩ := DataW.trod_struct Tryz.underlying67 h
 have e10 : Tryz.prog.cellsOf 67 = 10 := by kernel_rfl
 have e3 : Tryz.prog.cellsOf 3 = 1 := by kernel_rfl
 have e4 : Tryz.prog.cellsOf 65 = 4 := by kernel_rfl
 obtain ⟨c0, c1, c2, c3, c4, c5, c6, c7, c8, c9, rfl⟩ := list10 (hlen.trans e10)
 obtain ⟨y0, y1, y2, y3, rfl⟩ := list4 (α := DataW H × List MemPlace) (by simpa using hxl)
 have g0 := hf 0 _ rfl
 have g1 := hf 1 _ rfl
 have g2 := hf 2 _ rfl
 have g3 := hf 3 _ rfl
 simp [e3, e4] at g0 g1 g2 g3
 obtain ⟨A, eA, _⟩ := DataW.trod_int Tryz.underlying3 g0
 obtain ⟨B, eB, _⟩ := DataW.trod_int Tryz.underlying3 g1
 obtain ⟨K, N, f, a, n, c, zs, e2, hm2, hr2, hc2, hN2, hF2⟩ := item_cells g2
 obtain ⟨L, M, h, a', m, c', ys, e3, hm3, hr3, hc3, hN3, hF3⟩ := item_cells g3
 refine ⟨A, B, K, N, f, a, n, c, zs, L, M, h, a', m, c', ys, ?_, hm2, hr2, hc2, hN2, hF2, hm3, hr3, hc3, hN3, hF3⟩
 simp at eA eB e2 e3
 rw [eA, eB, e2.1, e2.2.1, e2.2.2.1, e2.2.2.2, e3.1, e3.2.1, e3.2.2.1, e3.2.2.2]
theorem tuple_in {r : Reach} {b0 : Nat} {v : Value} {d : DataW H} {p : List MemPlace} (hv : Value.okWide Tryz.prog w r b0 67 v) (h : DataW.Trod enc Tryz.prog w base (fun _ => true) held 67 v d p) :
 ∃ A B K N f a n c zs L M h a' m c' ys, v = .agg #[.int .i64 A, .int .i64 B, .int .i64 K, .int .i64 N, .float .f64 f, .slice a n c, .int .i64 L, .int .i64 M, .float .f64 h, .slice a' m c'] ∧ n ≤ maxLen ∧ Reads w a n zs ∧ (a = none → c = 0) ∧ (-9223372036854775808 ≤ N ∧ N ≤ 9223372036854775807) ∧ f < 18446744073709551616 ∧ m ≤ maxLen ∧ Reads w a' m ys ∧ (a' = none → c' = 0) ∧ (-9223372036854775808 ≤ M ∧ M ≤ 9223372036854775807) ∧ h < 18446744073709551616 := by
 obtain ⟨cs, rfl, _⟩ := okWide_struct Tryz.underlying67 hv
 obtain ⟨fuel, hf⟩ := h
 obtain ⟨A, B, K, N, f, a, n, c, zs, L, M, h, a', m, c', ys, e, rest⟩ := tup_cells hf
 refine ⟨A, B, K, N, f, a, n, c, zs, L, M, h, a', m, c', ys, ?_, rest⟩
 have e' : cs.toList = _ := e
 rw [show cs = cs.toList.toArray by simp, e']
end
end Go.Proofs.YtkfhfjghfadofaaGreat
