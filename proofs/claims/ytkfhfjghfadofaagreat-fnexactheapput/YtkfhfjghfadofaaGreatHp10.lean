/- Heaps that came in, opened: what they read as. No conditions. -/
import Derived.Test.YtkfhfjghfadofaaGreatMga
import Derived.Deep.SlicePairs
import Derived.Deep.Matrix
import Derived.Lib.SmallJoins
namespace Go.Proofs.YtkfhfjghfadofaaGreat
open Go.RowKit
set_option maxRecDepth 100000
open Go.ChangeShapes Go.WideShapes Go.Deep
section
variable {H : Type} {enc : TypeId × Value → H} {w : World} {base : Nat} {held : Bool}
theorem slots_in {fuel : Nat} {v : Value} {x : DataW H × List MemPlace} (h : DataW.trod enc Tryz.prog w base (fun _ => true) held fuel 85 [v] = some x) :
 ∃ a c ss, v = .slice a ss.length c ∧ ss.length ≤ maxLen ∧ ReadsP w a ss := by
 rcases open_int_rows (k := .u8) Tryz.underlying85 Tryz.underlying22 Tryz.underlying5 (by kernel_rfl) (by kernel_rfl) h with ⟨hcs, _⟩ | ⟨a, len, cap, A, L, C, Z, hcs, _, hlc, hcm, _, hx⟩
 · exact ⟨none, 0, [], by simpa using hcs, Nat.zero_le _, ⟨⟨.inl rfl⟩, fun b off e => by cases e⟩⟩
 · have hlen : ((List.range len).map fun r => (Z r).take (L r)).length = len := by simp
   have each : ∀ i, i < len → ∀ b off, a = ⟨b, off, none⟩ → w.cell? ⟨b, off + i, none⟩ = some (.slice (A i) (L i) (C i)) ∧ L i ≤ C i ∧ Row w (.slice (A i) (L i) (C i)) ((Z i).take (L i)) := by
    intro i hi b off ea
    obtain ⟨h1, h2, h3, h4, h5, h6, h7⟩ := hx i (by omega)
    rw [ea, add_at] at h1
    refine ⟨h1, h2, row_in ?_⟩
    cases hA : A i with
    | none =>
     have hC := h6 hA
     exact .inl ⟨rfl, by omega, hC, List.eq_nil_of_length_eq_zero (by omega)⟩
    | some y => exact .inr ⟨y, rfl, h2, h3, h4, fun c hc => (h7 y hA).2 c (by omega), h5⟩
   refine ⟨some a, cap, (List.range len).map fun r => (Z r).take (L r), by rw [hlen]; simpa using hcs, by rw [hlen]; exact Nat.le_trans hlc hcm, ⟨⟨?_⟩, ?_⟩⟩
   · by_cases h0 : len = 0
     · left; rw [hlen]; exact h0
     · right
       obtain ⟨b, off, rfl⟩ := addr_plain (hx 0 (by omega)).1
       refine ⟨b, off, rfl, fun i hi => ?_⟩
       rw [hlen] at hi
       obtain ⟨h1, _, h3⟩ := each i hi b off rfl
       rw [show ((List.range len).map fun r => (Z r).take (L r)).getD i [] = (Z i).take (L i) by simp [List.getD, hi]]
       exact ⟨_, h1, h3⟩
   · intro b off e i hi a1 l1 c1 hc
     rw [hlen] at hi
     obtain ⟨h1, h2, _⟩ := each i hi b off (Option.some.inj e)
     rw [h1] at hc
     cases hc
     exact h2
theorem pages_in {fuel : Nat} {v : Value} {x : DataW H × List MemPlace} (h : DataW.trod enc Tryz.prog w base (fun _ => true) held fuel 62 [v] = some x) :
 ∃ a c ps, v = .slice a ps.length c ∧ ps.length ≤ maxLen ∧ ReadsG w a ps := by
 rcases open_slice_pairs Tryz.underlying62 Tryz.underlying148 (by kernel_rfl) (by kernel_rfl) (by kernel_rfl) (by kernel_rfl) (by kernel_rfl) h with ⟨hcs, _⟩ | ⟨a, len, cap, m, n, V0, V1, D0, D1, P0, P1, hcs, _, hlc, hcm, hmm, _, hx⟩
 · exact ⟨none, 0, [], by simpa using hcs, Nat.zero_le _, ⟨.inl rfl⟩⟩
 · simp only [if_true] at hmm
   have each : ∀ i, i < m → ∃ p : Pg, w.cell? (a.add (i * 2)) = some (.int .i64 p.1) ∧ ∃ a1 c1, w.cell? (a.add (i * 2 + 1)) = some (.slice a1 p.2.length c1) ∧ ReadsP w a1 p.2 ∧ p.2.length ≤ maxLen := by
    intro i hi
    obtain ⟨h1, h2, h3, h4⟩ := hx i hi
    obtain ⟨q, e0, _⟩ := DataW.trod_int Tryz.underlying3 h3
    have e0' : V0 i = .int .i64 q := by simpa using e0
    obtain ⟨a1, c1, ss, ev, hm, hr⟩ := slots_in h4
    exact ⟨(q, ss), by rw [h1, e0'], a1, c1, by rw [h2, ev], hr, hm⟩
   obtain ⟨q, hq⟩ := choose_lt each
   have hlen : ((List.range len).map q).length = len := by simp
   refine ⟨some a, cap, (List.range len).map q, by rw [hlen]; simpa using hcs, by rw [hlen]; exact Nat.le_trans hlc hcm, ⟨?_⟩⟩
   by_cases h0 : len = 0
   · left; rw [hlen]; exact h0
   · right
     obtain ⟨b, off, rfl⟩ := addr_plain (v := .int .i64 (q 0).1) (by have := (hq 0 (by omega)).1; simpa using this)
     refine ⟨b, off, rfl, fun i hi => ?_⟩
     rw [hlen] at hi
     have h1 := hq i (by omega)
     rw [add_at, add_at] at h1
     rw [show ((List.range len).map q).getD i pg0 = q i by simp [List.getD, hi]]
     exact h1
theorem heap_in {r : Reach} {b0 : Nat} {v : Value} {d : DataW H} {p : List MemPlace} (hv : Value.okWide Tryz.prog w r b0 64 v) (h : DataW.Trod enc Tryz.prog w base (fun _ => true) held 64 v d p) :
 ∃ a n c ps, v = .agg #[.slice a n c] ∧ ps.length = n ∧ n ≤ maxLen ∧ ReadsG w a ps := by
 obtain ⟨cs, rfl, hsz⟩ := okWide_struct Tryz.underlying64 hv
 have h1 : cs.size = 1 := hsz.trans (by kernel_rfl)
 obtain ⟨c0, rfl⟩ : ∃ c0, cs = #[c0] := by
  rcases cs with ⟨l⟩
  match l, h1 with
  | [c0], _ => exact ⟨c0, rfl⟩
 obtain ⟨fuel, hf⟩ := h
 obtain ⟨xs, n, _, _, _, hlen, hff⟩ := DataW.trod_struct Tryz.underlying64 hf
 have hz := hff 0 _ rfl
 have ec : Tryz.prog.cellsOf 62 = 1 := by kernel_rfl
 have hx0 : 0 < xs.length := by rw [hlen]; decide
 rw [List.getElem?_eq_getElem hx0] at hz
 obtain ⟨a, c, ps, e, hm, hr⟩ := pages_in (enc := enc) (base := base) (held := held) (fuel := n) (v := c0) (by simpa [Value.cells, ec] using hz)
 exact ⟨a, ps.length, c, ps, by rw [e], rfl, hm, hr⟩
end
end Go.Proofs.YtkfhfjghfadofaaGreat
