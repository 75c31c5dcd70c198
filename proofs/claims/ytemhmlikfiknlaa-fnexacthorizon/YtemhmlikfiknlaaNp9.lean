/- Snapshots that came in, opened: what they read as. No conditions. -/
import Derived.Test.YtemhmlikfiknlaaNm9
import Derived.Deep.SlicePairs
import Derived.Deep.Matrix
import Derived.Lib.SmallJoins
namespace Go.Proofs.Ytemhmlikfiknlaa
open Go.RowKit
set_option maxRecDepth 100000

open Go.ChangeShapes Go.WideShapes Go.Deep
theorem addr_plain9 {w : World} {a : Addr} {v : Value} (h : w.cell? (a.add 0) = some v) : ∃ b off, a = ⟨b, off, none⟩ := by
  obtain ⟨b, off, spot⟩ := a
  have hspot : spot = none := by simpa [Addr.add] using World.cell?_spot h
  subst hspot
  exact ⟨b, off, rfl⟩
theorem add_at9 (b off k : Nat) : (⟨b, off, none⟩ : Addr).add k = ⟨b, off + k, none⟩ := Go.WideShapes.add_plain b off k
theorem rowI_in {w : World} {a : Option Addr} {len cap : Nat} {zs : List Int}
    (h : (a = none ∧ len = 0 ∧ cap = 0 ∧ zs = []) ∨ ∃ x, a = some x ∧ len ≤ cap ∧ cap ≤ maxLen ∧ zs.length = cap ∧ (∀ i, i < zs.length → w.cell? (x.add i) = some (.int .i64 (zs.getD i 0))) ∧ ∀ n ∈ zs, (Lit.int .i64 n).wf = true) :
    RowI w (.slice a len cap) (zs.take len) := by
  have r := readsI_in h
  have hl := r.len
  have hm := len_in h
  refine ⟨a, cap, by rw [hl], by rw [hl]; exact r, ?_, by omega⟩
  intro ha
  rcases h with ⟨_, _, h, _⟩ | ⟨x, hx, _⟩
  · exact h
  · rw [ha] at hx; cases hx
section
variable {H : Type} {enc : TypeId × Value → H} {w : World} {base : Nat} {held : Bool}
theorem snaps_in {fuel : Nat} {v : Value} {x : DataW H × List MemPlace} (h : DataW.trod enc Try.prog w base (fun _ => true) held fuel 46 [v] = some x) :
    ∃ a n c ws, v = .slice a n c ∧ ws.length = n ∧ n ≤ maxLen ∧ ReadsN w a ws := by
  rcases open_slice_pairs Try.underlying46 Try.underlying36 (by kernel_rfl) (by kernel_rfl) (by kernel_rfl) (by kernel_rfl) (by kernel_rfl) h with ⟨hcs, _⟩ | ⟨a, len, cap, m, n, V0, V1, D0, D1, P0, P1, hcs, _, hlc, hcm, hmm, _, hx⟩
  · exact ⟨none, 0, 0, [], by simpa using hcs, rfl, Nat.zero_le _, ⟨.inl rfl⟩⟩
  · simp only [if_true] at hmm
    have each : ∀ i, i < m → ∃ p : Int × List Int, w.cell? (a.add (i * 2)) = some (.int .i64 p.1) ∧ ∃ v, w.cell? (a.add (i * 2 + 1)) = some v ∧ RowI w v p.2 := by
      intro i hi
      obtain ⟨h1, h2, h3, h4⟩ := hx i hi
      obtain ⟨q, e0, _⟩ := DataW.trod_int Try.underlying3 h3
      have e0' : V0 i = .int .i64 q := by simpa using e0
      have e1 : ∃ a0 l0 c0 zs, V1 i = .slice a0 l0 c0 ∧ ((a0 = none ∧ l0 = 0 ∧ c0 = 0 ∧ zs = []) ∨ ∃ x, a0 = some x ∧ l0 ≤ c0 ∧ c0 ≤ maxLen ∧ zs.length = c0 ∧ (∀ i, i < zs.length → w.cell? (x.add i) = some (.int .i64 (zs.getD i 0))) ∧ ∀ n ∈ zs, (Lit.int .i64 n).wf = true) := by
        rcases open_ints Try.underlying27 Try.underlying3 (by kernel_rfl) h4 with ⟨hcs, _⟩ | ⟨x, l, c, zs, hcs, _, hl, hm, hz, _, hcell, hwz⟩
        · exact ⟨none, 0, 0, [], by simpa using hcs, .inl ⟨rfl, rfl, rfl, rfl⟩⟩
        · exact ⟨some x, l, c, zs, by simpa using hcs, .inr ⟨_, rfl, hl, hm, by simpa using hz, hcell, hwz⟩⟩
      obtain ⟨a0, l0, c0, zs, ev, hin⟩ := e1
      exact ⟨(q, zs.take l0), by rw [h1, e0'], V1 i, h2, by rw [ev]; exact rowI_in hin⟩
    obtain ⟨q, hq⟩ := choose_lt each
    refine ⟨some a, len, cap, (List.range len).map q, by simpa using hcs, by simp, Nat.le_trans hlc hcm, ⟨?_⟩⟩
    by_cases h0 : len = 0
    · left; simp [h0]
    · right
      obtain ⟨b, off, rfl⟩ := addr_plain9 (v := .int .i64 (q 0).1) (by have := (hq 0 (by omega)).1; simpa using this)
      refine ⟨b, off, rfl, fun i hi => ?_⟩
      simp only [List.length_map, List.length_range] at hi
      have h1 := hq i (by omega)
      rw [add_at9, add_at9] at h1
      rw [show ((List.range len).map q).getD i sn0 = q i by simp [List.getD, hi]]
      exact h1
theorem snap_in {r : Reach} {b0 : Nat} {v : Value} {d : DataW H} {p : List MemPlace} (hv : Value.okWide Try.prog w r b0 36 v) (h : DataW.Trod enc Try.prog w base (fun _ => true) held 36 v d p) :
    ∃ S a n c R, v = .agg #[.int .i64 S, .slice a n c] ∧ n ≤ maxLen ∧ ReadsI w a n R := by
  obtain ⟨u0, u1, y0, y1, nn, rfl, _, _, t0, t1⟩ := Go.Joins.open_agg2 Try.underlying36 (by kernel_rfl) (by kernel_rfl) hv h
  obtain ⟨F, eF, _, hF⟩ := DataW.trod_int Try.underlying3 t0
  obtain rfl : u0 = _ := by simpa using eF
  rcases open_ints Try.underlying27 Try.underlying3 (by kernel_rfl) t1 with ⟨hcs, _⟩ | ⟨x, l, c, zs, hcs, _, hl, hm, hz, _, hcell, hwz⟩
  · obtain rfl : u1 = .slice none 0 0 := by simpa using hcs
    exact ⟨F, none, 0, 0, [], rfl, Nat.zero_le _, readsI_in (cap := 0) (zs := []) (.inl ⟨rfl, rfl, rfl, rfl⟩)⟩
  · obtain rfl : u1 = .slice (some x) l c := by simpa using hcs
    exact ⟨F, some x, l, c, zs.take l, rfl, Nat.le_trans hl hm, readsI_in (cap := c) (.inr ⟨_, rfl, hl, hm, by simpa using hz, hcell, hwz⟩)⟩
end
end Go.Proofs.Ytemhmlikfiknlaa
