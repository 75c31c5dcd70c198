/- A disk that came in, opened: what it reads as. -/
import Derived.Test.YtlbkfpnpighemaaDoorDm
import Derived.Deep.SlicePairs
import Derived.Deep.Matrix
import Derived.Lib.SmallJoins
namespace Go.Proofs.YtlbkfpnpighemaaDoor
open Go.RowKit Go.ChangeShapes Go.WideShapes Go.Deep

theorem addr_plain {w : World} {a : Addr} {v : Value} (h : w.cell? (a.add 0) = some v) : ∃ b off, a = ⟨b, off, none⟩ := by
  obtain ⟨b, off, spot⟩ := a
  have hspot : spot = none := by simpa [Addr.add] using World.cell?_spot h
  subst hspot
  exact ⟨b, off, rfl⟩
theorem add_at (b off k : Nat) : (⟨b, off, none⟩ : Addr).add k = ⟨b, off + k, none⟩ := Go.WideShapes.add_plain b off k

theorem row_in {w : World} {a : Option Addr} {len cap : Nat} {zs : List Int}
    (h : (a = none ∧ len = 0 ∧ cap = 0 ∧ zs = []) ∨ ∃ x, a = some x ∧ len ≤ cap ∧ cap ≤ maxLen ∧ zs.length = cap ∧ (∀ i, i < zs.length → w.cell? (x.add i) = some (.int .u8 (zs.getD i 0))) ∧ ∀ n ∈ zs, (Lit.int .u8 n).wf = true) :
    Row w (.slice a len cap) (zs.take len) := by
  have r := reads_in h
  have hl := r.len
  have hm := len_in h
  refine ⟨a, cap, by rw [hl], by rw [hl]; exact r, ?_, by omega⟩
  intro ha
  rcases h with ⟨_, _, h, _⟩ | ⟨x, hx, _⟩
  · exact h
  · rw [ha] at hx; cases hx

section
variable {H : Type} {enc : TypeId × Value → H} {w : World} {base : Nat} {held : Bool}

theorem sectors_in {fuel : Nat} {v : Value} {x : DataW H × List MemPlace} (h : DataW.trod enc Tryd.prog w base (fun _ => true) held fuel 24 [v] = some x) :
    ∃ a n c ss, v = .slice a n c ∧ ss.length = n ∧ n ≤ maxLen ∧ ReadsS w a ss := by
  rcases open_int_rows (k := .u8) Tryd.underlying24 Tryd.underlying22 Tryd.underlying5 (by kernel_rfl) (by kernel_rfl) h with ⟨hcs, _⟩ | ⟨a, len, cap, A, L, C, Z, hcs, _, hlc, hcm, _, hx⟩
  · exact ⟨none, 0, 0, [], by simpa using hcs, rfl, Nat.zero_le _, ⟨.inl rfl⟩⟩
  · refine ⟨some a, len, cap, (List.range len).map fun r => (Z r).take (L r), by simpa using hcs, by simp, Nat.le_trans hlc hcm, ⟨?_⟩⟩
    by_cases h0 : len = 0
    · left; simp [h0]
    · right
      obtain ⟨b, off, rfl⟩ := addr_plain (hx 0 (by omega)).1
      refine ⟨b, off, rfl, fun i hi => ?_⟩
      simp only [List.length_map, List.length_range] at hi
      obtain ⟨h1, h2, h3, h4, h5, h6, h7⟩ := hx i (by omega)
      rw [add_at] at h1
      refine ⟨_, h1, ?_⟩
      rw [show ((List.range len).map fun r => (Z r).take (L r)).getD i [] = (Z i).take (L i) by simp [List.getD, hi]]
      refine row_in ?_
      cases hA : A i with
      | none =>
        have hC := h6 hA
        exact .inl ⟨rfl, by omega, hC, List.eq_nil_of_length_eq_zero (by omega)⟩
      | some y => exact .inr ⟨y, rfl, h2, h3, h4, fun c hc => (h7 y hA).2 c (by omega), h5⟩

theorem writes_in {fuel : Nat} {v : Value} {x : DataW H × List MemPlace} (h : DataW.trod enc Tryd.prog w base (fun _ => true) held fuel 45 [v] = some x) :
    ∃ a n c ws, v = .slice a n c ∧ ws.length = n ∧ n ≤ maxLen ∧ ReadsW w a ws := by
  rcases open_slice_pairs Tryd.underlying45 Tryd.underlying94 (by kernel_rfl) (by kernel_rfl) (by kernel_rfl) (by kernel_rfl) (by kernel_rfl) h with ⟨hcs, _⟩ | ⟨a, len, cap, m, n, V0, V1, D0, D1, P0, P1, hcs, _, hlc, hcm, hmm, _, hx⟩
  · exact ⟨none, 0, 0, [], by simpa using hcs, rfl, Nat.zero_le _, ⟨.inl rfl⟩⟩
  · simp only [if_true] at hmm
    have each : ∀ i, i < m → ∃ p : Int × List Int, w.cell? (a.add (i * 2)) = some (.int .i64 p.1) ∧ ∃ v, w.cell? (a.add (i * 2 + 1)) = some v ∧ Row w v p.2 := by
      intro i hi
      obtain ⟨h1, h2, h3, h4⟩ := hx i hi
      obtain ⟨q, e0, _⟩ := DataW.trod_int Tryd.underlying3 h3
      have e0' : V0 i = .int .i64 q := by simpa using e0
      have e1 : ∃ a0 l0 c0 zs, V1 i = .slice a0 l0 c0 ∧ ((a0 = none ∧ l0 = 0 ∧ c0 = 0 ∧ zs = []) ∨ ∃ x, a0 = some x ∧ l0 ≤ c0 ∧ c0 ≤ maxLen ∧ zs.length = c0 ∧ (∀ i, i < zs.length → w.cell? (x.add i) = some (.int .u8 (zs.getD i 0))) ∧ ∀ n ∈ zs, (Lit.int .u8 n).wf = true) := by
        rcases open_ints Tryd.underlying22 Tryd.underlying5 (by kernel_rfl) h4 with ⟨hcs, _⟩ | ⟨x, l, c, zs, hcs, _, hl, hm, hz, _, hcell, hwz⟩
        · exact ⟨none, 0, 0, [], by simpa using hcs, .inl ⟨rfl, rfl, rfl, rfl⟩⟩
        · exact ⟨some x, l, c, zs, by simpa using hcs, .inr ⟨_, rfl, hl, hm, by simpa using hz, hcell, hwz⟩⟩
      obtain ⟨a0, l0, c0, zs, ev, hin⟩ := e1
      exact ⟨(q, zs.take l0), by rw [h1, e0'], V1 i, h2, by rw [ev]; exact row_in hin⟩
    obtain ⟨q, hq⟩ := choose_lt each
    refine ⟨some a, len, cap, (List.range len).map q, by simpa using hcs, by simp, Nat.le_trans hlc hcm, ⟨?_⟩⟩
    by_cases h0 : len = 0
    · left; simp [h0]
    · right
      obtain ⟨b, off, rfl⟩ := addr_plain (v := .int .i64 (q 0).1) (by have := (hq 0 (by omega)).1; simpa using this)
      refine ⟨b, off, rfl, fun i hi => ?_⟩
      simp only [List.length_map, List.length_range] at hi
      have h1 := hq i (by omega)
      rw [add_at, add_at] at h1
      rw [show ((List.range len).map q).getD i w0 = q i by simp [List.getD, hi]]
      exact h1

set_option maxRecDepth 100000 in
theorem disk_in {r : Reach} {b0 : Nat} {v : Value} {d : DataW H} {p : List MemPlace} (hv : Value.okWide Tryd.prog w r b0 47 v) (h : DataW.Trod enc Tryd.prog w base (fun _ => true) held 47 v d p) :
    ∃ aS nS cS aW nW cW F D ss ws, v = .agg #[.slice aS nS cS, .slice aW nW cW, .int .i64 F, .bool D] ∧ ss.length = nS ∧ ws.length = nW ∧ nS ≤ maxLen ∧ nW ≤ maxLen ∧ ReadsD w aS aW ss ws ∧ -9223372036854775808 ≤ F ∧ F ≤ 9223372036854775807 := by
  obtain ⟨u0, u1, u2, u3, y0, y1, y2, y3, nn, rfl, _, _, t0, t1, t2, t3⟩ := Go.Joins.open_agg4 Tryd.underlying47 (by kernel_rfl) (by kernel_rfl) hv h
  obtain ⟨aS, nS, cS, ss, rfl, e1, e2, r1⟩ := sectors_in t0
  obtain ⟨aW, nW, cW, ws, rfl, e3, e4, r2⟩ := writes_in t1
  obtain ⟨F, eF, _, hF⟩ := DataW.trod_int Tryd.underlying3 t2
  obtain ⟨D, eD, _⟩ := DataW.trod_bool Tryd.underlying4 t3
  obtain rfl : u2 = _ := by simpa using eF
  obtain rfl : u3 = _ := by simpa using eD
  exact ⟨aS, nS, cS, aW, nW, cW, F, D, ss, ws, rfl, e1, e3, e2, e4, ⟨r1, r2⟩, bounds_i64 hF⟩
end
end Go.Proofs.YtlbkfpnpighemaaDoor
