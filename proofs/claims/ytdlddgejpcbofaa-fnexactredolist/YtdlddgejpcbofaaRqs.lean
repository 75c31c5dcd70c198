/- A list of records that came in, opened: what it reads as. No conditions. -/
import Derived.Test.YtdlddgejpcbofaaRq
import Derived.Test.YtdlddgejpcbofaaRl
import Derived.Deep.Slices
namespace Go.Proofs.Ytdlddgejpcbofaa
open Go.RowKit Go.ChangeShapes Go.WideShapes Go.Deep
set_option maxRecDepth 100000

section
variable {H : Type} {enc : TypeId × Value → H} {w : World} {base : Nat} {held : Bool}

theorem addr_plain' {w : World} {a : Addr} {v : Value} (h : w.cell? (a.add 0) = some v) : ∃ b off, a = ⟨b, off, none⟩ := by
  obtain ⟨b, off, spot⟩ := a
  have hspot : spot = none := by simpa [Addr.add] using World.cell?_spot h
  subst hspot
  exact ⟨b, off, rfl⟩

theorem records_in {r : Reach} {b0 : Nat} {v : Value} {d : DataW H} {p : List MemPlace} (hv : Value.okWide Try.prog w r b0 23 v) (h : DataW.Trod enc Try.prog w base (fun _ => true) held 23 v d p) :
    ∃ a n c rs, v = .slice a n c ∧ rs.length = n ∧ n ≤ maxLen ∧ ReadsR w a rs := by
  obtain ⟨a0, len0, cap0, rfl⟩ := okWide_slice Try.underlying23 hv
  obtain ⟨fuel, hf⟩ := h
  have e6 : Try.prog.cellsOf 38 = 6 := by kernel_rfl
  rcases open_slice Try.underlying23 hf with ⟨hcs, _⟩ | ⟨a, len, cap, m, n, D, Pl, hcs, _, hlc, hcm, hmm, _, hx⟩
  · simp [Value.cells] at hcs
    obtain ⟨rfl, rfl, rfl⟩ := hcs
    exact ⟨none, 0, 0, [], rfl, rfl, Nat.zero_le _, ⟨.inl rfl⟩⟩
  · simp only [if_true] at hmm
    simp [Value.cells] at hcs
    obtain ⟨rfl, rfl, rfl⟩ := hcs
    have each : ∀ i, i < m → ∃ q : Rc × Value, (w.cell? (a.add (i * 6 + 0)) = some (.int .i64 q.1.K) ∧ w.cell? (a.add (i * 6 + 1)) = some (.int .i64 q.1.L) ∧ w.cell? (a.add (i * 6 + 2)) = some (.int .i64 q.1.X) ∧ w.cell? (a.add (i * 6 + 3)) = some (.int .i64 q.1.P) ∧ w.cell? (a.add (i * 6 + 4)) = some (.int .i64 q.1.S) ∧ w.cell? (a.add (i * 6 + 5)) = some q.2) ∧ Row w q.2 q.1.D := by
      intro i hi
      obtain ⟨cs', g1, g2⟩ := hx i hi
      rw [e6] at g1
      obtain ⟨_, hlen, hcell⟩ := World.cells?_some g1
      obtain ⟨K, L, X, P, S, a1, n1, c1, zs, e, hm1, hr, hnil⟩ := rec_cells g2
      subst e
      have k0 := hcell 0 (by omega)
      have k1 := hcell 1 (by omega)
      have k2 := hcell 2 (by omega)
      have k3 := hcell 3 (by omega)
      have k4 := hcell 4 (by omega)
      have k5 := hcell 5 (by omega)
      rw [add_add] at k0 k1 k2 k3 k4 k5
      refine ⟨(⟨K, L, X, P, S, zs⟩, .slice a1 n1 c1), ⟨by simpa using k0, by simpa using k1, by simpa using k2, by simpa using k3, by simpa using k4, by simpa using k5⟩, ?_⟩
      exact ⟨a1, c1, by rw [hr.len], by rw [hr.len]; exact hr, hnil, by rw [hr.len]; exact hm1⟩
    haveI : Inhabited (Rc × Value) := ⟨(r0, nilS)⟩
    obtain ⟨q, hq⟩ := choose_lt each
    refine ⟨some a, len0, cap0, (List.range len0).map (fun i => (q i).1), rfl, by simp, Nat.le_trans hlc hcm, ⟨?_⟩⟩
    by_cases h0 : len0 = 0
    · left; simp [h0]
    · right
      obtain ⟨b, off, rfl⟩ := addr_plain' (v := .int .i64 (q 0).1.K) (by have := (hq 0 (by omega)).1.1; simpa using this)
      refine ⟨b, off, rfl, fun i hi => ?_⟩
      simp only [List.length_map, List.length_range] at hi
      obtain ⟨⟨g0, g1, g2, g3, g4, g5⟩, gr⟩ := hq i (by omega)
      simp only [Go.WideShapes.add_plain] at g0 g1 g2 g3 g4 g5
      rw [show ((List.range len0).map (fun i => (q i).1)).getD i r0 = (q i).1 by simp [List.getD, hi]]
      refine ⟨(q i).2, ⟨?_, ?_, ?_, ?_, ?_, ?_⟩, gr⟩
      · rw [Nat.add_assoc]; exact g0
      · rw [Nat.add_assoc]; exact g1
      · rw [Nat.add_assoc]; exact g2
      · rw [Nat.add_assoc]; exact g3
      · rw [Nat.add_assoc]; exact g4
      · rw [Nat.add_assoc]; exact g5
end
end Go.Proofs.Ytdlddgejpcbofaa
