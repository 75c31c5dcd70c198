/- Items, pairs and tracks that came in, opened: what they read as. No conditions. -/
import Derived.Test.YtoppccfgcccijaaDoorEd13
import Derived.Test.YtoppccfgcccijaaDoorTq
namespace Go.Proofs.YtoppccfgcccijaaDoor
open Go.RowKit Go.ChangeShapes Go.WideShapes Go.Deep
set_option maxRecDepth 100000

theorem list2t {α : Type} {cs : List α} (h : cs.length = 2) : ∃ c0 c1, cs = [c0, c1] := by
  match cs, h with
  | [a, b], _ => exact ⟨a, b, rfl⟩
theorem list8t {α : Type} {cs : List α} (h : cs.length = 8) : ∃ c0 c1 c2 c3 c4 c5 c6 c7, cs = [c0, c1, c2, c3, c4, c5, c6, c7] := by
  match cs, h with
  | [a, b, c, d, e, f, g, i], _ => exact ⟨a, b, c, d, e, f, g, i, rfl⟩
theorem addr_plain13 {w : World} {a : Addr} {v : Value} (h : w.cell? (a.add 0) = some v) : ∃ b off, a = ⟨b, off, none⟩ := by
  obtain ⟨b, off, spot⟩ := a
  have hspot : spot = none := by simpa [Addr.add] using World.cell?_spot h
  subst hspot
  exact ⟨b, off, rfl⟩
/-- The numbers of tracks are numbers of 64 bits. -/
def bdT1 (t : Tk) : Prop := (-9223372036854775808 ≤ t.xid ∧ t.xid ≤ 9223372036854775807) ∧ (-9223372036854775808 ≤ t.begun ∧ t.begun ≤ 9223372036854775807) ∧ (-9223372036854775808 ≤ t.ended ∧ t.ended ≤ 9223372036854775807)
def bdTs (ts : List Tk) : Prop := ∀ i, bdT1 (ts.getD i tk0)
section
variable {H : Type} {enc : TypeId × Value → H} {w : World} {base : Nat} {held : Bool}
theorem im_cells {fuel : Nat} {cs : List Value} {x : DataW H × List MemPlace} (h : DataW.trod enc Tryd.prog w base (fun _ => true) held fuel 25 cs = some x) :
    ∃ (e : Im) (a : Option Addr) (c : Nat), cs = [.int .i64 e.K, .int .i64 e.N, .float .f64 e.F, .slice a e.Z.length c] ∧ e.Z.length ≤ maxLen ∧ Reads w a e.Z.length e.Z ∧ (a = none → c = 0) ∧ e.F < 18446744073709551616 := by
  obtain ⟨K, N, f, a, n, c, zs, e2, hm2, hr2, hc2, hN2, hF2⟩ := item_cells h
  have hl := hr2.len
  subst hl
  exact ⟨⟨K, N, f, zs⟩, a, c, e2, hm2, hr2, hc2, hF2⟩
theorem pair_cells {fuel : Nat} {cs : List Value} {x : DataW H × List MemPlace} (h : DataW.trod enc Tryd.prog w base (fun _ => true) held fuel 87 cs = some x) :
    ∃ (e f : Im) (a : Option Addr) (c : Nat) (a' : Option Addr) (c' : Nat), cs = [.int .i64 e.K, .int .i64 e.N, .float .f64 e.F, .slice a e.Z.length c, .int .i64 f.K, .int .i64 f.N, .float .f64 f.F, .slice a' f.Z.length c'] ∧ (e.Z.length ≤ maxLen ∧ Reads w a e.Z.length e.Z ∧ (a = none → c = 0) ∧ e.F < 18446744073709551616) ∧ (f.Z.length ≤ maxLen ∧ Reads w a' f.Z.length f.Z ∧ (a' = none → c' = 0) ∧ f.F < 18446744073709551616) := by
  obtain ⟨xs, k, hk, hxy, hlen, hxl, hf⟩ := DataW.trod_struct Tryd.underlying87 h
  have e8 : Tryd.prog.cellsOf 87 = 8 := by kernel_rfl
  have e4 : Tryd.prog.cellsOf 25 = 4 := by kernel_rfl
  obtain ⟨c0, c1, c2, c3, c4, c5, c6, c7, rfl⟩ := list8t (hlen.trans e8)
  obtain ⟨y0, y1, rfl⟩ := list2t (α := DataW H × List MemPlace) (by simpa using hxl)
  have g0 := hf 0 _ rfl
  have g1 := hf 1 _ rfl
  simp [e4] at g0 g1
  obtain ⟨e, a, c, q1, r1⟩ := im_cells g0
  obtain ⟨f, a', c', q2, r2⟩ := im_cells g1
  refine ⟨e, f, a, c, a', c', ?_, r1, r2⟩
  simp at q1 q2
  rw [q1.1, q1.2.1, q1.2.2.1, q1.2.2.2, q2.1, q2.2.1, q2.2.2.1, q2.2.2.2]
theorem pairs_in {fuel : Nat} {v : Value} {x : DataW H × List MemPlace} (h : DataW.trod enc Tryd.prog w base (fun _ => true) held fuel 39 [v] = some x) :
    ∃ a c rs, v = .slice a (List.length rs) c ∧ rs.length ≤ maxLen ∧ ReadsM w a (fl2 rs) := by
  have e5 : Tryd.prog.cellsOf 87 = 8 := by kernel_rfl
  rcases open_slice Tryd.underlying39 h with ⟨hcs, _⟩ | ⟨a, len, cap, m, n, D, Pl, hcs, _, hlc, hcm, hmm, _, hx⟩
  · exact ⟨none, 0, [], by simpa using hcs, Nat.zero_le _, ReadsM.nil _ _⟩
  · simp only [if_true] at hmm
    obtain rfl : v = .slice (some a) len cap := by simpa using hcs
    have each : ∀ i, i < m → ∃ q : (Im × Value) × (Im × Value), ((w.cell? (a.add (i * 8 + 0)) = some (.int .i64 q.1.1.K) ∧ w.cell? (a.add (i * 8 + 1)) = some (.int .i64 q.1.1.N) ∧ w.cell? (a.add (i * 8 + 2)) = some (.float .f64 q.1.1.F) ∧ w.cell? (a.add (i * 8 + 3)) = some q.1.2) ∧ Row w q.1.2 q.1.1.Z ∧ q.1.1.F < 18446744073709551616) ∧ ((w.cell? (a.add (i * 8 + 4)) = some (.int .i64 q.2.1.K) ∧ w.cell? (a.add (i * 8 + 5)) = some (.int .i64 q.2.1.N) ∧ w.cell? (a.add (i * 8 + 6)) = some (.float .f64 q.2.1.F) ∧ w.cell? (a.add (i * 8 + 7)) = some q.2.2) ∧ Row w q.2.2 q.2.1.Z ∧ q.2.1.F < 18446744073709551616) := by
      intro i hi
      obtain ⟨cs', g1, g2⟩ := hx i hi
      rw [e5] at g1
      obtain ⟨_, hlen, hcell⟩ := World.cells?_some g1
      obtain ⟨e, f, a1, c1, a2, c2, ee, ⟨hm1, hr, hnil, hF⟩, ⟨hm2, hr2, hnil2, hF2⟩⟩ := pair_cells g2
      subst ee
      have k0 := hcell 0 (by omega)
      have k1 := hcell 1 (by omega)
      have k2 := hcell 2 (by omega)
      have k3 := hcell 3 (by omega)
      have k4 := hcell 4 (by omega)
      have k5 := hcell 5 (by omega)
      have k6 := hcell 6 (by omega)
      have k7 := hcell 7 (by omega)
      rw [add_add] at k0 k1 k2 k3 k4 k5 k6 k7
      exact ⟨((e, .slice a1 e.Z.length c1), (f, .slice a2 f.Z.length c2)), ⟨⟨by simpa using k0, by simpa using k1, by simpa using k2, by simpa using k3⟩, ⟨a1, c1, rfl, hr, hnil, hm1⟩, hF⟩, ⟨by simpa using k4, by simpa using k5, by simpa using k6, by simpa using k7⟩, ⟨a2, c2, rfl, hr2, hnil2, hm2⟩, hF2⟩
    haveI : Inhabited ((Im × Value) × (Im × Value)) := ⟨((im0, nilS), (im0, nilS))⟩
    obtain ⟨q, hq⟩ := choose_lt each
    refine ⟨some a, cap, (List.range len).map (fun i => ((q i).1.1, (q i).2.1)), by simp, by simpa using Nat.le_trans hlc hcm, ⟨?_⟩⟩
    by_cases h0 : len = 0
    · left; simp [h0, fl2]
    · right
      obtain ⟨b, off, rfl⟩ := addr_plain13 (v := .int .i64 (q 0).1.1.K) (by have := (hq 0 (by omega)).1.1.1; simpa using this)
      refine ⟨b, off, rfl, fun i hi => ?_⟩
      rw [fl2_len, List.length_map, List.length_range] at hi
      have hl : ((List.range len).map (fun i => ((q i).1.1, (q i).2.1))).getD (i / 2) sp0 = ((q (i / 2)).1.1, (q (i / 2)).2.1) := by simp [List.getD, show i / 2 < len by omega]
      have hat := fl2_at ((List.range len).map (fun i => ((q i).1.1, (q i).2.1))) (i / 2)
      rw [hl] at hat
      obtain ⟨⟨⟨g0, g1, g2, g3⟩, gr, gf⟩, ⟨g4, g5, g6, g7⟩, gr2, gf2⟩ := hq (i / 2) (by omega)
      simp only [Go.WideShapes.add_plain] at g0 g1 g2 g3 g4 g5 g6 g7
      by_cases hp : i = i / 2 * 2
      · have ho : off + i * 4 = off + i / 2 * 8 := by omega
        rw [hp, hat.1, ← hp, ho]
        exact ⟨(q (i / 2)).1.2, ⟨by simpa using g0, by rw [Nat.add_assoc]; exact g1, by rw [Nat.add_assoc]; exact g2, by rw [Nat.add_assoc]; exact g3⟩, gr, gf⟩
      · have hp' : i = i / 2 * 2 + 1 := by omega
        have ho : off + i * 4 = off + i / 2 * 8 + 4 := by omega
        rw [hp', hat.2, ← hp', ho]
        exact ⟨(q (i / 2)).2.2, ⟨by rw [Nat.add_assoc]; exact g4, by rw [Nat.add_assoc, Nat.add_assoc]; exact g5, by rw [Nat.add_assoc, Nat.add_assoc]; exact g6, by rw [Nat.add_assoc, Nat.add_assoc]; exact g7⟩, gr2, gf2⟩
theorem pair_in {r : Reach} {b0 : Nat} {v : Value} {d : DataW H} {p : List MemPlace} (hv : Value.okWide Tryd.prog w r b0 87 v) (h : DataW.Trod enc Tryd.prog w base (fun _ => true) held 87 v d p) :
    ∃ (e f : Im) (a : Option Addr) (c : Nat) (a' : Option Addr) (c' : Nat), v = .agg #[.int .i64 e.K, .int .i64 e.N, .float .f64 e.F, .slice a e.Z.length c, .int .i64 f.K, .int .i64 f.N, .float .f64 f.F, .slice a' f.Z.length c'] ∧ (e.Z.length ≤ maxLen ∧ Reads w a e.Z.length e.Z ∧ (a = none → c = 0) ∧ e.F < 18446744073709551616) ∧ (f.Z.length ≤ maxLen ∧ Reads w a' f.Z.length f.Z ∧ (a' = none → c' = 0) ∧ f.F < 18446744073709551616) := by
  obtain ⟨cs, rfl, _⟩ := okWide_struct Tryd.underlying87 hv
  obtain ⟨fuel, hf⟩ := h
  obtain ⟨e, f, a, c, a', c', ee, rest⟩ := pair_cells hf
  refine ⟨e, f, a, c, a', c', ?_, rest⟩
  have e' : cs.toList = _ := ee
  rw [show cs = cs.toList.toArray by simp, e']
end
end Go.Proofs.YtoppccfgcccijaaDoor
