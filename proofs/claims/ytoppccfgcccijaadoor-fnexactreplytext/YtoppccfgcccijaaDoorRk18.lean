/- A reply that came in, opened: what it reads as. No conditions. -/
import Derived.Test.YtoppccfgcccijaaDoorRd18
namespace Go.Proofs.YtoppccfgcccijaaDoor
open Go.RowKit Go.ChangeShapes Go.WideShapes Go.Deep
set_option maxRecDepth 100000

theorem list10r {α : Type} {cs : List α} (h : cs.length = 10) : ∃ c0 c1 c2 c3 c4 c5 c6 c7 c8 c9, cs = [c0, c1, c2, c3, c4, c5, c6, c7, c8, c9] := by
  match cs, h with
  | [c0, c1, c2, c3, c4, c5, c6, c7, c8, c9], _ => exact ⟨c0, c1, c2, c3, c4, c5, c6, c7, c8, c9, rfl⟩
theorem list7r {α : Type} {cs : List α} (h : cs.length = 7) : ∃ c0 c1 c2 c3 c4 c5 c6, cs = [c0, c1, c2, c3, c4, c5, c6] := by
  match cs, h with
  | [a, b, c, d, e, f, g], _ => exact ⟨a, b, c, d, e, f, g, rfl⟩
def bN (n : Int) : Prop := -9223372036854775808 ≤ n ∧ n ≤ 9223372036854775807
section
variable {H : Type} {enc : TypeId × Value → H} {w : World} {base : Nat} {held : Bool}
theorem im_cellsN {fuel : Nat} {cs : List Value} {x : DataW H × List MemPlace} (h : DataW.trod enc Tryd.prog w base (fun _ => true) held fuel 25 cs = some x) :
    ∃ (e : Im) (a : Option Addr) (c : Nat), cs = [.int .i64 e.K, .int .i64 e.N, .float .f64 e.F, .slice a e.Z.length c] ∧ e.Z.length ≤ maxLen ∧ Reads w a e.Z.length e.Z ∧ (a = none → c = 0) ∧ e.F < 18446744073709551616 ∧ bN e.N := by
  obtain ⟨K, N, f, a, n, c, zs, e2, hm2, hr2, hc2, hN2, hF2⟩ := item_cells h
  have hl := hr2.len
  subst hl
  exact ⟨⟨K, N, f, zs⟩, a, c, e2, hm2, hr2, hc2, hF2, hN2⟩
theorem pair_cellsN {fuel : Nat} {cs : List Value} {x : DataW H × List MemPlace} (h : DataW.trod enc Tryd.prog w base (fun _ => true) held fuel 87 cs = some x) :
    ∃ (e f : Im) (a : Option Addr) (c : Nat) (a' : Option Addr) (c' : Nat), cs = [.int .i64 e.K, .int .i64 e.N, .float .f64 e.F, .slice a e.Z.length c, .int .i64 f.K, .int .i64 f.N, .float .f64 f.F, .slice a' f.Z.length c'] ∧ (e.Z.length ≤ maxLen ∧ Reads w a e.Z.length e.Z ∧ (a = none → c = 0) ∧ e.F < 18446744073709551616 ∧ bN e.N) ∧ (f.Z.length ≤ maxLen ∧ Reads w a' f.Z.length f.Z ∧ (a' = none → c' = 0) ∧ f.F < 18446744073709551616 ∧ bN f.N) := by
  obtain ⟨xs, k, hk, hxy, hlen, hxl, hf⟩ := DataW.trod_struct Tryd.underlying87 h
  have e8 : Tryd.prog.cellsOf 87 = 8 := by kernel_rfl
  have e4 : Tryd.prog.cellsOf 25 = 4 := by kernel_rfl
  obtain ⟨c0, c1, c2, c3, c4, c5, c6, c7, rfl⟩ := list8t (hlen.trans e8)
  obtain ⟨y0, y1, rfl⟩ := list2t (α := DataW H × List MemPlace) (by simpa using hxl)
  have g0 := hf 0 _ rfl
  have g1 := hf 1 _ rfl
  simp [e4] at g0 g1
  obtain ⟨e, a, c, q1, r1⟩ := im_cellsN g0
  obtain ⟨f, a', c', q2, r2⟩ := im_cellsN g1
  refine ⟨e, f, a, c, a', c', ?_, r1, r2⟩
  simp at q1 q2
  rw [q1.1, q1.2.1, q1.2.2.1, q1.2.2.2, q2.1, q2.2.1, q2.2.2.1, q2.2.2.2]
theorem pairs_inN {fuel : Nat} {v : Value} {x : DataW H × List MemPlace} (h : DataW.trod enc Tryd.prog w base (fun _ => true) held fuel 39 [v] = some x) :
    ∃ a c rs, v = .slice a (List.length rs) c ∧ rs.length ≤ maxLen ∧ ReadsM w a (fl2 rs) ∧ ∀ j, bN ((fl2 rs).getD j im0).N := by
  have e5 : Tryd.prog.cellsOf 87 = 8 := by kernel_rfl
  rcases open_slice Tryd.underlying39 h with ⟨hcs, _⟩ | ⟨a, len, cap, m, n, D, Pl, hcs, _, hlc, hcm, hmm, _, hx⟩
  · exact ⟨none, 0, [], by simpa using hcs, Nat.zero_le _, ReadsM.nil _ _, fun j => by simp [fl2, im0, bN]⟩
  · simp only [if_true] at hmm
    obtain rfl : v = .slice (some a) len cap := by simpa using hcs
    have each : ∀ i, i < m → ∃ q : (Im × Value) × (Im × Value), ((w.cell? (a.add (i * 8 + 0)) = some (.int .i64 q.1.1.K) ∧ w.cell? (a.add (i * 8 + 1)) = some (.int .i64 q.1.1.N) ∧ w.cell? (a.add (i * 8 + 2)) = some (.float .f64 q.1.1.F) ∧ w.cell? (a.add (i * 8 + 3)) = some q.1.2) ∧ Row w q.1.2 q.1.1.Z ∧ q.1.1.F < 18446744073709551616 ∧ bN q.1.1.N) ∧ ((w.cell? (a.add (i * 8 + 4)) = some (.int .i64 q.2.1.K) ∧ w.cell? (a.add (i * 8 + 5)) = some (.int .i64 q.2.1.N) ∧ w.cell? (a.add (i * 8 + 6)) = some (.float .f64 q.2.1.F) ∧ w.cell? (a.add (i * 8 + 7)) = some q.2.2) ∧ Row w q.2.2 q.2.1.Z ∧ q.2.1.F < 18446744073709551616 ∧ bN q.2.1.N) := by
      intro i hi
      obtain ⟨cs', g1, g2⟩ := hx i hi
      rw [e5] at g1
      obtain ⟨_, hlen, hcell⟩ := World.cells?_some g1
      obtain ⟨e, f, a1, c1, a2, c2, ee, ⟨hm1, hr, hnil, hF, hN⟩, ⟨hm2, hr2, hnil2, hF2, hN2⟩⟩ := pair_cellsN g2
      subst ee
      have k0 := hcell 0 (by omega)
      have k1 := hcell 1 (by omega)
      have k2 := hcell 2 (by omega)
      have k3 := hcell 3 (by omega)
      have k4 := hcell 4 (by omega)
      have k5 := hcell 5 (by omega)
      have k6 := hcell 6 (by omega)
      have k7 := hcell 7 (by omega)
      rw [add_add] at k0 k1 k2 k3 k4 k5 k6 k7
      exact ⟨((e, .slice a1 e.Z.length c1), (f, .slice a2 f.Z.length c2)), ⟨⟨by simpa using k0, by simpa using k1, by simpa using k2, by simpa using k3⟩, ⟨a1, c1, rfl, hr, hnil, hm1⟩, hF, hN⟩, ⟨by simpa using k4, by simpa using k5, by simpa using k6, by simpa using k7⟩, ⟨a2, c2, rfl, hr2, hnil2, hm2⟩, hF2, hN2⟩
    haveI : Inhabited ((Im × Value) × (Im × Value)) := ⟨((im0, nilS), (im0, nilS))⟩
    obtain ⟨q, hq⟩ := choose_lt each
    refine ⟨some a, cap, (List.range len).map (fun i => ((q i).1.1, (q i).2.1)), by simp, by simpa using Nat.le_trans hlc hcm, ⟨?_⟩, fun j => ?_⟩
    · by_cases h0 : len = 0
      · left; simp [h0, fl2]
      · right
        obtain ⟨b, off, rfl⟩ := addr_plain13 (v := .int .i64 (q 0).1.1.K) (by have := (hq 0 (by omega)).1.1.1; simpa using this)
        refine ⟨b, off, rfl, fun i hi => ?_⟩
        rw [fl2_len, List.length_map, List.length_range] at hi
        have hl : ((List.range len).map (fun i => ((q i).1.1, (q i).2.1))).getD (i / 2) sp0 = ((q (i / 2)).1.1, (q (i / 2)).2.1) := by simp [List.getD, show i / 2 < len by omega]
        have hat := fl2_at ((List.range len).map (fun i => ((q i).1.1, (q i).2.1))) (i / 2)
        rw [hl] at hat
        obtain ⟨⟨⟨g0, g1, g2, g3⟩, gr, gf, _⟩, ⟨g4, g5, g6, g7⟩, gr2, gf2, _⟩ := hq (i / 2) (by omega)
        simp only [Go.WideShapes.add_plain] at g0 g1 g2 g3 g4 g5 g6 g7
        by_cases hp : i = i / 2 * 2
        · have ho : off + i * 4 = off + i / 2 * 8 := by omega
          rw [hp, hat.1, ← hp, ho]
          exact ⟨(q (i / 2)).1.2, ⟨by simpa using g0, by rw [Nat.add_assoc]; exact g1, by rw [Nat.add_assoc]; exact g2, by rw [Nat.add_assoc]; exact g3⟩, gr, gf⟩
        · have hp' : i = i / 2 * 2 + 1 := by omega
          have ho : off + i * 4 = off + i / 2 * 8 + 4 := by omega
          rw [hp', hat.2, ← hp', ho]
          exact ⟨(q (i / 2)).2.2, ⟨by rw [Nat.add_assoc]; exact g4, by rw [Nat.add_assoc, Nat.add_assoc]; exact g5, by rw [Nat.add_assoc, Nat.add_assoc]; exact g6, by rw [Nat.add_assoc, Nat.add_assoc]; exact g7⟩, gr2, gf2⟩
    · by_cases hj : j < len * 2
      · have hl : ((List.range len).map (fun i => ((q i).1.1, (q i).2.1))).getD (j / 2) sp0 = ((q (j / 2)).1.1, (q (j / 2)).2.1) := by simp [List.getD, show j / 2 < len by omega]
        have hat := fl2_at ((List.range len).map (fun i => ((q i).1.1, (q i).2.1))) (j / 2)
        rw [hl] at hat
        have hb := hq (j / 2) (by omega)
        by_cases hp : j = j / 2 * 2
        · rw [hp, hat.1]
          exact hb.1.2.2.2
        · rw [show j = j / 2 * 2 + 1 by omega, hat.2]
          exact hb.2.2.2.2
      · rw [List.getD_eq_getElem?_getD, List.getElem?_eq_none (by rw [fl2_len, List.length_map, List.length_range]; omega)]
        simp [im0, bN]

theorem reply_cells {fuel : Nat} {cs : List Value} {x : DataW H × List MemPlace} (h : DataW.trod enc Tryd.prog w base (fun _ => true) held fuel 41 cs = some x) :
    ∃ (se kd co nn : Int) (e1 : Im) (a1 : Option Addr) (k1 : Nat) (ar : Option Addr) (rs : List (Im × Im)) (cr tot : Nat), cs = [.int .i64 se, .int .i64 kd, .int .i64 co, .int .i64 nn, .int .i64 e1.K, .int .i64 e1.N, .float .f64 e1.F, .slice a1 e1.Z.length k1, .slice ar rs.length cr, .float .f64 tot] ∧ (e1.Z.length ≤ maxLen ∧ Reads w a1 e1.Z.length e1.Z ∧ e1.F < 18446744073709551616) ∧ (rs.length ≤ maxLen ∧ ReadsM w ar (fl2 rs)) ∧ tot < 18446744073709551616 ∧ (-9223372036854775808 ≤ se ∧ se ≤ 9223372036854775807) ∧ (-9223372036854775808 ≤ kd ∧ kd ≤ 9223372036854775807) ∧ (-9223372036854775808 ≤ nn ∧ nn ≤ 9223372036854775807) ∧ (-9223372036854775808 ≤ e1.N ∧ e1.N ≤ 9223372036854775807) ∧ ∀ j, -9223372036854775808 ≤ ((fl2 rs).getD j im0).N ∧ ((fl2 rs).getD j im0).N ≤ 9223372036854775807 := by
  obtain ⟨xs, k, hk, hxy, hlen, hxl, hf⟩ := DataW.trod_struct Tryd.underlying41 h
  have q0 : Tryd.prog.cellsOf 41 = 10 := by kernel_rfl
  have q3 : Tryd.prog.cellsOf 3 = 1 := by kernel_rfl
  have q4 : Tryd.prog.cellsOf 25 = 4 := by kernel_rfl
  have q5 : Tryd.prog.cellsOf 39 = 1 := by kernel_rfl
  have q6 : Tryd.prog.cellsOf 22 = 1 := by kernel_rfl
  obtain ⟨c0, c1, c2, c3, c4, c5, c6, c7, c8, c9, rfl⟩ := list10r (hlen.trans q0)
  obtain ⟨y0, y1, y2, y3, y4, y5, y6, rfl⟩ := list7r (α := DataW H × List MemPlace) (by simpa using hxl)
  have g0 := hf 0 _ rfl
  have g1 := hf 1 _ rfl
  have g2 := hf 2 _ rfl
  have g3 := hf 3 _ rfl
  have g4 := hf 4 _ rfl
  have g5 := hf 5 _ rfl
  have g6 := hf 6 _ rfl
  simp [q3, q4, q5, q6] at g0 g1 g2 g3 g4 g5 g6
  obtain ⟨I0, eI0, _, w0⟩ := DataW.trod_int Tryd.underlying3 g0
  obtain ⟨I1, eI1, _, w1⟩ := DataW.trod_int Tryd.underlying3 g1
  obtain ⟨I2, eI2, _, w2⟩ := DataW.trod_int Tryd.underlying3 g2
  obtain ⟨I3, eI3, _, w3⟩ := DataW.trod_int Tryd.underlying3 g3
  obtain ⟨e1, a1, k1, u1, m1, r1, _, f1, n1⟩ := im_cellsN g4
  obtain ⟨ar, cr, rs, ub, mb, rb, nb⟩ := pairs_inN g5
  obtain ⟨tot, eT, hT⟩ := trod_float2 Tryd.underlying22 g6
  refine ⟨I0, I1, I2, I3, e1, a1, k1, ar, rs, cr, tot, ?_, ⟨m1, r1, f1⟩, ⟨mb, rb⟩, hT, bounds_i64 w0, bounds_i64 w1, bounds_i64 w3, n1, nb⟩
  simp at eI0 eI1 eI2 eI3 u1 eT
  rw [eI0, eI1, eI2, eI3, u1.1, u1.2.1, u1.2.2.1, u1.2.2.2, ub, eT]
theorem reply_in {r : Reach} {b0 : Nat} {v : Value} {d : DataW H} {p : List MemPlace} (hv : Value.okWide Tryd.prog w r b0 41 v) (h : DataW.Trod enc Tryd.prog w base (fun _ => true) held 41 v d p) :
    ∃ (se kd co nn : Int) (e1 : Im) (a1 : Option Addr) (k1 : Nat) (ar : Option Addr) (rs : List (Im × Im)) (cr tot : Nat), v = .agg #[.int .i64 se, .int .i64 kd, .int .i64 co, .int .i64 nn, .int .i64 e1.K, .int .i64 e1.N, .float .f64 e1.F, .slice a1 e1.Z.length k1, .slice ar rs.length cr, .float .f64 tot] ∧ (e1.Z.length ≤ maxLen ∧ Reads w a1 e1.Z.length e1.Z ∧ e1.F < 18446744073709551616) ∧ (rs.length ≤ maxLen ∧ ReadsM w ar (fl2 rs)) ∧ tot < 18446744073709551616 ∧ (-9223372036854775808 ≤ se ∧ se ≤ 9223372036854775807) ∧ (-9223372036854775808 ≤ kd ∧ kd ≤ 9223372036854775807) ∧ (-9223372036854775808 ≤ nn ∧ nn ≤ 9223372036854775807) ∧ (-9223372036854775808 ≤ e1.N ∧ e1.N ≤ 9223372036854775807) ∧ ∀ j, -9223372036854775808 ≤ ((fl2 rs).getD j im0).N ∧ ((fl2 rs).getD j im0).N ≤ 9223372036854775807 := by
  obtain ⟨cs, rfl, _⟩ := okWide_struct Tryd.underlying41 hv
  obtain ⟨fuel, hf⟩ := h
  obtain ⟨se, kd, co, nn, e1, a1, k1, ar, rs, cr, tot, ee, rest⟩ := reply_cells hf
  refine ⟨se, kd, co, nn, e1, a1, k1, ar, rs, cr, tot, ?_, rest⟩
  have e' : cs.toList = _ := ee
  rw [show cs = cs.toList.toArray by simp, e']
end
end Go.Proofs.YtoppccfgcccijaaDoor
