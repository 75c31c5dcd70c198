/- An op that came in, opened: what it reads as. No conditions. -/
import Derived.Test.YtnbpblephmjfnaaEi13
import Derived.Test.YtnbpblephmjfnaaQa15
namespace Go.Proofs.Ytnbpblephmjfnaa
open Go.RowKit Go.ChangeShapes Go.WideShapes Go.Deep
set_option maxRecDepth 100000
theorem list17t {α : Type} {cs : List α} (h : cs.length = 17) : ∃ c0 c1 c2 c3 c4 c5 c6 c7 c8 c9 c10 c11 c12 c13 c14 c15 c16, cs = [c0, c1, c2, c3, c4, c5, c6, c7, c8, c9, c10, c11, c12, c13, c14, c15, c16] := by
 match cs, h with
 | [c0, c1, c2, c3, c4, c5, c6, c7, c8, c9, c10, c11, c12, c13, c14, c15, c16], _ => exact ⟨c0, c1, c2, c3, c4, c5, c6, c7, c8, c9, c10, c11, c12, c13, c14, c15, c16, rfl⟩
theorem list8o {α : Type} {cs : List α} (h : cs.length = 8) : ∃ c0 c1 c2 c3 c4 c5 c6 c7, cs = [c0, c1, c2, c3, c4, c5, c6, c7] := by
 match cs, h with
 | [a, b, c, d, e, f, g, i], _ => exact ⟨a, b, c, d, e, f, g, i, rfl⟩
section
variable {H : Type} {enc : TypeId × Value → H} {w : World} {base : Nat} {held : Bool}
theorem bools_in {fuel : Nat} {v : Value} {x : DataW H × List MemPlace} (h : DataW.trod enc Try.prog w base (fun _ => true) held fuel 26 [v] = some x) :
 ∃ a c bs, v = .slice a (List.length bs) c ∧ bs.length ≤ maxLen ∧ ReadsB w a bs.length bs := by
 have e5 : Try.prog.cellsOf 4 = 1 := by kernel_rfl
 rcases open_slice Try.underlying26 h with ⟨hcs, _⟩ | ⟨a, len, cap, m, n, D, Pl, hcs, _, hlc, hcm, hmm, _, hx⟩
 · exact ⟨none, 0, [], by simpa using hcs, Nat.zero_le _, ⟨rfl, .inl rfl⟩⟩
 · simp only [if_true] at hmm
   obtain rfl : v = .slice (some a) len cap := by simpa using hcs
   have each : ∀ i, i < m → ∃ q : Bool, w.cell? (a.add i) = some (.bool q) := by
    intro i hi
    obtain ⟨cs', g1, g2⟩ := hx i hi
    rw [e5] at g1
    obtain ⟨_, hlen, hcell⟩ := World.cells?_some g1
    obtain ⟨b, ee, _⟩ := DataW.trod_bool Try.underlying4 g2
    subst ee
    have k0 := hcell 0 (by omega)
    rw [add_add] at k0
    exact ⟨b, by simpa using k0⟩
   obtain ⟨q, hq⟩ := choose_lt each
   refine ⟨some a, cap, (List.range len).map q, by simp, by simpa using Nat.le_trans hlc hcm, ⟨rfl, ?_⟩⟩
   by_cases h0 : len = 0
   · left; simp [h0]
   · right
     obtain ⟨b, off, rfl⟩ := addr_plain13 (v := .bool (q 0)) (by have := hq 0 (by omega); simpa using this)
     refine ⟨b, off, rfl, fun i hi => ?_⟩
     simp only [List.length_map, List.length_range] at hi
     have g0 := hq i (by omega)
     simp only [Go.WideShapes.add_plain] at g0
     rw [show ((List.range len).map q).getD i false = q i by simp [List.getD, hi]]
     exact g0
theorem op_cells {fuel : Nat} {cs : List Value} {x : DataW H × List MemPlace} (h : DataW.trod enc Try.prog w base (fun _ => true) held fuel 28 cs = some x) :
 ∃ (kd se le nn : Int) (e1 : Im) (a1 : Option Addr) (k1 : Nat) (e2 : Im) (a2 : Option Addr) (k2 : Nat) (e3 : Im) (a3 : Option Addr) (k3 : Nat) (ab : Option Addr) (bs : List Bool) (cb : Nat), cs = [.int .i64 kd, .int .i64 se, .int .i64 le, .int .i64 nn, .int .i64 e1.K, .int .i64 e1.N, .float .f64 e1.F, .slice a1 e1.Z.length k1, .int .i64 e2.K, .int .i64 e2.N, .float .f64 e2.F, .slice a2 e2.Z.length k2, .int .i64 e3.K, .int .i64 e3.N, .float .f64 e3.F, .slice a3 e3.Z.length k3, .slice ab bs.length cb] ∧ (e1.Z.length ≤ maxLen ∧ Reads w a1 e1.Z.length e1.Z ∧ (a1 = none → k1 = 0) ∧ e1.F < 18446744073709551616) ∧ (e2.Z.length ≤ maxLen ∧ Reads w a2 e2.Z.length e2.Z ∧ (a2 = none → k2 = 0) ∧ e2.F < 18446744073709551616) ∧ (e3.Z.length ≤ maxLen ∧ Reads w a3 e3.Z.length e3.Z ∧ (a3 = none → k3 = 0) ∧ e3.F < 18446744073709551616) ∧ bs.length ≤ maxLen ∧ ReadsB w ab bs.length bs := by
 obtain ⟨xs, k, hk, hxy, hlen, hxl, hf⟩ := DataW.trod_struct Try.underlying28 h
 have q0 : Try.prog.cellsOf 28 = 17 := by kernel_rfl
 have q3 : Try.prog.cellsOf 3 = 1 := by kernel_rfl
 have q4 : Try.prog.cellsOf 25 = 4 := by kernel_rfl
 have q5 : Try.prog.cellsOf 26 = 1 := by kernel_rfl
 obtain ⟨c0, c1, c2, c3, c4, c5, c6, c7, c8, c9, c10, c11, c12, c13, c14, c15, c16, rfl⟩ := list17t (hlen.trans q0)
 obtain ⟨y0, y1, y2, y3, y4, y5, y6, y7, rfl⟩ := list8o (α := DataW H × List MemPlace) (by simpa using hxl)
 have g0 := hf 0 _ rfl
 have g1 := hf 1 _ rfl
 have g2 := hf 2 _ rfl
 have g3 := hf 3 _ rfl
 have g4 := hf 4 _ rfl
 have g5 := hf 5 _ rfl
 have g6 := hf 6 _ rfl
 have g7 := hf 7 _ rfl
 simp [q3, q4, q5] at g0 g1 g2 g3 g4 g5 g6 g7
 obtain ⟨I0, eI0, _, _⟩ := DataW.trod_int Try.underlying3 g0
 obtain ⟨I1, eI1, _, _⟩ := DataW.trod_int Try.underlying3 g1
 obtain ⟨I2, eI2, _, _⟩ := DataW.trod_int Try.underlying3 g2
 obtain ⟨I3, eI3, _, _⟩ := DataW.trod_int Try.underlying3 g3
 obtain ⟨e1, a1, k1, u1, r1⟩ := im_cells g4
 obtain ⟨e2, a2, k2, u2, r2⟩ := im_cells g5
 obtain ⟨e3, a3, k3, u3, r3⟩ := im_cells g6
 obtain ⟨ab, cb, bs, ub, hb1, hb2⟩ := bools_in g7
 refine ⟨I0, I1, I2, I3, e1, a1, k1, e2, a2, k2, e3, a3, k3, ab, bs, cb, ?_, r1, r2, r3, hb1, hb2⟩
 simp at eI0 eI1 eI2 eI3 u1 u2 u3
 rw [eI0, eI1, eI2, eI3, u1.1, u1.2.1, u1.2.2.1, u1.2.2.2, u2.1, u2.2.1, u2.2.2.1, u2.2.2.2, u3.1, u3.2.1, u3.2.2.1, u3.2.2.2, ub]
theorem op_in {r : Reach} {b0 : Nat} {v : Value} {d : DataW H} {p : List MemPlace} (hv : Value.okWide Try.prog w r b0 28 v) (h : DataW.Trod enc Try.prog w base (fun _ => true) held 28 v d p) :
 ∃ (kd se le nn : Int) (e1 : Im) (a1 : Option Addr) (k1 : Nat) (e2 : Im) (a2 : Option Addr) (k2 : Nat) (e3 : Im) (a3 : Option Addr) (k3 : Nat) (ab : Option Addr) (bs : List Bool) (cb : Nat), v = .agg #[.int .i64 kd, .int .i64 se, .int .i64 le, .int .i64 nn, .int .i64 e1.K, .int .i64 e1.N, .float .f64 e1.F, .slice a1 e1.Z.length k1, .int .i64 e2.K, .int .i64 e2.N, .float .f64 e2.F, .slice a2 e2.Z.length k2, .int .i64 e3.K, .int .i64 e3.N, .float .f64 e3.F, .slice a3 e3.Z.length k3, .slice ab bs.length cb] ∧ (e1.Z.length ≤ maxLen ∧ Reads w a1 e1.Z.length e1.Z ∧ (a1 = none → k1 = 0) ∧ e1.F < 18446744073709551616) ∧ (e2.Z.length ≤ maxLen ∧ Reads w a2 e2.Z.length e2.Z ∧ (a2 = none → k2 = 0) ∧ e2.F < 18446744073709551616) ∧ (e3.Z.length ≤ maxLen ∧ Reads w a3 e3.Z.length e3.Z ∧ (a3 = none → k3 = 0) ∧ e3.F < 18446744073709551616) ∧ bs.length ≤ maxLen ∧ ReadsB w ab bs.length bs := by
 obtain ⟨cs, rfl, _⟩ := okWide_struct Try.underlying28 hv
 obtain ⟨fuel, hf⟩ := h
 obtain ⟨kd, se, le, nn, e1, a1, k1, e2, a2, k2, e3, a3, k3, ab, bs, cb, ee, rest⟩ := op_cells hf
 refine ⟨kd, se, le, nn, e1, a1, k1, e2, a2, k2, e3, a3, k3, ab, bs, cb, ?_, rest⟩
 have e' : cs.toList = _ := ee
 rw [show cs = cs.toList.toArray by simp, e']
end
end Go.Proofs.Ytnbpblephmjfnaa
