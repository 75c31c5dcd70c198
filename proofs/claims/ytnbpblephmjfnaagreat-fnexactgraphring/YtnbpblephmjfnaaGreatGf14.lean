/- Deeds that came in, opened: what they read as. No conditions. -/
import Derived.Test.YtnbpblephmjfnaaGreatMgc
import Derived.Test.YtnbpblephmjfnaaGreatEi13
namespace Go.Proofs.YtnbpblephmjfnaaGreat
open Go.RowKit Go.ChangeShapes Go.WideShapes Go.Deep
set_option maxRecDepth 100000
theorem list5t {α : Type} {cs : List α} (h : cs.length = 5) : ∃ c0 c1 c2 c3 c4, cs = [c0, c1, c2, c3, c4] := by
 match cs, h with
 | [a, b, c, d, e], _ => exact ⟨a, b, c, d, e, rfl⟩
section
variable {H : Type} {enc : TypeId × Value → H} {w : World} {base : Nat} {held : Bool}
theorem deed_cells {fuel : Nat} {cs : List Value} {x : DataW H × List MemPlace} (h : DataW.trod enc Tryz.prog w base (fun _ => true) held fuel 100 cs = some x) :
 ∃ (t : Tk) (a : Option Addr) (c : Nat) (a' : Option Addr) (c' : Nat), cs = [.int .i64 t.xid, .int .i64 t.begun, .int .i64 t.ended, .slice a t.rs.length c, .slice a' t.ws.length c'] ∧ bdT1 t ∧ ReadsM w a (fl2 t.rs) ∧ t.rs.length ≤ maxLen ∧ ReadsM w a' t.ws ∧ t.ws.length ≤ maxLen := by
 obtain ⟨xs, k, hk, hxy, hlen, hxl, hf⟩ := DataW.trod_struct Tryz.underlying100 h
 have e0 : Tryz.prog.cellsOf 100 = 5 := by kernel_rfl
 have e3 : Tryz.prog.cellsOf 3 = 1 := by kernel_rfl
 have e5 : Tryz.prog.cellsOf 97 = 1 := by kernel_rfl
 have e6 : Tryz.prog.cellsOf 98 = 1 := by kernel_rfl
 obtain ⟨c0, c1, c2, c3, c4, rfl⟩ := list5t (hlen.trans e0)
 obtain ⟨y0, y1, y2, y3, y4, rfl⟩ := list5t (α := DataW H × List MemPlace) (by simpa using hxl)
 have g0 := hf 0 _ rfl
 have g1 := hf 1 _ rfl
 have g2 := hf 2 _ rfl
 have g3 := hf 3 _ rfl
 have g4 := hf 4 _ rfl
 simp [e3, e5, e6] at g0 g1 g2 g3 g4
 obtain ⟨I0, eI0, _, h0⟩ := DataW.trod_int Tryz.underlying3 g0
 obtain ⟨I1, eI1, _, h1⟩ := DataW.trod_int Tryz.underlying3 g1
 obtain ⟨I2, eI2, _, h2⟩ := DataW.trod_int Tryz.underlying3 g2
 obtain ⟨a, c, rs, er, hr1, hr2⟩ := spans_in g3
 obtain ⟨a', c', ws, ew, hw1, hw2⟩ := items_in g4
 refine ⟨⟨I0, I1, I2, false, rs, ws, false, false⟩, a, c, a', c', ?_, ⟨bounds_i64 h0, bounds_i64 h1, bounds_i64 h2⟩, hr2, hr1, hw2, hw1⟩
 simp at eI0 eI1 eI2
 rw [eI0, eI1, eI2, er, ew]
theorem deeds_in {fuel : Nat} {v : Value} {x : DataW H × List MemPlace} (h : DataW.trod enc Tryz.prog w base (fun _ => true) held fuel 35 [v] = some x) :
 ∃ a c ts, v = .slice a (List.length ts) c ∧ ts.length ≤ maxLen ∧ ReadsV w a ts ∧ bdTs ts := by
 have e5 : Tryz.prog.cellsOf 100 = 5 := by kernel_rfl
 rcases open_slice Tryz.underlying35 h with ⟨hcs, _⟩ | ⟨a, len, cap, m, n, D, Pl, hcs, _, hlc, hcm, hmm, _, hx⟩
 · exact ⟨none, 0, [], by simpa using hcs, Nat.zero_le _, ReadsV.nil _ _, fun i => by simp [bdT1, tk0]⟩
 · simp only [if_true] at hmm
   obtain rfl : v = .slice (some a) len cap := by simpa using hcs
   have each : ∀ i, i < m → ∃ q : Tk, ∃ a1 c1 a2 c2, (w.cell? (a.add (i * 5 + 0)) = some (.int .i64 q.xid) ∧ w.cell? (a.add (i * 5 + 1)) = some (.int .i64 q.begun) ∧ w.cell? (a.add (i * 5 + 2)) = some (.int .i64 q.ended) ∧ w.cell? (a.add (i * 5 + 3)) = some (.slice a1 q.rs.length c1) ∧ w.cell? (a.add (i * 5 + 4)) = some (.slice a2 q.ws.length c2)) ∧ bdT1 q ∧ ReadsM w a1 (fl2 q.rs) ∧ q.rs.length ≤ maxLen ∧ ReadsM w a2 q.ws ∧ q.ws.length ≤ maxLen := by
    intro i hi
    obtain ⟨cs', g1, g2⟩ := hx i hi
    rw [e5] at g1
    obtain ⟨_, hlen, hcell⟩ := World.cells?_some g1
    obtain ⟨t, a1, c1, a2, c2, ee, rest⟩ := deed_cells g2
    subst ee
    have k0 := hcell 0 (by omega)
    have k1 := hcell 1 (by omega)
    have k2 := hcell 2 (by omega)
    have k3 := hcell 3 (by omega)
    have k4 := hcell 4 (by omega)
    rw [add_add] at k0 k1 k2 k3 k4
    exact ⟨t, a1, c1, a2, c2, ⟨by simpa using k0, by simpa using k1, by simpa using k2, by simpa using k3, by simpa using k4⟩, rest⟩
   haveI : Inhabited Tk := ⟨tk0⟩
   obtain ⟨q, hq⟩ := choose_lt each
   have hgd : ∀ i, i < len → ((List.range len).map q).getD i tk0 = q i := fun i hi => by simp [List.getD, hi]
   refine ⟨some a, cap, (List.range len).map q, by simp, by simpa using Nat.le_trans hlc hcm, ⟨?_⟩, fun i => ?_⟩
   · by_cases h0 : len = 0
     · left; simp [h0]
     · right
       obtain ⟨b, off, rfl⟩ := addr_plain13 (v := .int .i64 (q 0).xid) (by obtain ⟨_, _, _, _, h1, _⟩ := hq 0 (by omega); simpa using h1.1)
       refine ⟨b, off, rfl, fun i hi => ?_⟩
       simp only [List.length_map, List.length_range] at hi
       obtain ⟨a1, c1, a2, c2, ⟨g0, g1, g2, g3, g4⟩, _, rest⟩ := hq i (by omega)
       simp only [Go.WideShapes.add_plain] at g0 g1 g2 g3 g4
       rw [hgd i hi]
       exact ⟨a1, c1, a2, c2, ⟨by simpa using g0, by rw [Nat.add_assoc]; exact g1, by rw [Nat.add_assoc]; exact g2, by rw [Nat.add_assoc]; exact g3, by rw [Nat.add_assoc]; exact g4⟩, rest⟩
   · by_cases hi : i < len
     · rw [hgd i hi]
       obtain ⟨a1, c1, a2, c2, _, hb, _⟩ := hq i (by omega)
       exact hb
     · rw [List.getD_eq_getElem?_getD, List.getElem?_eq_none (by simp; omega)]
       simp [bdT1, tk0]
end
end Go.Proofs.YtnbpblephmjfnaaGreat
