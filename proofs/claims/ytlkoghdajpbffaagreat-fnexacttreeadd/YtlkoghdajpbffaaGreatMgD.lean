/- Texts of this proof in one: Ve11 Tq Hx10 Kl11. -/
import Derived.Test.YtlkoghdajpbffaaGreatLaTa
import Derived.Test.YtlkoghdajpbffaaGreatMgA
import Derived.Test.YtlkoghdajpbffaaGreatVd11
import Derived.Test.YtlkoghdajpbffaaGreatMga
import Derived.Deep.SlicePairs
import Derived.Deep.Matrix
import Derived.Lib.SmallJoins
import Derived.Test.YtlkoghdajpbffaaGreatMgi
/- Both sides' TreeAdd in the shape that the law's walk asks. No conditions. -/



namespace Go.Proofs.YtlkoghdajpbffaaGreat
open Go.RowKit
set_option maxRecDepth 100000
theorem specAdd : SpecAdd addT := ⟨fun cap root => fun KQ NQ FQ => fun cq iq => fun hR hns hm hkap _ _ hqn hq hqq _ => spec_TreeAdd cap root KQ NQ FQ cq iq hR hns hm hkap hqn hq hqq⟩
theorem implAdd : ImplAdd addT := ⟨fun cap root => fun KQ NQ FQ => fun cq iq => fun hR hns hm hkap hcap heap hqn hq hqq _ => impl_TreeAdd cap root KQ NQ FQ cq iq hR hns hm hkap hcap heap hq hqq hqn⟩
theorem addT_bound (ns : List Nd) (root : Int) (q : En) : (addT ns root q).1.length ≤ 2097152 ∧ sumD szD (addT ns root q).1 ≤ 2097152 := by
 have := addT_small ns root q
 omega
end Go.Proofs.YtlkoghdajpbffaaGreat
/- A tuple that came in, opened: what it reads as. No conditions. -/




namespace Go.Proofs.YtlkoghdajpbffaaGreat
open Go.RowKit Go.ChangeShapes Go.WideShapes Go.Deep
set_option maxRecDepth 100000
theorem list4 {α : Type} {cs : List α} (h : cs.length = 4) : ∃ c0 c1 c2 c3, cs = [c0, c1, c2, c3] := by
 match cs, h with
 | [c0, c1, c2, c3], _ => exact ⟨c0, c1, c2, c3, rfl⟩
section
variable {H : Type} {enc : TypeId × Value → H} {w : World} {base : Nat} {held : Bool}
theorem trod_float2 {fuel : Nat} {cs : List Value} {x : DataW H × List MemPlace} (ht : Tryz.prog.underlying 25 = some (.float .f64)) (h : DataW.trod enc Tryz.prog w base (fun _ => true) held fuel 25 cs = some x) :
 ∃ m, cs = [.float .f64 m] ∧ m < 18446744073709551616 := by
 cases fuel with
 | zero => simp [DataW.trod] at h
 | succ n =>
  unfold DataW.trod at h
  rw [ht] at h
  split at h <;> simp_all
  rename_i heq
  cases heq
  simpa [Lit.wf] using h.1.2
theorem bytes_in {fuel : Nat} {v : Value} {x : DataW H × List MemPlace} (h : DataW.trod enc Tryz.prog w base (fun _ => true) held fuel 26 [v] = some x) :
 ∃ a n c zs, v = .slice a n c ∧ n ≤ maxLen ∧ Reads w a n zs ∧ (a = none → c = 0) := by
 rcases open_ints Tryz.underlying26 Tryz.underlying5 (by kernel_rfl) h with ⟨hcs, _⟩ | ⟨x, l, c, zs, hcs, _, hl, hm, hz, _, hcell, hwz⟩
 · exact ⟨none, 0, 0, [], by simpa using hcs, Nat.zero_le _, ⟨rfl, .inl rfl, by simp⟩, fun _ => rfl⟩
 · have hin : (some x = none ∧ l = 0 ∧ c = 0 ∧ zs = []) ∨ ∃ y, some x = some y ∧ l ≤ c ∧ c ≤ maxLen ∧ zs.length = c ∧ (∀ i, i < zs.length → w.cell? (y.add i) = some (.int .u8 (zs.getD i 0))) ∧ ∀ n ∈ zs, (Lit.int .u8 n).wf = true := .inr ⟨_, rfl, hl, hm, by simpa using hz, hcell, hwz⟩
   exact ⟨some x, l, c, zs.take l, by simpa using hcs, len_in hin, reads_in hin, fun h => by cases h⟩
theorem item_cells {fuel : Nat} {cs : List Value} {x : DataW H × List MemPlace} (h : DataW.trod enc Tryz.prog w base (fun _ => true) held fuel 28 cs = some x) :
 ∃ K N f a n c zs, cs = [.int .i64 K, .int .i64 N, .float .f64 f, .slice a n c] ∧ n ≤ maxLen ∧ Reads w a n zs ∧ (a = none → c = 0) ∧ (-9223372036854775808 ≤ N ∧ N ≤ 9223372036854775807) ∧ f < 18446744073709551616 := by
 obtain ⟨xs, k, hk, hxy, hlen, hxl, hf⟩ := DataW.trod_struct Tryz.underlying28 h
 have e4 : Tryz.prog.cellsOf 28 = 4 := by kernel_rfl
 have e3 : Tryz.prog.cellsOf 3 = 1 := by kernel_rfl
 have e22 : Tryz.prog.cellsOf 26 = 1 := by kernel_rfl
 have e24 : Tryz.prog.cellsOf 25 = 1 := by kernel_rfl
 obtain ⟨c0, c1, c2, c3, rfl⟩ := list4 (hlen.trans e4)
 obtain ⟨y0, y1, y2, y3, rfl⟩ := list4 (α := DataW H × List MemPlace) (by simpa using hxl)
 have g0 := hf 0 _ rfl
 have g1 := hf 1 _ rfl
 have g2 := hf 2 _ rfl
 have g3 := hf 3 _ rfl
 simp [e3, e22, e24] at g0 g1 g2 g3
 obtain ⟨K, eK, _⟩ := DataW.trod_int Tryz.underlying3 g0
 obtain ⟨N, eN, _, hN⟩ := DataW.trod_int Tryz.underlying3 g1
 obtain ⟨f, eF, hF⟩ := trod_float2 Tryz.underlying25 g2
 obtain ⟨a, n, c, zs, e5, hm, hr, hc⟩ := bytes_in g3
 refine ⟨K, N, f, a, n, c, zs, ?_, hm, hr, hc, bounds_i64 hN, hF⟩
 simp at eK eN eF
 rw [eK, eN, eF, e5]
end
end Go.Proofs.YtlkoghdajpbffaaGreat
/- An item that came in, opened: what it reads as. No conditions. -/

namespace Go.Proofs.YtlkoghdajpbffaaGreat
open Go.RowKit Go.ChangeShapes Go.WideShapes Go.Deep
set_option maxRecDepth 100000
section
variable {H : Type} {enc : TypeId × Value → H} {w : World} {base : Nat} {held : Bool}
theorem item_in {r : Reach} {b0 : Nat} {v : Value} {d : DataW H} {p : List MemPlace} (hv : Value.okWide Tryz.prog w r b0 28 v) (h : DataW.Trod enc Tryz.prog w base (fun _ => true) held 28 v d p) :
 ∃ K N f a n c zs, v = .agg #[.int .i64 K, .int .i64 N, .float .f64 f, .slice a n c] ∧ n ≤ maxLen ∧ Reads w a n zs ∧ (a = none → c = 0) ∧ (-9223372036854775808 ≤ N ∧ N ≤ 9223372036854775807) ∧ f < 18446744073709551616 := by
 obtain ⟨cs, rfl, _⟩ := okWide_struct Tryz.underlying28 hv
 obtain ⟨fuel, hf⟩ := h
 obtain ⟨K, N, f, a, n, c, zs, e, rest⟩ := item_cells hf
 refine ⟨K, N, f, a, n, c, zs, ?_, rest⟩
 have e' : cs.toList = _ := e
 rw [show cs = cs.toList.toArray by simp, e']
end
end Go.Proofs.YtlkoghdajpbffaaGreat
/- A tree that came in, opened: what it reads as. No conditions. -/


namespace Go.Proofs.YtlkoghdajpbffaaGreat
open Go.RowKit Go.ChangeShapes Go.WideShapes Go.Deep
set_option maxRecDepth 100000
theorem list5 {α : Type} {cs : List α} (h : cs.length = 5) : ∃ c0 c1 c2 c3 c4, cs = [c0, c1, c2, c3, c4] := by
 match cs, h with
 | [a, b, c, d, e], _ => exact ⟨a, b, c, d, e, rfl⟩
theorem list3 {α : Type} {cs : List α} (h : cs.length = 3) : ∃ c0 c1 c2, cs = [c0, c1, c2] := by
 match cs, h with
 | [a, b, c], _ => exact ⟨a, b, c, rfl⟩
theorem list2 {α : Type} {cs : List α} (h : cs.length = 2) : ∃ c0 c1, cs = [c0, c1] := by
 match cs, h with
 | [a, b], _ => exact ⟨a, b, rfl⟩
theorem addr_plain11 {w : World} {a : Addr} {v : Value} (h : w.cell? (a.add 0) = some v) : ∃ b off, a = ⟨b, off, none⟩ := by
 obtain ⟨b, off, spot⟩ := a
 have hspot : spot = none := by simpa [Addr.add] using World.cell?_spot h
 subst hspot
 exact ⟨b, off, rfl⟩
section
variable {H : Type} {enc : TypeId × Value → H} {w : World} {base : Nat} {held : Bool}
theorem ent_cells {fuel : Nat} {cs : List Value} {x : DataW H × List MemPlace} (h : DataW.trod enc Tryz.prog w base (fun _ => true) held fuel 146 cs = some x) :
 ∃ (e : En) (a : Option Addr) (c : Nat), cs = [.int .i64 e.K, .int .i64 e.N, .float .f64 e.F, .slice a e.Z.length c, .int .i64 e.id] ∧ e.Z.length ≤ maxLen ∧ Reads w a e.Z.length e.Z ∧ (a = none → c = 0) ∧ e.F < 18446744073709551616 := by
 obtain ⟨xs, k, hk, hxy, hlen, hxl, hf⟩ := DataW.trod_struct Tryz.underlying146 h
 have e5 : Tryz.prog.cellsOf 146 = 5 := by kernel_rfl
 have e3 : Tryz.prog.cellsOf 3 = 1 := by kernel_rfl
 have e4 : Tryz.prog.cellsOf 28 = 4 := by kernel_rfl
 obtain ⟨c0, c1, c2, c3, c4, rfl⟩ := list5 (hlen.trans e5)
 obtain ⟨y0, y1, rfl⟩ := list2 (α := DataW H × List MemPlace) (by simpa using hxl)
 have g0 := hf 0 _ rfl
 have g1 := hf 1 _ rfl
 simp [e3, e4] at g0 g1
 obtain ⟨K, N, f, a, n, c, zs, e2, hm2, hr2, hc2, hN2, hF2⟩ := item_cells g0
 obtain ⟨I, eI, _⟩ := DataW.trod_int Tryz.underlying3 g1
 have hl := hr2.len
 subst hl
 refine ⟨⟨K, N, f, zs, I⟩, a, c, ?_, hm2, hr2, hc2, hF2⟩
 simp at eI e2
 rw [e2.1, e2.2.1, e2.2.2.1, e2.2.2.2, eI]
theorem entries_in {fuel : Nat} {v : Value} {x : DataW H × List MemPlace} (h : DataW.trod enc Tryz.prog w base (fun _ => true) held fuel 84 [v] = some x) :
 ∃ a c es, v = .slice a (List.length es) c ∧ es.length ≤ maxLen ∧ ReadsE w a es := by
 have e5 : Tryz.prog.cellsOf 146 = 5 := by kernel_rfl
 rcases open_slice Tryz.underlying84 h with ⟨hcs, _⟩ | ⟨a, len, cap, m, n, D, Pl, hcs, _, hlc, hcm, hmm, _, hx⟩
 · exact ⟨none, 0, [], by simpa using hcs, Nat.zero_le _, ReadsE.nil _ _⟩
 · simp only [if_true] at hmm
   obtain rfl : v = .slice (some a) len cap := by simpa using hcs
   have each : ∀ i, i < m → ∃ q : En × Value, (w.cell? (a.add (i * 5 + 0)) = some (.int .i64 q.1.K) ∧ w.cell? (a.add (i * 5 + 1)) = some (.int .i64 q.1.N) ∧ w.cell? (a.add (i * 5 + 2)) = some (.float .f64 q.1.F) ∧ w.cell? (a.add (i * 5 + 3)) = some q.2 ∧ w.cell? (a.add (i * 5 + 4)) = some (.int .i64 q.1.id)) ∧ Row w q.2 q.1.Z ∧ q.1.F < 18446744073709551616 := by
    intro i hi
    obtain ⟨cs', g1, g2⟩ := hx i hi
    rw [e5] at g1
    obtain ⟨_, hlen, hcell⟩ := World.cells?_some g1
    obtain ⟨e, a1, c1, ee, hm1, hr, hnil, hF⟩ := ent_cells g2
    subst ee
    have k0 := hcell 0 (by omega)
    have k1 := hcell 1 (by omega)
    have k2 := hcell 2 (by omega)
    have k3 := hcell 3 (by omega)
    have k4 := hcell 4 (by omega)
    rw [add_add] at k0 k1 k2 k3 k4
    exact ⟨(e, .slice a1 e.Z.length c1), ⟨by simpa using k0, by simpa using k1, by simpa using k2, by simpa using k3, by simpa using k4⟩, ⟨a1, c1, rfl, hr, hnil, hm1⟩, hF⟩
   haveI : Inhabited (En × Value) := ⟨(en0, nilS)⟩
   obtain ⟨q, hq⟩ := choose_lt each
   refine ⟨some a, cap, (List.range len).map (fun i => (q i).1), by simp, by simpa using Nat.le_trans hlc hcm, ⟨?_⟩⟩
   by_cases h0 : len = 0
   · left; simp [h0]
   · right
     obtain ⟨b, off, rfl⟩ := addr_plain11 (v := .int .i64 (q 0).1.K) (by have := (hq 0 (by omega)).1.1; simpa using this)
     refine ⟨b, off, rfl, fun i hi => ?_⟩
     simp only [List.length_map, List.length_range] at hi
     obtain ⟨⟨g0, g1, g2, g3, g4⟩, gr, gf⟩ := hq i (by omega)
     simp only [Go.WideShapes.add_plain] at g0 g1 g2 g3 g4
     rw [show ((List.range len).map (fun i => (q i).1)).getD i en0 = (q i).1 by simp [List.getD, hi]]
     exact ⟨(q i).2, ⟨by simpa using g0, by rw [Nat.add_assoc]; exact g1, by rw [Nat.add_assoc]; exact g2, by rw [Nat.add_assoc]; exact g3, by rw [Nat.add_assoc]; exact g4⟩, gr, gf⟩
theorem ints_in {fuel : Nat} {v : Value} {x : DataW H × List MemPlace} (h : DataW.trod enc Tryz.prog w base (fun _ => true) held fuel 59 [v] = some x) :
 ∃ a c ks, v = .slice a (List.length ks) c ∧ ks.length ≤ maxLen ∧ ReadsI w a ks.length ks := by
 have e1 : ∃ a0 l0 c0 zs, v = .slice a0 l0 c0 ∧ ((a0 = none ∧ l0 = 0 ∧ c0 = 0 ∧ zs = []) ∨ ∃ x, a0 = some x ∧ l0 ≤ c0 ∧ c0 ≤ maxLen ∧ zs.length = c0 ∧ (∀ i, i < zs.length → w.cell? (x.add i) = some (.int .i64 (zs.getD i 0))) ∧ ∀ n ∈ zs, (Lit.int .i64 n).wf = true) := by
  rcases open_ints Tryz.underlying59 Tryz.underlying3 (by kernel_rfl) h with ⟨hcs, _⟩ | ⟨x, l, c, zs, hcs, _, hl, hm, hz, _, hcell, hwz⟩
  · exact ⟨none, 0, 0, [], by simpa using hcs, .inl ⟨rfl, rfl, rfl, rfl⟩⟩
  · exact ⟨some x, l, c, zs, by simpa using hcs, .inr ⟨_, rfl, hl, hm, by simpa using hz, hcell, hwz⟩⟩
 obtain ⟨a0, l0, c0, zs, ev, hin⟩ := e1
 have r := readsI_in hin
 have hl := r.len
 have hm := len_in hin
 exact ⟨a0, c0, zs.take l0, by rw [hl]; exact ev, by rw [hl]; exact hm, by rw [hl]; exact r⟩
theorem node_cells {fuel : Nat} {cs : List Value} {x : DataW H × List MemPlace} (h : DataW.trod enc Tryz.prog w base (fun _ => true) held fuel 86 cs = some x) :
 ∃ (d : Nd) (a : Option Addr) (c : Nat) (a' : Option Addr) (c' : Nat), cs = [.bool d.leaf, .slice a d.es.length c, .slice a' d.ks.length c'] ∧ ReadsE w a d.es ∧ d.es.length ≤ maxLen ∧ ReadsI w a' d.ks.length d.ks ∧ d.ks.length ≤ maxLen := by
 obtain ⟨xs, k, hk, hxy, hlen, hxl, hf⟩ := DataW.trod_struct Tryz.underlying86 h
 have e0 : Tryz.prog.cellsOf 86 = 3 := by kernel_rfl
 have e4 : Tryz.prog.cellsOf 4 = 1 := by kernel_rfl
 have e5 : Tryz.prog.cellsOf 84 = 1 := by kernel_rfl
 have e6 : Tryz.prog.cellsOf 59 = 1 := by kernel_rfl
 obtain ⟨c0, c1, c2, rfl⟩ := list3 (hlen.trans e0)
 obtain ⟨y0, y1, y2, rfl⟩ := list3 (α := DataW H × List MemPlace) (by simpa using hxl)
 have g0 := hf 0 _ rfl
 have g1 := hf 1 _ rfl
 have g2 := hf 2 _ rfl
 simp [e4, e5, e6] at g0 g1 g2
 obtain ⟨B, eB, _⟩ := DataW.trod_bool Tryz.underlying4 g0
 obtain ⟨a, c, es, e1, h1, h2⟩ := entries_in g1
 obtain ⟨a', c', ks, e2, h3, h4⟩ := ints_in g2
 refine ⟨⟨B, es, ks⟩, a, c, a', c', ?_, h2, h1, h4, h3⟩
 simp at eB
 rw [eB, e1, e2]
theorem nodes_in {fuel : Nat} {v : Value} {x : DataW H × List MemPlace} (h : DataW.trod enc Tryz.prog w base (fun _ => true) held fuel 22 [v] = some x) :
 ∃ a c ds, v = .slice a (List.length ds) c ∧ ds.length ≤ maxLen ∧ ReadsD w a ds := by
 have e5 : Tryz.prog.cellsOf 86 = 3 := by kernel_rfl
 rcases open_slice Tryz.underlying22 h with ⟨hcs, _⟩ | ⟨a, len, cap, m, n, D, Pl, hcs, _, hlc, hcm, hmm, _, hx⟩
 · exact ⟨none, 0, [], by simpa using hcs, Nat.zero_le _, ⟨.inl rfl⟩⟩
 · simp only [if_true] at hmm
   obtain rfl : v = .slice (some a) len cap := by simpa using hcs
   have each : ∀ i, i < m → ∃ q : Nd, ∃ a1 c1 a2 c2, w.cell? (a.add (i * 3 + 0)) = some (.bool q.leaf) ∧ w.cell? (a.add (i * 3 + 1)) = some (.slice a1 q.es.length c1) ∧ w.cell? (a.add (i * 3 + 2)) = some (.slice a2 q.ks.length c2) ∧ ReadsE w a1 q.es ∧ q.es.length ≤ maxLen ∧ ReadsI w a2 q.ks.length q.ks ∧ q.ks.length ≤ maxLen := by
    intro i hi
    obtain ⟨cs', g1, g2⟩ := hx i hi
    rw [e5] at g1
    obtain ⟨_, hlen, hcell⟩ := World.cells?_some g1
    obtain ⟨d, a1, c1, a2, c2, ee, rest⟩ := node_cells g2
    subst ee
    have k0 := hcell 0 (by omega)
    have k1 := hcell 1 (by omega)
    have k2 := hcell 2 (by omega)
    rw [add_add] at k0 k1 k2
    exact ⟨d, a1, c1, a2, c2, by simpa using k0, by simpa using k1, by simpa using k2, rest⟩
   haveI : Inhabited Nd := ⟨nd0⟩
   obtain ⟨q, hq⟩ := choose_lt each
   refine ⟨some a, cap, (List.range len).map q, by simp, by simpa using Nat.le_trans hlc hcm, ⟨?_⟩⟩
   by_cases h0 : len = 0
   · left; simp [h0]
   · right
     obtain ⟨b, off, rfl⟩ := addr_plain11 (v := .bool (q 0).leaf) (by obtain ⟨_, _, _, _, h1, _⟩ := hq 0 (by omega); simpa using h1)
     refine ⟨b, off, rfl, fun i hi => ?_⟩
     simp only [List.length_map, List.length_range] at hi
     obtain ⟨a1, c1, a2, c2, g0, g1, g2, rest⟩ := hq i (by omega)
     simp only [Go.WideShapes.add_plain] at g0 g1 g2
     rw [show ((List.range len).map q).getD i nd0 = q i by simp [List.getD, hi]]
     exact ⟨a1, c1, a2, c2, by simpa using g0, by rw [Nat.add_assoc]; exact g1, by rw [Nat.add_assoc]; exact g2, rest⟩
theorem tree_in {r : Reach} {b0 : Nat} {v : Value} {d : DataW H} {p : List MemPlace} (hv : Value.okWide Tryz.prog w r b0 24 v) (h : DataW.Trod enc Tryz.prog w base (fun _ => true) held 24 v d p) :
 ∃ a n c ds rt, v = .agg #[.slice a n c, .int .i64 rt] ∧ ds.length = n ∧ n ≤ maxLen ∧ ReadsD w a ds ∧ (-9223372036854775808 ≤ rt ∧ rt ≤ 9223372036854775807) := by
 obtain ⟨cs, rfl, _⟩ := okWide_struct Tryz.underlying24 hv
 obtain ⟨fuel, hf0⟩ := h
 obtain ⟨xs, k, hk, hxy, hlen, hxl, hf⟩ := DataW.trod_struct Tryz.underlying24 hf0
 have e0 : Tryz.prog.cellsOf 24 = 2 := by kernel_rfl
 have e3 : Tryz.prog.cellsOf 3 = 1 := by kernel_rfl
 have e5 : Tryz.prog.cellsOf 22 = 1 := by kernel_rfl
 have hl2 : cs.toList.length = 2 := by simpa [Value.cells] using hlen.trans e0
 obtain ⟨c0, c1, ec⟩ := list2 hl2
 have ecs : cs = #[c0, c1] := by rw [show cs = cs.toList.toArray by simp, ec]
 subst ecs
 obtain ⟨y0, y1, rfl⟩ := list2 (α := DataW H × List MemPlace) (by simpa using hxl)
 have g0 := hf 0 _ rfl
 have g1 := hf 1 _ rfl
 simp [e3, e5, Value.cells] at g0 g1
 obtain ⟨a, c, ds, e1, h1, h2⟩ := nodes_in g0
 obtain ⟨I, eI, _, hI⟩ := DataW.trod_int Tryz.underlying3 g1
 simp at eI
 exact ⟨a, ds.length, c, ds, I, by rw [e1, eI], rfl, h1, h2, bounds_i64 hI⟩
end
end Go.Proofs.YtlkoghdajpbffaaGreat
