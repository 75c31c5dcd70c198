/- A snapshot in a block: its cells, what its list reads as. No statement of its own; no conditions. -/
import Derived.Test.YtemhmlikfiknlaaXb9
import Derived.Test.YtemhmlikfiknlaaNo9
import Derived.Test.YtemhmlikfiknlaaRk3
namespace Go.Proofs.Ytemhmlikfiknlaa
open Go.RowKit
set_option maxRecDepth 100000

structure BoxN (w : World) (g : Nat) (S : Int) (v : Value) : Prop where
  c0 : w.cell? ⟨g, 0, none⟩ = some (.int .i64 S)
  c1 : w.cell? ⟨g, 1, none⟩ = some v
structure ArgN (w : World) (g : Nat) (S : Int) (ad : Option Addr) (n c : Nat) (R : List Int) : Prop where
  box : BoxN w g S (.slice ad n c)
  reads : ReadsI w ad n R
  lt : g < w.heap.size
theorem ArgN.below {w w' : World} {g : Nat} {S : Int} {ad : Option Addr} {n c : Nat} {R : List Int} (h : ArgN w g S ad n c R) {B : Nat} (hb : Below B w w') (hB : w.heap.size ≤ B) : ArgN w' g S ad n c R := by
  have hlt := h.lt
  refine ⟨⟨?_, ?_⟩, h.reads.below hb hB, Nat.lt_of_lt_of_le hlt hb.size⟩
  · rw [hb.cell (p := ⟨g, 0, none⟩) (by simp; omega)]; exact h.box.c0
  · rw [hb.cell (p := ⟨g, 1, none⟩) (by simp; omega)]; exact h.box.c1
theorem ArgN.new {w : World} {ad : Option Addr} (S : Int) (n c : Nat) {R : List Int} (h : ReadsI w ad n R) (t : TypeId) (g : Nat) (hg : g = w.heap.size) : ArgN (w.alloc (.cells #[.int .i64 S, .slice ad n c] t)) g S ad n c R := by
  subst hg
  obtain ⟨h0, h1⟩ := box2 w S (.slice ad n c) t
  exact ⟨⟨h0, h1⟩, h.below (Below.alloc1 w _) (Nat.le_refl _), by rw [alloc_size]; omega⟩
theorem reads_own9 {w : World} {base : Nat} {a : Option Addr} {n c : Nat} {zs : List Int} (h : w.ownsRow base 3 1 (.slice a n c) n (ins zs)) (hbd : ∀ i, -9223372036854775808 ≤ zs.getD i 0 ∧ zs.getD i 0 ≤ 9223372036854775807) : ReadsI w a n zs := by
  obtain ⟨_, _, e1, p, _⟩ := ReadsI.own h hbd
  obtain ⟨rfl, _, rfl⟩ := Value.slice.inj e1
  exact p
theorem readsN_own {w : World} {lo lo' hi n : Nat} {a : Option Addr} {c : Nat} {ws : List (Int × List Int)} {ys : List Value} (hy : ys.length = n) (hl : ws.length = n) (o : w.ownsRow lo 32 2 (.slice a n c) n (cellsN ws ys)) (hB : BandsI w lo' hi ys (ws.map (·.2))) : ReadsN w a ws := by
  subst hl
  obtain ⟨_, _, e1, p⟩ := ReadsN.own hy o hB
  obtain ⟨rfl, _, rfl⟩ := Value.slice.inj e1
  exact p
theorem totN_at (ws : List (Int × List Int)) (i : Nat) : (ws.getD i sn0).2.length ≤ totN ws := by
  unfold totN
  rw [← map2_getD9]
  exact tot_at _ i
end Go.Proofs.Ytemhmlikfiknlaa
