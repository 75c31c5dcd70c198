/- The program's ItemCompare. -/
import Derived.Test.YtebhipicfgnajaaMgb
import Derived.Deep.RegionHeld3
namespace Go.Proofs.Ytebhipicfgnajaa
open Go.RowKit

theorem cell_oldx {w : World} (o : Obj) {p : Addr} {v : Value} (h : w.cell? p = some v) : (w.alloc o).cell? p = some v := by
  have hl := World.block_lt_of_cell? w _ h
  have hb : Below w.heap.size w (w.alloc o) := (Below.refl _ _).alloc (Nat.le_refl _) _
  rw [hb.cell hl]; exact h
theorem new4 (w : World) (a b c d : Value) (t : TypeId) : (w.alloc (.cells #[a, b, c, d] t)).cell? ⟨w.heap.size, 0, none⟩ = some a ∧ (w.alloc (.cells #[a, b, c, d] t)).cell? ⟨w.heap.size, 1, none⟩ = some b ∧ (w.alloc (.cells #[a, b, c, d] t)).cell? ⟨w.heap.size, 2, none⟩ = some c ∧ (w.alloc (.cells #[a, b, c, d] t)).cell? ⟨w.heap.size, 3, none⟩ = some d := by
  have h := heap_alloc_new w (.cells #[a, b, c, d] t)
  refine ⟨?_, ?_, ?_, ?_⟩ <;> (rw [cell_of_row _ _ _ _ _ _ h]; rfl)

theorem or_cmp (K N K' N' : Int) (f f' n n' : Nat) (zs zs' : List Int) (h : okI K N f n = true) (h' : okI K' N' f' n' = true) :
    or4 (ci K K') (ci N N') (cmp3 (frank f) (frank f')) (txt zs zs') = cmpI K N f n zs K' N' f' n' zs' := by
  have c0 : ¬ (okI K N f n = false ∨ okI K' N' f' n' = false) := by rw [h, h']; simp
  unfold or4 cmpI
  rw [if_neg c0]
  rcases Int.lt_trichotomy K K' with h1 | h1 | h1
  · rw [show ci K K' = -1 by rw [ci, if_pos h1], if_pos (by decide), if_pos (by omega), if_pos h1]
  · rw [show ci K K' = 0 by rw [ci, if_neg (by omega), if_neg (by omega)], if_neg (by decide), if_neg (show ¬ K ≠ K' from fun e => e h1)]
    rcases Int.lt_trichotomy N N' with h2 | h2 | h2
    · rw [show ci N N' = -1 by rw [ci, if_pos h2], if_pos (by decide), if_pos (by omega), if_pos h2]
    · rw [show ci N N' = 0 by rw [ci, if_neg (by omega), if_neg (by omega)], if_neg (by decide), if_neg (show ¬ N ≠ N' from fun e => e h2)]
    · rw [show ci N N' = 1 by rw [ci, if_neg (by omega), if_pos h2], if_pos (by decide), if_pos (by omega), if_neg (by omega)]
  · rw [show ci K K' = 1 by rw [ci, if_neg (by omega), if_pos h1], if_pos (by decide), if_pos (by omega), if_neg (by omega)]

end Go.Proofs.Ytebhipicfgnajaa
