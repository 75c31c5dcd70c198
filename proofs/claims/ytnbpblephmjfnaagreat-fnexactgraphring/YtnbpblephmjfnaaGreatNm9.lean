/- A slice of snapshots: what it reads as, its cells. No statement of its own; no conditions. -/
import Derived.Test.YtnbpblephmjfnaaGreatNk9
namespace Go.Proofs.YtnbpblephmjfnaaGreat
open Go.RowKit
set_option maxRecDepth 100000
def sn0 : Int × List Int := (0, [])
structure ReadsN (w : World) (ad : Option Addr) (ws : List (Int × List Int)) : Prop where
 cells : ws.length = 0 ∨ ∃ b off, ad = some ⟨b, off, none⟩ ∧ ∀ i, i < ws.length → w.cell? ⟨b, off + i * 2, none⟩ = some (.int .i64 (ws.getD i sn0).1) ∧ ∃ v, w.cell? ⟨b, off + i * 2 + 1, none⟩ = some v ∧ RowI w v (ws.getD i sn0).2
theorem ReadsN.below {w w' : World} {ad : Option Addr} {ws : List (Int × List Int)} (h : ReadsN w ad ws) {B : Nat} (hb : Below B w w') (hB : w.heap.size ≤ B) : ReadsN w' ad ws := by
 refine ⟨?_⟩
 rcases h.cells with h0 | ⟨b, off, rfl, hc⟩
 · exact .inl h0
 · refine .inr ⟨b, off, rfl, fun i hi => ?_⟩
   obtain ⟨h0, v, h1, h2⟩ := hc i hi
   have := World.block_lt_of_cell? w _ h1
   exact ⟨by rw [hb.cell (p := ⟨b, off + i * 2, none⟩) (by simp at this ⊢; omega)]; exact h0, v, by rw [hb.cell (p := ⟨b, off + i * 2 + 1, none⟩) (by simp at this ⊢; omega)]; exact h1, h2.below hb hB⟩
theorem set_rep9 {α : Type} (xs : List α) (k n : Nat) (z v : α) (hx : xs.length = k) (hk : k < n) : (xs ++ List.replicate (n - k) z).set k v = (xs ++ [v]) ++ List.replicate (n - (k + 1)) z := by
 rw [List.set_append_right _ _ (by omega), hx, Nat.sub_self, show n - k = (n - (k + 1)) + 1 by omega, List.replicate_succ, List.set_cons_zero]
 simp
end Go.Proofs.YtnbpblephmjfnaaGreat
