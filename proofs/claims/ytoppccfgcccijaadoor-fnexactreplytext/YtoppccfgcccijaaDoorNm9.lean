/- A slice of snapshots: what it reads as, its cells. No statement of its own; no conditions. -/
import Derived.Test.YtoppccfgcccijaaDoorNk9
namespace Go.Proofs.YtoppccfgcccijaaDoor
open Go.RowKit
set_option maxRecDepth 100000

def sn0 : Int × List Int := (0, [])
/-- A slice of writes, read. -/
structure ReadsN (w : World) (ad : Option Addr) (ws : List (Int × List Int)) : Prop where
  cells : ws.length = 0 ∨ ∃ b off, ad = some ⟨b, off, none⟩ ∧ ∀ i, i < ws.length → w.cell? ⟨b, off + i * 2, none⟩ = some (.int .i64 (ws.getD i sn0).1) ∧ ∃ v, w.cell? ⟨b, off + i * 2 + 1, none⟩ = some v ∧ RowI w v (ws.getD i sn0).2
theorem ReadsN.below {w w' : World} {ad : Option Addr} {ws : List (Int × List Int)} (h : ReadsN w ad ws) {B : Nat} (hb : Below B w w') (hB : w.heap.size ≤ B) : ReadsN w' ad ws := by
  refine ⟨?_⟩
  rcases h.cells with h0 | ⟨b, off, rfl, hc⟩
  · exact .inl h0
  · refine .inr ⟨b, off, rfl, fun i hi => ?_⟩
    obtain ⟨h0, v, h1, h2⟩ := hc i hi
    have := World.block_lt_of_cell? w _ h1
    exact ⟨by rw [hb.cell (p := ⟨b, off + i * 2, none⟩) (by simp at this ⊢; omega)]; exact h0, v, by rw [hb.cell (p := ⟨b, off + i * 2 + 1, none⟩) (by simp at this ⊢; omega)]; exact h1, h2.below hb hB⟩
/-- The cells of writes. -/
def cellsN : List (Int × List Int) → List Value → List Value
  | p :: ws, y :: ys => .int .i64 p.1 :: y :: cellsN ws ys
  | _, _ => []
theorem cellsN_length : ∀ (ws : List (Int × List Int)) (ys : List Value), ys.length = ws.length → (cellsN ws ys).length = ws.length * 2
  | [], [], _ => rfl
  | p :: ws, y :: ys, h => by
    have := cellsN_length ws ys (by simpa using h)
    simp only [cellsN, List.length_cons]
    omega
theorem cellsN_at : ∀ (ws : List (Int × List Int)) (ys : List Value) (i : Nat), ys.length = ws.length → i < ws.length → (cellsN ws ys)[i * 2]? = some (.int .i64 (ws.getD i sn0).1) ∧ (cellsN ws ys)[i * 2 + 1]? = some (ys.getD i nilS)
  | p :: ws, y :: ys, 0, _, _ => by simp [cellsN]
  | p :: ws, y :: ys, i + 1, h, hi => by
    have := cellsN_at ws ys i (by simpa using h) (by simpa using hi)
    simp only [cellsN, List.getD_cons_succ]
    rw [show (i + 1) * 2 = i * 2 + 1 + 1 by omega, List.getElem?_cons_succ, List.getElem?_cons_succ, show i * 2 + 1 + 1 + 1 = (i * 2 + 1) + 1 + 1 by omega, List.getElem?_cons_succ, List.getElem?_cons_succ]
    exact this
theorem cellsN_snoc : ∀ (ws : List (Int × List Int)) (ys : List Value) (p : Int × List Int) (y : Value), ys.length = ws.length → cellsN (ws ++ [p]) (ys ++ [y]) = cellsN ws ys ++ [.int .i64 p.1, y]
  | [], [], p, y, _ => rfl
  | q :: ws, x :: ys, p, y, h => by
    have := cellsN_snoc ws ys p y (by simpa using h)
    simp only [List.cons_append, cellsN, this]
theorem map2_getD9 (ws : List (Int × List Int)) (i : Nat) : (ws.map (·.2)).getD i [] = (ws.getD i sn0).2 := by
  by_cases h : i < ws.length
  · simp [List.getD, h]
  · rw [List.getD_eq_getElem?_getD, List.getD_eq_getElem?_getD, List.getElem?_eq_none (by simpa using h), List.getElem?_eq_none (by omega)]; rfl
theorem made2n (a b : Value) : ∀ n : Nat, (madeCells #[a, b] (n * 2)).toList = (List.replicate n [a, b]).flatten := by
  intro n
  have h : ∀ n : Nat, (madeCells #[a, b] (n * 2)).toList = (List.range (n * 2)).map (fun i => #[a, b][i % 2]!) := by
    intro n
    simp [madeCells]
  rw [h]
  induction n with
  | zero => rfl
  | succ n ih =>
    rw [show (n + 1) * 2 = n * 2 + 1 + 1 by omega, List.range_succ, List.range_succ, List.map_append, List.map_append, ih, List.replicate_succ', List.flatten_append]
    simp [show (n * 2 + 1) % 2 = 1 by omega]
theorem zeroN9 (n : Nat) : cellsN (List.replicate n sn0) (List.replicate n nilS) = (List.replicate n [Value.int .i64 0, nilS]).flatten := by
  induction n with
  | zero => rfl
  | succ n ih => rw [List.replicate_succ, List.replicate_succ, cellsN, ih, List.replicate_succ]; rfl
theorem cellsN_set2 : ∀ (ws : List (Int × List Int)) (ys : List Value) (k : Nat) (p : Int × List Int) (y : Value), ys.length = ws.length → k < ws.length → ((cellsN ws ys).set (k * 2) (.int .i64 p.1)).set (k * 2 + 1) y = cellsN (ws.set k p) (ys.set k y)
  | q :: ws, x :: ys, 0, p, y, _, _ => by simp [cellsN]
  | q :: ws, x :: ys, k + 1, p, y, h, hk => by
    have ih := cellsN_set2 ws ys k p y (by simpa using h) (by simpa using hk)
    rw [show (k + 1) * 2 + 1 = k * 2 + 1 + 1 + 1 by omega, show (k + 1) * 2 = k * 2 + 1 + 1 by omega]
    simp only [cellsN, List.set_cons_succ, ih]
theorem set_rep9 {α : Type} (xs : List α) (k n : Nat) (z v : α) (hx : xs.length = k) (hk : k < n) : (xs ++ List.replicate (n - k) z).set k v = (xs ++ [v]) ++ List.replicate (n - (k + 1)) z := by
  rw [List.set_append_right _ _ (by omega), hx, Nat.sub_self, show n - k = (n - (k + 1)) + 1 by omega, List.replicate_succ, List.set_cons_zero]
  simp
end Go.Proofs.YtoppccfgcccijaaDoor
