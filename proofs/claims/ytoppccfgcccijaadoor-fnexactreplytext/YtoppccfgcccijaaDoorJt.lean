/- A slice of byte slices, read; the contract of the program's joined. Conditions: lists of at most 2^21 bytes together. -/
import Derived.Test.YtoppccfgcccijaaDoorMga
import Derived.Laws.AppendOwnNone
namespace Go.Proofs.YtoppccfgcccijaaDoor
open Go.RowKit
set_option maxRecDepth 100000

/-- How many bytes there are. -/
def tot : List (List Int) → Nat
  | [] => 0
  | z :: zs => z.length + tot zs
theorem tot_app : ∀ a b, tot (a ++ b) = tot a + tot b
  | [], b => by simp [tot]
  | z :: zs, b => by simp only [List.cons_append, tot, tot_app zs b]; omega
theorem tot_step (ss : List (List Int)) (k : Nat) (h : k < ss.length) : tot (ss.take (k + 1)) = tot (ss.take k) + (ss.getD k []).length := by
  rw [List.take_add_one, List.getElem?_eq_getElem h, Option.toList_some, tot_app]
  simp [tot, List.getD, h]
theorem tot_take (ss : List (List Int)) (k : Nat) : tot (ss.take k) ≤ tot ss := by
  have := tot_app (ss.take k) (ss.drop k)
  rw [List.take_append_drop] at this
  omega
theorem tot_le {m : Nat} : ∀ (ss : List (List Int)), (∀ i, i < ss.length → (ss.getD i []).length ≤ m) → tot ss ≤ ss.length * m
  | [], _ => by simp [tot]
  | z :: zs, h => by
    have h0 := h 0 (by simp)
    have ih := tot_le zs (fun i hi => by have := h (i + 1) (by simpa using hi); simpa using this)
    simp only [tot, List.length_cons, Nat.add_mul, Nat.one_mul]
    simp at h0
    omega
theorem tot_at (ss : List (List Int)) (k : Nat) : (ss.getD k []).length ≤ tot ss := by
  by_cases h : k < ss.length
  · have := tot_step ss k h
    have := tot_take ss (k + 1)
    omega
  · rw [List.getD_eq_getElem?_getD, List.getElem?_eq_none (by omega)]; simp

/-- A slice of byte slices, read. -/
structure ReadsS (w : World) (ad : Option Addr) (ss : List (List Int)) : Prop where
  cells : ss.length = 0 ∨ ∃ b off, ad = some ⟨b, off, none⟩ ∧ ∀ i, i < ss.length → ∃ v, w.cell? ⟨b, off + i, none⟩ = some v ∧ Row w v (ss.getD i [])
theorem ReadsS.below {w w' : World} {ad : Option Addr} {ss : List (List Int)} (h : ReadsS w ad ss) {B : Nat} (hb : Below B w w') (hB : w.heap.size ≤ B) : ReadsS w' ad ss := by
  refine ⟨?_⟩
  rcases h.cells with h0 | ⟨b, off, rfl, hc⟩
  · exact .inl h0
  · refine .inr ⟨b, off, rfl, fun i hi => ?_⟩
    obtain ⟨v, h1, h2⟩ := hc i hi
    have := World.block_lt_of_cell? w _ h1
    exact ⟨v, by rw [hb.cell (p := ⟨b, off + i, none⟩) (by simp at this ⊢; omega)]; exact h1, h2.below hb hB⟩

theorem flat_step (ss : List (List Int)) (k : Nat) (h : k < ss.length) : (ss.take (k + 1)).flatten = (ss.take k).flatten ++ ss.getD k [] := by
  rw [List.take_succ_eq_append_getElem h, List.flatten_append]
  simp [List.getD, h]
theorem flat_tot : ∀ ss : List (List Int), ss.flatten.length = tot ss
  | [] => rfl
  | z :: ss => by simp [tot, flat_tot ss]

end Go.Proofs.YtoppccfgcccijaaDoor
