/- A slice of byte slices, read (as in Dm, without disks). No statement of its own; no conditions. -/
import Derived.Test.YtdlddgejpcbofaaHelp
import Derived.Test.YtdlddgejpcbofaaDk
import Derived.Test.YtdlddgejpcbofaaDp
namespace Go.Proofs.Ytdlddgejpcbofaa
open Go.RowKit
set_option maxRecDepth 100000

theorem Try.info22 : (Try.prog.info? 36).map (fun i => (i.zero, i.size, i.bytes)) = some (some (.slice none 0 0), 1, 24) := by kernel_rfl

/-- A slice of byte slices, read. -/
structure ReadsS (w : World) (ad : Option Addr) (ss : List (List Int)) : Prop where
  cells : ss.length = 0 ∨ ∃ b off, ad = some ⟨b, off, none⟩ ∧ ∀ i, i < ss.length → ∃ v, w.cell? ⟨b, off + i, none⟩ = some v ∧ Row w v (ss.getD i [])
theorem ReadsS.below {w w' : World} {ad : Option Addr} {ss : List (List Int)} (h : ReadsS w ad ss) {B : Nat} (hb : Below B w w') (hB : w.heap.size ≤ B) : ReadsS w' ad ss := by
  refine ⟨?_⟩
  rcases h.cells with h0 | ⟨b, off, rfl, hc⟩
  · exact .inl h0
  · refine .inr ⟨b, off, rfl, fun i hi => ?_⟩
    obtain ⟨v, h1, h2⟩ := hc i hi
    have := World.block_lt_of_cell? w _ h1
    exact ⟨v, by rw [hb.cell (p := ⟨b, off + i, none⟩) (by simp at this ⊢; omega)]; exact h1, h2.below hb hB⟩

theorem ReadsS.own {w : World} {lo lo' hi : Nat} {vS : Value} {ss : List (List Int)} {xs : List Value} (o : w.ownsRow lo 36 1 vS ss.length xs) (hB : Bands w lo' hi xs ss) : ∃ a c, vS = .slice a ss.length c ∧ ReadsS w a ss := by
  rcases o.2 with ⟨rfl, h0⟩ | ⟨g, cap, cur, rfl, _⟩
  · exact ⟨none, 0, by rw [h0], ⟨.inl h0⟩⟩
  · refine ⟨_, cap, rfl, ⟨.inr ⟨g, 0, rfl, fun i hi => ⟨xs.getD i nilS, ?_, hB.row i⟩⟩⟩⟩
    rw [Nat.zero_add, o.cellAt i (by omega), List.getD_eq_getElem?_getD]
    have hl := hB.len
    rw [List.getElem?_eq_getElem (by omega)]
    rfl
end Go.Proofs.Ytdlddgejpcbofaa
