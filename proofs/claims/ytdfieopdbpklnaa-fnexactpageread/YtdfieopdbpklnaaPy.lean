/- Rows and pages while blocks elsewhere are written. No conditions. -/
import Derived.Test.YtdfieopdbpklnaaPz
namespace Go.Proofs.Ytdfieopdbpklnaa
open Go.RowKit

theorem Reads.within7 {w w' : World} {ad : Option Addr} {n : Nat} {zs : List Int} (h : Reads w ad n zs) {lo hi : Nat} (hg : Within lo hi w w') (ho : ∀ a, ad = some a → a.block < lo ∨ hi ≤ a.block) : Reads w' ad n zs := by
  refine ⟨h.len, ?_, h.bd⟩
  rcases h.cells with h0 | ⟨b, off, rfl, hc⟩
  · exact .inl h0
  · refine .inr ⟨b, off, rfl, fun i hi => ?_⟩
    have := hc i hi
    rw [World.cell?_of_block (w := w) (a := ⟨b, off + i, none⟩) (hg.block b (World.block_lt_of_cell? w _ this) (ho _ rfl))]
    exact this

theorem owns_within7 {w w' : World} {lo hi base : Nat} {e : TypeId} {s : Nat} {v : Value} {n : Nat} {xs : List Value} (hg : Within lo hi w w') (ho : w.ownsRow base e s v n xs) (h : ∀ k, v.ownBlock = some k → k < lo ∨ hi ≤ k) : w'.ownsRow base e s v n xs := by
  refine ⟨ho.1, ?_⟩
  rcases ho.2 with hn | ⟨g, cap, cur, rfl, hbg, hh, rest⟩
  · exact .inl hn
  · exact .inr ⟨g, cap, cur, rfl, hbg, by rw [hg.block g (Array.getElem?_eq_some_iff.1 hh).1 (h g rfl)]; exact hh, rest⟩

theorem in_rng7 {ad : Option Addr} {a b lo hi : Nat} (h : ad = none ∨ ∃ g, ad = some ⟨g, 0, none⟩ ∧ a ≤ g ∧ g < b) (hk : b ≤ lo ∨ hi ≤ a) : ∀ x, ad = some x → x.block < lo ∨ hi ≤ x.block := by
  intro x hx
  rcases h with rfl | ⟨g, rfl, h3, h4⟩
  · cases hx
  · cases hx; simp; omega

theorem own_rng7 {ad : Option Addr} {a b lo hi n cap : Nat} (h : ad = none ∨ ∃ g, ad = some ⟨g, 0, none⟩ ∧ a ≤ g ∧ g < b) (hk : b ≤ lo ∨ hi ≤ a) : ∀ k, (Value.slice ad n cap).ownBlock = some k → k < lo ∨ hi ≤ k := by
  intro x hx
  rcases h with rfl | ⟨g, rfl, h3, h4⟩
  · simp [Value.ownBlock] at hx
  · simp [Value.ownBlock] at hx; omega

end Go.Proofs.Ytdfieopdbpklnaa
