/- What stays where another row is written. -/
import Derived.Test.YtoppccfgcccijaaDoorAr
namespace Go.Proofs.YtoppccfgcccijaaDoor
open Go.RowKit

theorem ne_row {ad : Option Addr} {lo hi k : Nat} (h : ad = none ∨ ∃ g, ad = some ⟨g, 0, none⟩ ∧ lo ≤ g ∧ g < hi) (hk : k < lo ∨ hi ≤ k) : ∀ a, ad = some a → some a.block ≠ some k := by
  intro a ha
  rcases h with rfl | ⟨g, rfl, h3, h4⟩
  · cases ha
  · cases ha; simp; omega
theorem ne_own {ad : Option Addr} {lo hi k n cap : Nat} (h : ad = none ∨ ∃ g, ad = some ⟨g, 0, none⟩ ∧ lo ≤ g ∧ g < hi) (hk : k < lo ∨ hi ≤ k) : (Value.slice ad n cap).ownBlock = none ∨ (Value.slice ad n cap).ownBlock ≠ some k := by
  rcases h with rfl | ⟨g, rfl, h3, h4⟩
  · exact .inl rfl
  · exact .inr (by simp [Value.ownBlock]; omega)
theorem ne_blk {ad : Option Addr} {lo hi k n cap : Nat} (h : ad = none ∨ ∃ g, ad = some ⟨g, 0, none⟩ ∧ lo ≤ g ∧ g < hi) (hk : k < lo ∨ hi ≤ k) : some k ≠ (Value.slice ad n cap).ownBlock := by
  rcases h with rfl | ⟨g, rfl, h3, h4⟩
  · simp [Value.ownBlock]
  · simp [Value.ownBlock]; omega
theorem Box.other {w w' : World} {g : Nat} {K N : Int} {f : Nat} {ad : Option Addr} {n cap : Nat} (b : Box w g K N f ad n cap) {row : Option Nat} (hg : w.grownBy w' row) (h : some g ≠ row) : Box w' g K N f ad n cap :=
  ⟨hg.cell b.c0 h, hg.cell b.c1 h, hg.cell b.c2 h, hg.cell b.c3 h⟩
theorem Arg.other {w w' : World} {g : Nat} {K N : Int} {f : Nat} {ad : Option Addr} {n cap : Nat} {zs ys : List Int} (a : Arg w g K N f ad n cap zs) {row : Option Nat} (hg : w.grownBy w' row) (h : some g ≠ row) (hr : Reads w' ad n ys) : Arg w' g K N f ad n cap ys :=
  ⟨a.box.other hg h, hr, Nat.lt_of_lt_of_le a.lt hg.size⟩
theorem Same.both {a b c : Nat} (h : Same a b) (k : Same a c) : Same b c := by
  rcases h with ⟨h1, h2⟩ | ⟨h1, rfl⟩
  · rcases k with ⟨_, k2⟩ | ⟨k1, _⟩
    · exact .inl ⟨h2, k2⟩
    · rw [h1] at k1; cases k1
  · exact k
end Go.Proofs.YtoppccfgcccijaaDoor
