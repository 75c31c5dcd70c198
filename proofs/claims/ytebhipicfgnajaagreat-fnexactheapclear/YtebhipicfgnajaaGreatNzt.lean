/- Where rows of a call's own stand. No conditions. -/
import Derived.Test.YtebhipicfgnajaaGreatMga
namespace Go.Proofs.YtebhipicfgnajaaGreat
open Go.RowKit

/-- A slice's block stands in lo .. hi. -/
def In (ad : Option Addr) (lo hi : Nat) : Prop := ad = none ∨ ∃ g, ad = some ⟨g, 0, none⟩ ∧ lo ≤ g ∧ g < hi
theorem In.ne {ad ad' : Option Addr} {a b c d n cap : Nat} (h : In ad a b) (k : In ad' c d) (ho : b ≤ c ∨ d ≤ a) : ∀ x, ad = some x → some x.block ≠ (Value.slice ad' n cap).ownBlock := by
  intro x hx
  rcases k with rfl | ⟨g', rfl, h1, h2⟩
  · simp [Value.ownBlock]
  · rcases h with rfl | ⟨g, rfl, h3, h4⟩
    · cases hx
    · cases hx; simp [Value.ownBlock]; omega
theorem In.own {ad ad' : Option Addr} {a b c d n cap n' cap' : Nat} (h : In ad a b) (k : In ad' c d) (ho : b ≤ c ∨ d ≤ a) : (Value.slice ad n cap).ownBlock = none ∨ (Value.slice ad n cap).ownBlock ≠ (Value.slice ad' n' cap').ownBlock := by
  rcases h with rfl | ⟨g, rfl, h3, h4⟩
  · exact .inl rfl
  · rcases k with rfl | ⟨g', rfl, h1, h2⟩
    · exact .inr (by simp [Value.ownBlock])
    · exact .inr (by simp [Value.ownBlock]; omega)
theorem In.ge {ad : Option Addr} {a b n cap : Nat} (h : In ad a b) : ∀ k, (Value.slice ad n cap).ownBlock = some k → a ≤ k ∧ k < b := by
  intro k hk
  rcases h with rfl | ⟨g, rfl, h1, h2⟩
  · simp [Value.ownBlock] at hk
  · simp [Value.ownBlock] at hk; omega
theorem Reads.place {w : World} {base : Nat} {v : Value} {n : Nat} {zs : List Int} (h : w.ownsRow base 5 1 v n (bys zs)) (hbd : ∀ i, 0 ≤ zs.getD i 0 ∧ zs.getD i 0 ≤ 255) : ∃ ad cap, v = .slice ad n cap ∧ Reads w ad n zs ∧ In ad base w.heap.size ∧ (ad = none → cap = 0) := by
  obtain ⟨ad, cap, rfl, r, hi⟩ := Reads.own h hbd
  refine ⟨ad, cap, rfl, r, hi, fun e => ?_⟩
  subst e
  rcases h.2 with ⟨e, _⟩ | ⟨g, cap', cur, e, _⟩
  · exact (Value.slice.inj e).2.2
  · cases e
end Go.Proofs.YtebhipicfgnajaaGreat
