/- Bounds of the bytes of keys and values. -/
import Derived.Test.YtggnghnnlemccaaIl
namespace Go.Proofs.Ytggnghnnlemccaa
open Go.RowKit

theorem own_nil {w : World} {base : Nat} {e : TypeId} {s n m cap : Nat} {ad : Option Addr} {xs : List Value} (h : w.ownsRow base e s (.slice ad n cap) m xs) : ad = none → cap = 0 := by
  intro hn
  rcases h.2 with ⟨h1, _⟩ | ⟨g, c, cur, h1, _⟩
  · exact (Value.slice.inj h1).2.2
  · rw [hn] at h1; cases (Value.slice.inj h1).1

theorem bytesI_bd (K N : Int) (B : Nat) (zs : List Int) (h0 : 0 ≤ K) (h1 : K ≤ 255) (hz : ∀ i, 0 ≤ zs.getD i 0 ∧ zs.getD i 0 ≤ 255) (hl : zs.length ≤ 1048576) : (∀ i, 0 ≤ (bytesI K N B zs).getD i 0 ∧ (bytesI K N B zs).getD i 0 ≤ 255) ∧ (bytesI K N B zs).length ≤ 2097152 := by
  have key : ∀ ts : List Int, (∀ i, 0 ≤ ts.getD i 0 ∧ ts.getD i 0 ≤ 255) → ts.length ≤ 1048576 → (∀ i, 0 ≤ ([K] ++ ts).getD i 0 ∧ ([K] ++ ts).getD i 0 ≤ 255) ∧ ([K] ++ ts).length ≤ 2097152 := by
    intro ts h hl
    refine ⟨fun i => ?_, by simp; omega⟩
    match i with
    | 0 => exact ⟨h0, h1⟩
    | i + 1 => exact h i
  unfold bytesI
  apply key
  · intro i
    split
    · exact hi8_bd _ _ i
    · split
      · exact hi8_bd _ _ i
      · exact hz i
  · split
    · rw [hi8_length]; omega
    · split
      · rw [hi8_length]; omega
      · exact hl

theorem nil_bd : (∀ i, 0 ≤ ([] : List Int).getD i 0 ∧ ([] : List Int).getD i 0 ≤ 255) ∧ ([] : List Int).length ≤ 2097152 := ⟨fun i => by simp, by simp⟩

theorem okI_K {K N : Int} {f n : Nat} (h : okI K N f n = true) : 0 ≤ K ∧ K ≤ 3 := by
  have := of_decide_eq_true h
  omega
theorem okK_I {K N : Int} {f n : Nat} (h : okK K N f n = true) : okI K N f n = true ∧ K ≠ 0 ∧ f ≠ 9223372036854775808 := by
  unfold okK at h
  rw [Bool.and_eq_true] at h
  exact ⟨h.1, of_decide_eq_true h.2⟩

theorem keyB_bd {K N : Int} {f n : Nat} {zs RZ : List Int} (hR : keyB K N f n zs = RZ) (hz : ∀ i, 0 ≤ zs.getD i 0 ∧ zs.getD i 0 ≤ 255) (hl : zs.length ≤ 1048576) : (∀ i, 0 ≤ RZ.getD i 0 ∧ RZ.getD i 0 ≤ 255) ∧ RZ.length ≤ 2097152 := by
  subst hR
  unfold keyB
  split
  · rename_i h
    have hk := okI_K (okK_I h).1
    exact bytesI_bd K N _ zs hk.1 (by omega) hz hl
  · exact nil_bd
theorem valB_bd {K N : Int} {f n : Nat} {zs RZ : List Int} (hR : valB K N f n zs = RZ) (hz : ∀ i, 0 ≤ zs.getD i 0 ∧ zs.getD i 0 ≤ 255) (hl : zs.length ≤ 1048576) : (∀ i, 0 ≤ RZ.getD i 0 ∧ RZ.getD i 0 ≤ 255) ∧ RZ.length ≤ 2097152 := by
  subst hR
  unfold valB
  split
  · rename_i h
    have hk := okI_K h.1
    exact bytesI_bd K N _ zs hk.1 (by omega) hz hl
  · exact nil_bd

end Go.Proofs.Ytggnghnnlemccaa
